/- The contracts of package lazy's fill and At. -/
import Derived.Test.YtmdhcoplhibbeaaLTab
import Derived.Deep.RegionWith
import Derived.Laws.EntriesVeiled
namespace Go.Proofs.Ytmdhcoplhibbeaa
set_option maxRecDepth 100000
open Go.RowKit

theorem Try.info22 : (Try.prog.info? 55).map (fun i => (i.zero, i.size, i.bytes)) = some (some (.int .u32 0), 1, 4) := by kernel_rfl

/-- The numbers of a table of k of which j have been made. -/
def row (F : Nat → Int) (j k : Nat) : Array Value := ((List.range k).map fun i => Value.int .u32 (if i < j then F i else 0)).toArray
theorem row_size (F : Nat → Int) (j k : Nat) : (row F j k).size = k := by simp [row]
theorem row_get (F : Nat → Int) (j k i : Nat) (h : i < k) : (row F j k)[i]? = some (.int .u32 (if i < j then F i else 0)) := by
  simp [row, List.getElem?_toArray, List.getElem?_map, List.getElem?_range h]
theorem row_zero (F : Nat → Int) (k : Nat) : row F 0 k = (List.replicate k (Value.int .u32 0)).toArray := by
  simp only [row, Nat.not_lt_zero, if_false]
  congr 1
  induction k with
  | zero => rfl
  | succ k ih => rw [List.range_succ, List.map_append, ih, List.replicate_succ']; rfl
theorem row_set (F : Nat → Int) (j k : Nat) : (row F j k).setIfInBounds j (.int .u32 (F j)) = row F (j + 1) k := by
  apply Array.ext_getElem?
  intro i
  rw [Array.getElem?_setIfInBounds]
  by_cases hi : i < k
  · by_cases hij : j = i
    · subst hij
      rw [if_pos rfl, row_get _ _ _ _ hi, row_size]
      simp [hi]
    · rw [if_neg hij, row_get _ _ _ _ hi, row_get _ _ _ _ hi]
      have : (i < j) ↔ (i < j + 1) := by omega
      simp [this]
  · have h1 : (row F j k)[i]? = none := by simp [row_size]; omega
    have h2 : (row F (j + 1) k)[i]? = none := by simp [row_size]; omega
    by_cases hij : j = i
    · subst hij
      rw [if_pos rfl, h2, row_size]
      simp [hi]
    · rw [if_neg hij, h1, h2]

/-- What a function that is handed to New does: it tells F, one after the other, from what lies in the blocks of D alone. -/
structure Makes (g : FuncId) (caps : Array Value) (k : Nat) (F : Nat → Int) (D : Nat → Prop) (Inv : Nat → World → Prop) : Prop where
  call : ∀ j, j < k → ∀ w, Inv j w → Calls Try.prog g (#[.int .i64 (j : Int)] ++ caps) w fun e w' => e = .returned (.int .u32 (F j)) ∧ Inv (j + 1) w' ∧ Off D w w'
  keep : ∀ (E : Nat → Prop) j w w', (∀ c, D c → ¬ E c) → Inv j w → Off E w w' → Inv j w'
  old : ∀ j w, Inv j w → ∀ c, D c → c < w.heap.size
  enters : ∀ args w, (callFunc g args).run Try.prog w = .ok (.enter g args) w

theorem own_row (F : Nat → Int) {r k : Nat} {w1 : World} (h : w1.ownsRow 0 55 1 (.slice (some ⟨r, 0, none⟩) k k) k (madeCells (Value.int .u32 0).cells (k * 1)).toList) : Cel r 55 (row F 0 k) w1 := by
  have e : (madeCells (Value.int .u32 0).cells (k * 1)).toList = List.replicate k (Value.int .u32 0) := by
    have := toList_madeCells_one (Value.int .u32 0) (k * 1)
    simpa [Value.cells] using this
  rw [e] at h
  rcases h.2 with ⟨h', -⟩ | ⟨g, cap, cur, h', -, hg, -, -, hs, ht⟩
  · simp at h'
  · simp only [Value.slice.injEq, Option.some.injEq, Addr.mk.injEq, and_true, true_and] at h'
    obtain ⟨rfl, rfl⟩ := h'
    rw [List.take_of_length_le (by simp [hs])] at ht
    have : cur = row F 0 k := by rw [row_zero, ← ht]
    rw [← this]
    exact ⟨hg⟩

theorem eq_nilfn (w : World) : (binOp .eql 69 .nilFunc .nilFunc).run Try.prog w = .ok (.bool true) w := by kernel_rfl
theorem eq_fn (g : Fn) (a c : Array Value) (w : World) : (binOp .eql 69 (.func g a c) .nilFunc).run Try.prog w = .ok (.bool false) w := by kernel_rfl

theorem Tb.grown {b : Nat} {k : Int} {fv : Value} {d s : Int} {nums : Value} {m : Int} {w w' : World} (h : Tb b k fv d s nums m w) (hg : w.grownBy w' none) : Tb b k fv d s nums m w' :=
  ⟨(hg.block b h.lt (by simp)).trans (Cel.is h)⟩

theorem i64store (a : Addr) (y x : Int) (w : World) (hc : w.cell? a = some (.int .i64 x)) (hz : w.frozen? a = false) :
    Calls Try.prog 54 #[.pointer (some a), .int .i64 y] w fun e w' => e = .returned (.tuple #[]) ∧ w' = w.setCell a (.int .i64 y) := by
  have hst := run_call_store (P := Try.prog) Try.func60 (by kernel_rfl) (by kernel_rfl) (by kernel_rfl) (by kernel_rfl) (k := .i64) (y := y) hc hz
  go_enter Try.func54, Try.ntmps54
  go_wp2
  go_end0
  exact ⟨rfl, rfl⟩

theorem ask_step {b k : Nat} {d s : Int} {m : Int} {g : FuncId} {caps : Array Value} {F : Nat → Int} {D : Nat → Prop} {Inv : Nat → World → Prop} {w wr : World} {r j : Nat} {nums fv : Value}
    (M : Makes g caps k F D Inv) (hD : ¬ D b) (hw : ∀ c, D c → c < w.heap.size) (hr : w.heap.size ≤ r) (hj : j < k)
    (R : Cel r 55 (row F j k) wr) (T : Tb b k fv d s nums m wr) (I : Inv j wr) (O : Off (fun c => c = b ∨ D c) w wr) :
    Calls Try.prog 53 #[.func (.func g) #[] caps, .int .i64 j] wr.drew fun e w2 => e = .returned (.int .u32 (F j)) ∧
      Cel r 55 (row F j k) w2 ∧ Tb b k fv d s nums m w2 ∧ Inv (j + 1) w2 ∧ Off (fun c => c = b ∨ D c) w w2 := by
  have hO : Off (fun _ => False) wr (wr.drew.alloc (.cells #[.int .u32 0] 55)) := (Off.refl _ _).drew.alloc _
  have hI : Inv j (wr.drew.alloc (.cells #[.int .u32 0] 55)) := M.keep (fun _ => False) j wr _ (fun _ _ h => h) I hO
  have hn : ¬ D wr.heap.size := fun h => by have := M.old j wr I _ h; omega
  refine (ask_some g caps j (F j) wr.drew (fun w2 => Cel r 55 (row F j k) w2 ∧ Tb b k fv d s nums m w2 ∧ Inv (j + 1) w2 ∧ Off (fun c => c = b ∨ D c) w w2) M.enters ?_).mono ?_
  · refine (M.call j hj _ hI).mono ?_
    rintro e w2 ⟨rfl, I2, O2⟩
    refine ⟨rfl, ⟨?_, ?_, I2, ?_⟩, ?_⟩
    · exact ((R.drew).alloc _).off O2 (fun h => by have := hw r h; omega)
    · exact (Cel.alloc (Cel.drew T) _).off O2 hD
    · exact (O.drew.alloc _).trans O2 (fun i _ h => .inr h)
    · exact (Cel.new _ _ _).off O2 hn
  · rintro e w2 ⟨rfl, w1, ⟨R1, T1, I1, O1⟩, C1, rfl⟩
    have hs : w.heap.size ≤ wr.heap.size := O.size
    refine ⟨rfl, R1.other ?_ _, Cel.other T1 ?_ _, ?_, O1.setCell (.inr hs) _⟩
    · have := R.lt; simp; omega
    · have := T.lt; simp; omega
    · exact M.keep (fun c => c = wr.heap.size) _ w1 _ (fun c h e => hn (e ▸ h)) I1 ((Off.refl (fun c => c = wr.heap.size) w1).setCell (.inl rfl) _)

theorem fill_some (b k : Nat) (hk : k ≤ 4096) (d s : Int) (nums : Value) (m : Int) (w : World) (g : FuncId) (caps : Array Value) (F : Nat → Int) (D : Nat → Prop) (Inv : Nat → World → Prop)
    (ht : Tb b k (.func (.func g) #[] caps) d s nums m w) (M : Makes g caps k F D Inv) (hI : Inv 0 w) (hD : ¬ D b) :
    Calls Try.prog 50 #[.pointer (some ⟨b, 0, none⟩)] w fun e w' => e = .returned (.tuple #[]) ∧
      ∃ r, w.heap.size ≤ r ∧ Cel r 55 (row F k k) w' ∧ Tb b k .nilFunc d s (.slice (some ⟨r, 0, none⟩) k k) k w' ∧ Inv k w' ∧ Off (fun c => c = b ∨ D c) w w' := by
  obtain ⟨i0, hi, hz0, hz1, hz2⟩ := info_parts Try.info22
  have c0 := ht.c0
  have c1 := ht.c1
  have q0 := eq_nilfn
  have q1 := eq_fn
  go_enter Try.func50, Try.ntmps50
  go_wp2_with (at_make; refine wpList_make_full _ rfl _ _ 68 rfl 0 55 i0 (.int .u32 0) 1 Try.underlying68 hi hz0 hz1 _ _ _ _ k rfl rfl rfl rfl (by rw [hz2]; omega) (by unfold maxLen; omega) (Nat.zero_le _) ?_; intro w1 hown hgrow; have t1 := Tb.grown ht hgrow; have d5 := t1.c5; have g5 := t1.fr 5; have d1 := t1.c1)
  have R0 := (own_row F hown).other (p := ⟨b, 5, none⟩) (by simpa using (Nat.ne_of_gt ht.lt)) (.slice (some ⟨w.heap.size, 0, none⟩) k k)
  have T0 := t1.s5 (.slice (some ⟨w.heap.size, 0, none⟩) k k)
  have O0 := ((Off.refl (fun c => c = b ∨ D c) w).grown hgrow (by simp)).setCell (p := ⟨b, 5, none⟩) (.inl (.inl rfl)) (.slice (some ⟨w.heap.size, 0, none⟩) k k)
  have I0 : Inv 0 (w1.setCell ⟨b, 5, none⟩ (.slice (some ⟨w.heap.size, 0, none⟩) k k)) := M.keep (fun c => c = b) 0 w _ (fun c h e => hD (e ▸ h)) hI (((Off.refl (fun c => c = b) w).grown hgrow (by simp)).setCell (p := ⟨b, 5, none⟩) (.inl rfl) _)
  clear hown hgrow t1 d5 g5 d1 c0 c1
  go_loopw [21] (fun i wr => ∃ j : Nat, j ≤ k ∧ i = .int .i64 j ∧ Cel w.heap.size 55 (row F j k) wr ∧ Tb b k (.func (.func g) #[] caps) d s (.slice (some ⟨w.heap.size, 0, none⟩) k k) m wr ∧ Inv j wr ∧ Off (fun c => c = b ∨ D c) w wr) (fun i _ => (k - intOf i).toNat)
  case atStart => exact ⟨0, by omega, rfl, R0, T0, I0, O0⟩
  case round =>
    clear R0 T0 O0 I0
    obtain ⟨j, hj, rfl, R, T, I, O⟩ := hrel
    by_cases hlt : j < k
    · have A : Hid _ := ask_step M hD (M.old 0 w hI) (Nat.le_refl _) hlt R T I O
      have e0 := T.c5
      have e1 := T.c1
      clear R T
      go_wp2_with fail
      go_region_with (go_at_call 53; refine Calls.mono A.out ?_; rintro e w2 ⟨rfl, R2, T2, I2, O2⟩; have e5 := T2.c5; have r5 := (R2.cell j).trans (row_get F j k j hlt); have fr := R2.free j)
      all_goals
        go_wp2_with fail
        go_roundw
        case rel => exact ⟨j + 1, by omega, by go_num, row_set F j k ▸ R2.set j _, Cel.other T2 (by have := ht.lt; simp; omega) _, M.keep (fun c => c = w.heap.size) _ w2 _ (fun c h e => by have := M.old 0 w hI c h; omega) I2 ((Off.refl (fun c => c = w.heap.size) w2).setCell (.inl rfl) _), O2.setCell (.inr (Nat.le_refl _)) _⟩
        case measure => simp [intOf]; omega
    · obtain rfl : j = k := by omega
      have e1 := T.c1
      have g1 := T.fr 1
      have T3 := T.s1 .nilFunc
      have e0 := T3.c0
      have S := i64store ⟨b, 6, none⟩ j m (wr.setCell ⟨b, 1, none⟩ .nilFunc).drew T3.c6 (T3.fr 6)
      go_wp2_with fail
      go_region_with (go_at_call 54; refine Calls.mono S ?_; rintro e w2 ⟨rfl, rfl⟩)
      all_goals
        go_wp2_with fail
        go_end0
        have O3 : Off (fun c => c = b) wr (((wr.setCell ⟨b, 1, none⟩ .nilFunc).drew).setCell ⟨b, 6, none⟩ (.int .i64 j)) := ((((Off.refl (fun c => c = b) wr).setCell (p := ⟨b, 1, none⟩) (.inl rfl) .nilFunc)).drew).setCell (p := ⟨b, 6, none⟩) (.inl rfl) _
        exact ⟨rfl, w.heap.size, Nat.le_refl _, R.off O3 (by have := ht.lt; omega), Tb.s6 (Cel.drew T3) _, M.keep (fun c => c = b) _ wr _ (fun c h e => hD (e ▸ h)) I O3, O.trans O3 (fun i _ h => .inl h)⟩
end Go.Proofs.Ytmdhcoplhibbeaa
