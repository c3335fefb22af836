/- The contract of package lazy's At. -/
import Derived.Test.YtmdhcoplhibbeaaLFill
namespace Go.Proofs.Ytmdhcoplhibbeaa
set_option maxRecDepth 100000
open Go.RowKit

/-- A table whose numbers have been made. -/
def Full (b r k : Nat) (m : Int) (F : Nat → Int) (w : World) : Prop := (∃ fv, Tb b k fv 1 0 (.slice (some ⟨r, 0, none⟩) k k) m w) ∧ Cel r 55 (row F k k) w
theorem Full.off {D : Nat → Prop} {b r k : Nat} {m : Int} {F : Nat → Int} {w w' : World} (h : Full b r k m F w) (o : Off D w w') (hb : ¬ D b) (hr : ¬ D r) : Full b r k m F w' :=
  ⟨h.1.elim fun fv t => ⟨fv, t.off o hb⟩, h.2.off o hr⟩

theorem at_out (b : Nat) (k : Int) (fv : Value) (d s : Int) (nums : Value) (m i : Int) (w : World) (h : Tb b k fv d s nums m w) (hi : i < 0 ∨ k ≤ i) :
    Calls Try.prog 48 #[.pointer (some ⟨b, 0, none⟩), .int .i64 i] w fun e w' => e = .returned (.int .u32 0) ∧ w' = w := by
  have c0 := h.c0
  by_cases hx : i < 0
  · clear hi
    go_enter Try.func48, Try.ntmps48
    go_wp2_with fail
    go_ret
    exact ⟨rfl, rfl⟩
  · have hy : k ≤ i := by omega
    clear hi
    go_enter Try.func48, Try.ntmps48
    go_wp2_with fail
    go_ret
    exact ⟨rfl, rfl⟩

theorem at_full (b r k : Nat) (m : Int) (F : Nat → Int) (i : Nat) (hi : i < k) (w : World) (h : Full b r k m F w) :
    Calls Try.prog 48 #[.pointer (some ⟨b, 0, none⟩), .int .i64 i] w fun e w' => e = .returned (.int .u32 (F i)) ∧ w' = w := by
  obtain ⟨⟨fv, h⟩, hr⟩ := h
  have c0 := h.c0
  have c2 := h.c2
  have c5 := h.c5
  have ci := (hr.cell i).trans (row_get F k k i hi)
  rw [if_pos hi] at ci
  have hmf : ∀ (fn : Fn) (first cap : Array Value) (w : World), (Instr.makeFunc fn first cap).run Try.prog w = .ok (.func fn first cap) w := fun _ _ _ _ => rfl
  go_enter Try.func48, Try.ntmps48
  go_wp2_with fail
  refine (do_done ⟨b, 2, none⟩ _ _ c2).mono ?_
  rintro e w' ⟨rfl, rfl⟩
  go_wp2_with fail
  go_ret
  exact ⟨rfl, rfl⟩

theorem at_first (b k : Nat) (hk : k ≤ 4096) (g : FuncId) (caps : Array Value) (F : Nat → Int) (D : Nat → Prop) (Inv : Nat → World → Prop) (nums : Value) (i : Nat) (hi : i < k) (w : World)
    (ht : Tb b k (.func (.func g) #[] caps) 0 0 nums 0 w) (M : Makes g caps k F D Inv) (hI : Inv 0 w) (hD : ¬ D b) :
    Calls Try.prog 48 #[.pointer (some ⟨b, 0, none⟩), .int .i64 i] w fun e w' => e = .returned (.int .u32 (F i)) ∧
      ∃ r, w.heap.size ≤ r ∧ Full b r k k F w' ∧ Inv k w' ∧ Off (fun c => c = b ∨ D c) w w' := by
  have c0 := ht.c0
  have O1 : Off (fun c => c = b) w (w.setCell ⟨b, 3, none⟩ (.int .i32 1)) := (Off.refl (fun c => c = b) w).setCell (p := ⟨b, 3, none⟩) (.inl rfl) _
  have A : Hid _ := do_first b w (fun w2 => ∃ r, w.heap.size ≤ r ∧ Cel r 55 (row F k k) w2 ∧ Tb b k .nilFunc 0 1 (.slice (some ⟨r, 0, none⟩) k k) k w2 ∧ Inv k w2 ∧ Off (fun c => c = b ∨ D c) w w2) k _ nums 0 ht (fun w1 h1 => by
    subst h1
    refine (fill_some b k hk 0 1 nums 0 _ g caps F D Inv (ht.s3 1) M (M.keep (fun c => c = b) 0 w _ (fun c h e => hD (e ▸ h)) hI O1) hD).mono ?_
    rintro e w2 ⟨rfl, r, hr, R, T, I, O⟩
    refine ⟨rfl, ⟨r, by simpa [World.setCell] using hr, R, T, I, ?_⟩, _, _, _, T⟩
    exact (O1.mono (E := fun c => c = b ∨ D c) (fun _ _ h => .inl h)).trans O (fun _ _ h => h))
  have hmf : ∀ (fn : Fn) (first cap : Array Value) (w : World), (Instr.makeFunc fn first cap).run Try.prog w = .ok (.func fn first cap) w := fun _ _ _ _ => rfl
  go_enter Try.func48, Try.ntmps48
  go_wp2_with fail
  refine Calls.mono A.out ?_
  rintro e w' ⟨rfl, w2, ⟨r, hr, R, T, I, O⟩, -, rfl⟩
  have T4 : Tb b k .nilFunc 1 0 (.slice (some ⟨r, 0, none⟩) k k) k ((w2.drew.setCell ⟨b, 2, none⟩ (.int .u32 1)).setCell ⟨b, 3, none⟩ (.int .i32 0)) := (Tb.s2 (Cel.drew T) 1).s3 0
  have O4 : Off (fun c => c = b) w2 ((w2.drew.setCell ⟨b, 2, none⟩ (.int .u32 1)).setCell ⟨b, 3, none⟩ (.int .i32 0)) := (((Off.refl (fun c => c = b) w2).drew).setCell (p := ⟨b, 2, none⟩) (.inl rfl) _).setCell (p := ⟨b, 3, none⟩) (.inl rfl) _
  have R4 := R.off O4 (by have := ht.lt; omega)
  have I4 := M.keep (fun c => c = b) _ w2 _ (fun c h e => hD (e ▸ h)) I O4
  have F4 : Hid (∃ r, w.heap.size ≤ r ∧ Full b r k k F ((w2.drew.setCell ⟨b, 2, none⟩ (.int .u32 1)).setCell ⟨b, 3, none⟩ (.int .i32 0)) ∧ Inv k ((w2.drew.setCell ⟨b, 2, none⟩ (.int .u32 1)).setCell ⟨b, 3, none⟩ (.int .i32 0)) ∧ Off (fun c => c = b ∨ D c) w ((w2.drew.setCell ⟨b, 2, none⟩ (.int .u32 1)).setCell ⟨b, 3, none⟩ (.int .i32 0))) := ⟨r, hr, ⟨⟨_, T4⟩, R4⟩, I4, O.trans O4 (fun _ _ h => .inl h)⟩
  have c5 := T4.c5
  have ci := (R4.cell i).trans (row_get F k k i hi)
  rw [if_pos hi] at ci
  generalize (w2.drew.setCell ⟨b, 2, none⟩ (.int .u32 1)).setCell ⟨b, 3, none⟩ (.int .i32 0) = w5 at *
  clear T4 O4 R4 I4 T R I O
  go_wp2_with fail
  go_ret
  exact ⟨rfl, F4.out⟩

/-- What a table tells at i. -/
def told (F : Nat → Int) (k : Nat) (i : Int) : Int := if 0 ≤ i ∧ i < k then F i.toNat else 0

/-- A table of a function that always tells the same: fresh, or made (its numbers in a block from lo on). -/
def St (b k : Nat) (fv : Value) (F : Nat → Int) (lo : Nat) (w : World) : Prop := (∃ nums, Tb b k fv 0 0 nums 0 w) ∨ ∃ r, lo ≤ r ∧ Full b r k k F w
theorem St.off {D : Nat → Prop} {b k : Nat} {fv : Value} {F : Nat → Int} {lo : Nat} {w w' : World} (h : St b k fv F lo w) (o : Off D w w') (hb : ¬ D b) (hr : ∀ r, D r → r < lo) : St b k fv F lo w' := by
  rcases h with ⟨nums, t⟩ | ⟨r, hl, f⟩
  · exact .inl ⟨nums, t.off o hb⟩
  · exact .inr ⟨r, hl, f.off o hb (fun e => by have := hr r e; omega)⟩

theorem at_st (b k : Nat) (hk : k ≤ 4096) (g : FuncId) (caps : Array Value) (F : Nat → Int) (D : Nat → Prop) (I : World → Prop) (lo : Nat) (i : Int) (w : World)
    (ht : St b k (.func (.func g) #[] caps) F lo w) (M : Makes g caps k F D (fun _ => I)) (hI : I w) (hD : ¬ D b) (hlo : lo ≤ w.heap.size) :
    Calls Try.prog 48 #[.pointer (some ⟨b, 0, none⟩), .int .i64 i] w fun e w' => e = .returned (.int .u32 (told F k i)) ∧
      St b k (.func (.func g) #[] caps) F lo w' ∧ (0 ≤ i ∧ i < k → ∃ r, lo ≤ r ∧ Full b r k k F w') ∧ I w' ∧ Off (fun c => c = b ∨ D c) w w' := by
  by_cases hi : 0 ≤ i ∧ i < k
  · obtain ⟨j, rfl⟩ := Int.eq_ofNat_of_zero_le hi.1
    have e : told F k (j : Int) = F j := by simp [told, hi]
    rw [e]
    have hj : j < k := by omega
    rcases ht with ⟨nums, t⟩ | ⟨r, hl, f⟩
    · refine (at_first b k hk g caps F D (fun _ => I) nums j hj w t M hI hD).mono ?_
      rintro e w' ⟨rfl, r, hr, f, I', O⟩
      exact ⟨rfl, .inr ⟨r, by omega, f⟩, fun _ => ⟨r, by omega, f⟩, I', O⟩
    · refine (at_full b r k k F j hj w f).mono ?_
      rintro e w' ⟨rfl, rfl⟩
      exact ⟨rfl, .inr ⟨r, hl, f⟩, fun _ => ⟨r, hl, f⟩, hI, Off.refl _ _⟩
  · have e : told F k i = 0 := by simp [told, hi]
    rw [e]
    obtain ⟨fv, d, s, nums, m, t⟩ : ∃ fv d s nums m, Tb b k fv d s nums m w := by
      rcases ht with ⟨nums, t⟩ | ⟨r, hl, ⟨fv, t⟩, -⟩
      · exact ⟨_, _, _, _, _, t⟩
      · exact ⟨_, _, _, _, _, t⟩
    refine (at_out b k fv d s nums m i w t (by omega)).mono ?_
    rintro e w' ⟨rfl, rfl⟩
    exact ⟨rfl, ht, fun h => absurd h hi, hI, Off.refl _ _⟩
end Go.Proofs.Ytmdhcoplhibbeaa
