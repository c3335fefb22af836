/- Rows of numbers and of points; Index, Contains, In, SameInts, BinarySearchFunc, addNew. -/
import Derived.Test.YtpiknkgnmjcjjaaCmp14
namespace Go.Proofs.Ytpiknkgnmjcjjaa
set_option maxRecDepth 100000
open Go.RowKit

/-- The cells of a number. -/
def ics (n : Nat) : List Value := [.int .i64 (n : Nat)]
theorem ics_len (n : Nat) : (ics n).length = 1 := rfl
theorem ics_one (n : Nat) : ∀ u ∈ ics n, u.oneCell' = true := by simp [ics, Value.oneCell']
theorem Try.infoN : (Try.prog.info? 3).map (fun i => (i.zero, i.size, i.bytes)) = some (some (.int .i64 0), 1, 8) := by kernel_rfl
theorem Try.infoP : (Try.prog.info? 75).map (fun i => (i.zero, i.size, i.bytes)) = some (some (.agg #[.int .u32 0, .int .i64 0, .int .i64 0]), 3, 24) := by kernel_rfl
/-- A row of numbers. -/
structure Its (w : World) (t : Option Addr) (c : Nat) (l : List Nat) : Prop where
  len : l.length ≤ c
  at_ : ∀ i x, l[i]? = some x → ∃ g, t = some ⟨g, 0, none⟩ ∧ w.cell? ⟨g, i, none⟩ = some (.int .i64 (x : Nat))
theorem Its.nil (w : World) (t : Option Addr) (c : Nat) : Its w t c [] := ⟨by simp, fun i x h => by simp at h⟩
theorem Its.offD {D : Nat → Prop} {w w' : World} {t : Option Addr} {c : Nat} {l : List Nat} (h : Its w t c l) (o : Off D w w') (hD : ∀ k, k < w.heap.size → blk t = some k → ¬ D k) : Its w' t c l :=
  ⟨h.len, fun i x hi => by
    obtain ⟨g, rfl, h1⟩ := h.at_ i x hi
    exact ⟨g, rfl, by rw [← h1]; exact World.cell?_of_block (a := ⟨g, i, none⟩) (o.block g (cell_lt h1) (hD g (cell_lt h1) rfl))⟩⟩
theorem Its.off {w w' : World} {t : Option Addr} {c : Nat} {l : List Nat} (h : Its w t c l) (o : Off (fun _ => False) w w') : Its w' t c l := h.offD o (fun _ _ _ h => h)
theorem Its.take {w : World} {t : Option Addr} {c : Nat} {l : List Nat} (h : Its w t c l) (k : Nat) : Its w t c (l.take k) :=
  ⟨Nat.le_trans (by rw [List.length_take]; omega) h.len, fun i x hi => by
    rw [List.getElem?_take] at hi
    split at hi
    · exact h.at_ i x hi
    · cases hi⟩
theorem OwnG.its {w : World} {t : Option Addr} {c : Nat} {l : List Nat} (h : OwnG 3 1 ics w t c l) : Its w t c l := by
  refine ⟨?_, fun i x hi => ?_⟩
  · rcases h.row.2 with ⟨hv, h0⟩ | ⟨g, c, cur, hv, hb, hh, hc, -⟩
    · omega
    · simp only [Value.slice.injEq] at hv
      obtain ⟨-, -, rfl⟩ := hv
      exact hc
  · obtain ⟨g, rfl, hc⟩ := h.at_ ics_len hi
    have := hc 0 _ rfl
    exact ⟨g, rfl, by simpa using this⟩
/-- Is it one of them? -/
def inB (l : List Nat) (v : Int) : Bool := l.any fun x => decide ((x : Int) = v)
theorem inB_iff {l : List Nat} {v : Int} : inB l v = true ↔ ∃ x ∈ l, (x : Int) = v := by simp [inB]
theorem inB_nat (l : List Nat) (x : Nat) : inB l (x : Int) = decide (x ∈ l) := by
  rw [Bool.eq_iff_iff, inB_iff, decide_eq_true_iff]
  constructor
  · rintro ⟨y, hy, e⟩
    obtain rfl : y = x := by omega
    exact hy
  · exact fun h => ⟨x, h, rfl⟩
theorem index_any (t : Option Addr) (c : Nat) (l : List Nat) (v : Int) (w : World) (h : Its w t c l) (hl : l.length ≤ 1000000) :
    Calls Try.prog 39 #[.slice t l.length c, .int .i64 v] w fun e w' => ∃ r : Int, e = .returned (.int .i64 r) ∧ (decide (0 ≤ r) = inB l v) ∧ w' = w := by
  have HH : Hid _ := h
  clear h
  go_enter Try.func39, Try.ntmps39
  go_wp2_with fail
  go_loopw [8] (fun i wr => ∃ j : Nat, i = .int .i64 (j : Int) ∧ j ≤ l.length ∧ (∀ n x, n < j → l[n]? = some x → (x : Int) ≠ v) ∧ wr = w) (fun i _ => (l.length - intOf i).toNat)
  case atStart => exact ⟨0, rfl, by omega, fun n x hn => by omega, rfl⟩
  case round =>
    obtain ⟨j, rfl, hj, hno, rfl⟩ := hrel
    have HNO : Hid _ := hno
    clear hno
    by_cases hlt : j < l.length
    · obtain ⟨x, hx⟩ : ∃ x, l[j]? = some x := ⟨_, List.getElem?_eq_getElem hlt⟩
      obtain ⟨g, rfl, hc⟩ := HH.out.at_ j x hx
      have HX : Hid _ := hx
      clear hx
      by_cases hv : (x : Int) = v
      · subst hv
        have e0 : ((x : Int) == (x : Int)) = true := by simp
        have e1 : (x == x) = true := by simp
        go_wp2
        go_ret
        refine ⟨_, rfl, ?_, rfl⟩
        rw [decide_eq_true (by omega)]
        exact (inB_iff.2 ⟨x, List.mem_of_getElem? HX.out, rfl⟩).symm
      · have e0 : (v == (x : Int)) = false := by simp; omega
        have HV : Hid (¬ (x : Int) = v) := hv
        clear hv
        go_wp2
        go_roundw
        case rel =>
          refine ⟨j + 1, by go_num, by omega, fun n y hn hy => ?_, trivial⟩
          rcases Nat.lt_or_ge n j with h1 | h1
          · exact HNO.out n y h1 hy
          · obtain rfl : n = j := by omega
            have := HX.out
            rw [hy] at this
            cases this
            exact HV.out
        case measure => simp [intOf]; omega
    · obtain rfl : j = l.length := by omega
      go_wp2
      go_ret
      refine ⟨-1, rfl, ?_, rfl⟩
      have : inB l v = false := by
        cases hb : inB l v
        · rfl
        · obtain ⟨x, hx, e⟩ := inB_iff.1 hb
          obtain ⟨n, hn⟩ := List.getElem?_of_mem hx
          obtain ⟨hn', -⟩ := List.getElem?_eq_some_iff.1 hn
          exact absurd e (HNO.out n x hn' hn)
      rw [this]
      rfl
theorem contains_any (t : Option Addr) (c : Nat) (l : List Nat) (v : Int) (w : World) (h : Its w t c l) (hl : l.length ≤ 1000000) :
    Calls Try.prog 27 #[.slice t l.length c, .int .i64 v] w fun e w' => e = .returned (.bool (inB l v)) ∧ w' = w := by
  have HC : Hid _ := index_any t c l v w h hl
  clear h
  go_enter Try.func27, Try.ntmps27
  go_wp2_with fail
  refine Calls.mono HC.out ?_
  rintro e w1 ⟨r, rfl, hr, hw⟩
  rw [hw]
  clear hw w1
  have HR : Hid _ := hr
  clear hr
  go_wp2_with fail
  go_ret
  exact ⟨by rw [← HR.out]; rfl, rfl⟩
theorem in_any (t : Option Addr) (c : Nat) (l : List Nat) (v : Int) (w : World) (h : Its w t c l) (hl : l.length ≤ 1000000) :
    Calls Try.prog 16 #[.slice t l.length c, .int .i64 v] w fun e w' => e = .returned (.bool (inB l v)) ∧ w' = w := by
  have HH : Hid _ := h
  clear h
  go_enter Try.func16, Try.ntmps16
  go_wp2_with fail
  go_loopw [9] (fun i wr => ∃ j : Nat, i = .int .i64 (j : Int) ∧ j ≤ l.length ∧ (∀ n x, n < j → l[n]? = some x → (x : Int) ≠ v) ∧ wr = w) (fun i _ => (l.length - intOf i).toNat)
  case atStart => exact ⟨0, rfl, by omega, fun n x hn => by omega, rfl⟩
  case round =>
    obtain ⟨j, rfl, hj, hno, rfl⟩ := hrel
    have HNO : Hid _ := hno
    clear hno
    by_cases hlt : j < l.length
    · obtain ⟨x, hx⟩ : ∃ x, l[j]? = some x := ⟨_, List.getElem?_eq_getElem hlt⟩
      obtain ⟨g, rfl, hc⟩ := HH.out.at_ j x hx
      have HX : Hid _ := hx
      clear hx
      by_cases hv : (x : Int) = v
      · subst hv
        have e0 : ((x : Int) == (x : Int)) = true := by simp
        have e1 : (x == x) = true := by simp
        go_wp2
        go_ret
        refine ⟨?_, rfl⟩
        rw [inB_iff.2 ⟨x, List.mem_of_getElem? HX.out, rfl⟩]
        rfl
      · have e0 : ((x : Int) == v) = false := by simp; omega
        have HV : Hid (¬ (x : Int) = v) := hv
        clear hv
        go_wp2
        go_roundw
        case rel =>
          refine ⟨j + 1, by go_num, by omega, fun n y hn hy => ?_, trivial⟩
          rcases Nat.lt_or_ge n j with h1 | h1
          · exact HNO.out n y h1 hy
          · obtain rfl : n = j := by omega
            have := HX.out
            rw [hy] at this
            cases this
            exact HV.out
        case measure => simp [intOf]; omega
    · obtain rfl : j = l.length := by omega
      go_wp2
      go_ret
      refine ⟨?_, rfl⟩
      have : inB l v = false := by
        cases hb : inB l v
        · rfl
        · obtain ⟨x, hx, e⟩ := inB_iff.1 hb
          obtain ⟨n, hn⟩ := List.getElem?_of_mem hx
          obtain ⟨hn', -⟩ := List.getElem?_eq_some_iff.1 hn
          exact absurd e (HNO.out n x hn' hn)
      rw [this]
      rfl
theorem sameints_any (t t2 : Option Addr) (c c2 : Nat) (l : List Nat) (w : World) (h : Its w t c l) (h2 : Its w t2 c2 l) (hl : l.length ≤ 1000000) :
    Calls Try.prog 11 #[.slice t l.length c, .slice t2 l.length c2] w fun e w' => e = .returned (.bool true) ∧ Off (fun _ => False) w w' := by
  have HH : Hid _ := h
  have HH2 : Hid _ := h2
  clear h h2
  have e0 : ((l.length : Int) != (l.length : Int)) = false := by simp
  have e1 : (l.length != l.length) = false := by simp
  go_enter Try.func11, Try.ntmps11
  go_wp2_with fail
  go_loopw [13] (fun i wr => ∃ j : Nat, i = .int .i64 (j : Int) ∧ j ≤ l.length ∧ Off (fun _ => False) w wr) (fun i _ => (l.length - intOf i).toNat)
  case atStart => exact ⟨0, rfl, by omega, Off.refl _ _⟩
  case round =>
    obtain ⟨j, rfl, hj, o⟩ := hrel
    have HO : Hid _ := o
    clear o
    by_cases hlt : j < l.length
    · obtain ⟨x, hx⟩ : ∃ x, l[j]? = some x := ⟨_, List.getElem?_eq_getElem hlt⟩
      obtain ⟨g, rfl, -⟩ := HH.out.at_ j x hx
      obtain ⟨g2, rfl, -⟩ := HH2.out.at_ j x hx
      have HX : Hid (∀ w', Off (fun _ => False) wr w' → w'.cell? ⟨g, j, none⟩ = some (.int .i64 (x : Nat))) := fun w' hw' => by
        obtain ⟨g', e', k⟩ := ((HH.out.off HO.out).off hw').at_ j x hx
        simp only [Option.some.injEq, Addr.mk.injEq, and_true] at e'
        subst e'
        exact k
      have HY : Hid (∀ w', Off (fun _ => False) wr w' → w'.cell? ⟨g2, j, none⟩ = some (.int .i64 (x : Nat))) := fun w' hw' => by
        obtain ⟨g', e', k⟩ := ((HH2.out.off HO.out).off hw').at_ j x hx
        simp only [Option.some.injEq, Addr.mk.injEq, and_true] at e'
        subst e'
        exact k
      clear hx
      have e2 : ((x : Int) != (x : Int)) = false := by simp
      have e3 : (x != x) = false := by simp
      go_upto_region 6 with fail
      refine wp_region_held_drew (S := Off (fun _ => False) wr) (by kernel_rfl) ((Off.refl _ wr).drew) (fun hS => ?_)
      refine take_at (i := 0) 16 (v := .slice (some ⟨g, 0, none⟩) l.length c) rfl rfl (by kernel_rfl) (by kernel_rfl) (by kernel_rfl) (fun _ _ _ h => h) (Or.inl ⟨by rfl, fun w' hw' => by go_simp⟩) hS ?_
      simp only [Act.put, List.setIfInBounds_toArray, List.set_cons_zero, List.set_cons_succ]
      refine take_at (i := 1) 17 (v := .int .i64 (j : Int)) rfl rfl (by kernel_rfl) (by kernel_rfl) (by kernel_rfl) (fun _ _ _ h => h) (Or.inl ⟨by rfl, fun w' hw' => by go_simp⟩) hS ?_
      simp only [Act.put, List.setIfInBounds_toArray, List.set_cons_zero, List.set_cons_succ]
      refine take_at (i := 2) 18 (v := .pointer (some ⟨g, j, none⟩)) rfl rfl (by kernel_rfl) (by kernel_rfl) (by kernel_rfl) (fun _ _ _ h => h) (Or.inl ⟨by rfl, fun w' hw' => by go_simp⟩) hS ?_
      simp only [Act.put, List.setIfInBounds_toArray, List.set_cons_zero, List.set_cons_succ]
      refine take_at (i := 3) 19 (v := .int .i64 (x : Nat)) rfl rfl (by kernel_rfl) (by kernel_rfl) (by kernel_rfl) (fun _ _ _ h => h) (Or.inl ⟨by rfl, fun w' hw' => by have y0 := HX.out w' hw'; go_simp⟩) hS ?_
      simp only [Act.put, List.setIfInBounds_toArray, List.set_cons_zero, List.set_cons_succ]
      refine take_at (i := 4) 20 (v := .slice (some ⟨g2, 0, none⟩) l.length c2) rfl rfl (by kernel_rfl) (by kernel_rfl) (by kernel_rfl) (fun _ _ _ h => h) (Or.inl ⟨by rfl, fun w' hw' => by go_simp⟩) hS ?_
      simp only [Act.put, List.setIfInBounds_toArray, List.set_cons_zero, List.set_cons_succ]
      refine take_at (i := 5) 21 (v := .int .i64 (j : Int)) rfl rfl (by kernel_rfl) (by kernel_rfl) (by kernel_rfl) (fun _ _ _ h => h) (Or.inl ⟨by rfl, fun w' hw' => by go_simp⟩) hS ?_
      simp only [Act.put, List.setIfInBounds_toArray, List.set_cons_zero, List.set_cons_succ]
      refine take_at (i := 6) 22 (v := .pointer (some ⟨g2, j, none⟩)) rfl rfl (by kernel_rfl) (by kernel_rfl) (by kernel_rfl) (fun _ _ _ h => h) (Or.inl ⟨by rfl, fun w' hw' => by go_simp⟩) hS ?_
      simp only [Act.put, List.setIfInBounds_toArray, List.set_cons_zero, List.set_cons_succ]
      refine take_at (i := 7) 23 (v := .int .i64 (x : Nat)) rfl rfl (by kernel_rfl) (by kernel_rfl) (by kernel_rfl) (fun _ _ _ h => h) (Or.inl ⟨by rfl, fun w' hw' => by have y0 := HY.out w' hw'; go_simp⟩) hS ?_
      simp only [Act.put, List.setIfInBounds_toArray, List.set_cons_zero, List.set_cons_succ]
      refine take_at (i := 8) 24 (v := .bool false) rfl rfl (by kernel_rfl) (by kernel_rfl) (by kernel_rfl) (fun _ _ _ h => h) (Or.inl ⟨by rfl, fun w' hw' => by go_simp⟩) hS ?_
      simp only [Act.put, List.setIfInBounds_toArray, List.set_cons_zero, List.set_cons_succ]
      refine wpAnyH_done (by kernel_rfl) ?_ _
      go_wp2_with fail
      go_roundw
      case rel => exact ⟨j + 1, by go_num, by omega, HO.out.trans hS (fun _ _ h => h)⟩
      case measure => simp [intOf]; omega
    · obtain rfl : j = l.length := by omega
      go_wp2
      go_ret
      exact ⟨rfl, HO.out⟩
end Go.Proofs.Ytpiknkgnmjcjjaa
