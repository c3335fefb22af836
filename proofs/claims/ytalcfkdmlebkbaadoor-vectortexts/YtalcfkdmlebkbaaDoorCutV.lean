/- strings.Cut at a comma, however long the text. -/
import Derived.Test.YtalcfkdmlebkbaaDoorTextQ
import Derived.Test.YtalcfkdmlebkbaaDoorShelf2
import Derived.Lib.IndexLaws
import Derived.OwnWalk
namespace Go.Proofs.YtalcfkdmlebkbaaDoor
open Go.RowKit

/-- What lies ahead of the first comma, what behind it, whether there is one. -/
def cutA : List UInt8 → List UInt8
  | [] => []
  | c :: l => if c = 44 then [] else c :: cutA l
def cutB : List UInt8 → List UInt8
  | [] => []
  | c :: l => if c = 44 then l else cutB l
def cutF : List UInt8 → Bool
  | [] => false
  | c :: l => if c = 44 then true else cutF l
theorem idx_cut (l : List UInt8) : (cutF l = true ∧ Lib.indexByte l 44 = ((cutA l).length : Int) ∧ l = cutA l ++ 44 :: cutB l) ∨ (cutF l = false ∧ Lib.indexByte l 44 = -1 ∧ cutA l = l ∧ cutB l = []) := by
  induction l with
  | nil => right; simp [cutF, cutA, cutB, Lib.indexByte]
  | cons c l ih =>
    by_cases h : c = 44
    · left
      subst h
      simp [cutF, cutA, cutB, Lib.indexByte]
    · have h2 : (c == 44) = false := by simpa using h
      rcases ih with ⟨h1, h3, h4⟩ | ⟨h1, h3, h4, h5⟩
      · left
        have h6 : ((Lib.indexByte l 44) == -1) = false := by rw [h3, beq_eq_false_iff_ne]; omega
        refine ⟨by simp [cutF, h, h1], ?_, ?_⟩
        · simp only [Lib.indexByte, h2, h6, cutA, h]
          rw [h3]
          simp
        · simp only [cutA, cutB, h, if_false, List.cons_append]
          rw [← h4]
      · right
        refine ⟨by simp [cutF, h, h1], ?_, ?_, ?_⟩
        · simp [Lib.indexByte, h2, h3]
        · simp [cutA, h, h4]
        · simp [cutB, h, h5]
theorem ext_front (l : List UInt8) (k : Nat) : (⟨l.toArray⟩ : ByteArray).extract 0 k = ⟨(l.take k).toArray⟩ := by
  apply ByteArray.ext
  simp [ByteArray.data_extract]
theorem ext_back (l : List UInt8) (k n : Nat) (h : l.length ≤ n) : (⟨l.toArray⟩ : ByteArray).extract k n = ⟨(l.drop k).toArray⟩ := by
  apply ByteArray.ext
  simp [ByteArray.data_extract]
  rw [List.take_of_length_le]
  simp
  omega
set_option maxRecDepth 100000 in
set_option maxRecDepth 100000 in
theorem index_any (l : List UInt8) (w : World) : Calls Tryd.prog 74 #[.string ⟨l.toArray⟩, .string ⟨#[44]⟩] w fun e w' => e = .returned (.int .i64 (Lib.indexByte l 44)) ∧ w' = w := by
  by_cases hl : l = [44]
  · subst hl
    have e0 : Hid (Lib.indexByte [44] 44 = 0) := (show Lib.indexByte [44] 44 = 0 by decide)
    go_enter Tryd.func74, Tryd.ntmps74
    go_wp2_with fail
    go_ret
    rw [e0.out]
    exact ⟨rfl, rfl⟩
  · have e : (([44] : List UInt8) == l) = false := by
      rw [beq_eq_false_iff_ne]
      exact fun h => hl h.symm
    clear hl
    go_enter Tryd.func74, Tryd.ntmps74
    go_wp2_with fail
    refine (Tryd.stringslite_IndexByte ⟨l.toArray⟩ 44 _).mono ?_
    rintro e w1 ⟨rfl, hw⟩
    rw [hw]; clear hw w1
    go_wp2_with fail
    go_ret
    exact ⟨rfl, rfl⟩
theorem cut_found {l : List UInt8} (h : cutF l = true) : ∃ k : Nat, k + 1 ≤ l.length ∧ Lib.indexByte l 44 = (k : Int) ∧ cutA l = l.take k ∧ cutB l = l.drop (k + 1) := by
  rcases idx_cut l with ⟨h1, h2, h3⟩ | ⟨h1, -⟩
  · refine ⟨(cutA l).length, ?_, h2, ?_, ?_⟩
    · have := congrArg List.length h3
      simp at this
      omega
    · have := congrArg (List.take (cutA l).length) h3
      rw [List.take_left] at this
      exact this.symm
    · have := congrArg (List.drop ((cutA l).length + 1)) h3
      rw [this]
      simp
  · rw [h] at h1; cases h1
theorem cut_none {l : List UInt8} (h : cutF l = false) : Lib.indexByte l 44 = -1 ∧ cutA l = l ∧ cutB l = [] := by
  rcases idx_cut l with ⟨h1, -⟩ | ⟨-, h2, h3, h4⟩
  · rw [h] at h1; cases h1
  · exact ⟨h2, h3, h4⟩
set_option maxRecDepth 100000 in
theorem scut_any (l : List UInt8) (hl : l.length ≤ 140737488351232) (w : World) : Calls Tryd.prog 66 #[.string ⟨l.toArray⟩, .string ⟨#[44]⟩] w fun e w' => e = .returned (.tuple #[.string ⟨(cutA l).toArray⟩, .string ⟨(cutB l).toArray⟩, .bool (cutF l)]) ∧ Off (fun _ => False) w w' := by
  have hsz : (⟨l.toArray⟩ : ByteArray).size = l.length := by simp [ByteArray.size]
  cases h1 : cutF l with
  | true =>
    obtain ⟨k, hk, h2, h3, h4⟩ := cut_found h1
    have H3 : Hid _ := h3
    have H4 : Hid _ := h4
    have ew : IntKind.i64.wrap ((k : Int) + 1) = ((k + 1 : Nat) : Int) := by
      rw [show (k : Int) + 1 = ((k + 1 : Nat) : Int) by omega]
      exact wrap64 (by omega) (by omega)
    have IX := index_any l
    rw [h2] at IX
    clear h1 h2 h3 h4
    go_enter Tryd.func66, Tryd.ntmps66
    go_wp2_with fail
    refine (IX _).mono ?_
    rintro e w1 ⟨rfl, hw⟩
    rw [hw]; clear hw w1
    go_wp2_with fail
    refine wp_region_held_drew (S := fun w' => w' = w.drew) (by kernel_rfl) rfl (fun hS => ?_)
    refine take_at (i := 0) 13 (v := .string ⟨l.toArray⟩) rfl rfl (by kernel_rfl) (by kernel_rfl) (by kernel_rfl) (fun _ _ _ h => h) (Or.inl ⟨by rfl, fun w' hw' => by subst hw'; go_simp⟩) hS ?_
    simp only [Act.put, List.setIfInBounds_toArray, List.set_cons_zero, List.set_cons_succ]
    refine take_at (i := 1) 14 (v := .int .i64 (k : Int)) rfl rfl (by kernel_rfl) (by kernel_rfl) (by kernel_rfl) (fun _ _ _ h => h) (Or.inl ⟨by rfl, fun w' hw' => by subst hw'; go_simp⟩) hS ?_
    simp only [Act.put, List.setIfInBounds_toArray, List.set_cons_zero, List.set_cons_succ]
    refine take_at (i := 2) 15 (v := .string ⟨(l.take k).toArray⟩) rfl rfl (by kernel_rfl) (by kernel_rfl) (by kernel_rfl) (fun _ _ _ h => h) (Or.inl ⟨by rfl, fun w' hw' => by subst hw'; have e := ext_front l k; go_simp; intro hh; omega⟩) hS ?_
    simp only [Act.put, List.setIfInBounds_toArray, List.set_cons_zero, List.set_cons_succ]
    refine take_at (i := 3) 16 (v := .string ⟨l.toArray⟩) rfl rfl (by kernel_rfl) (by kernel_rfl) (by kernel_rfl) (fun _ _ _ h => h) (Or.inl ⟨by rfl, fun w' hw' => by subst hw'; go_simp⟩) hS ?_
    simp only [Act.put, List.setIfInBounds_toArray, List.set_cons_zero, List.set_cons_succ]
    refine take_at (i := 4) 17 (v := .int .i64 (k : Int)) rfl rfl (by kernel_rfl) (by kernel_rfl) (by kernel_rfl) (fun _ _ _ h => h) (Or.inl ⟨by rfl, fun w' hw' => by subst hw'; go_simp⟩) hS ?_
    simp only [Act.put, List.setIfInBounds_toArray, List.set_cons_zero, List.set_cons_succ]
    refine take_at (i := 5) 18 (v := .string ⟨#[44]⟩) rfl rfl (by kernel_rfl) (by kernel_rfl) (by kernel_rfl) (fun _ _ _ h => h) (Or.inl ⟨by rfl, fun w' hw' => by subst hw'; go_simp⟩) hS ?_
    simp only [Act.put, List.setIfInBounds_toArray, List.set_cons_zero, List.set_cons_succ]
    refine take_at (i := 6) 19 (v := .int .i64 1) rfl rfl (by kernel_rfl) (by kernel_rfl) (by kernel_rfl) (fun _ _ _ h => h) (Or.inl ⟨by rfl, fun w' hw' => by subst hw'; go_simp⟩) hS ?_
    simp only [Act.put, List.setIfInBounds_toArray, List.set_cons_zero, List.set_cons_succ]
    refine take_at (i := 7) 20 (v := .int .i64 ((k + 1 : Nat) : Int)) rfl rfl (by kernel_rfl) (by kernel_rfl) (by kernel_rfl) (fun _ _ _ h => h) (Or.inl ⟨by rfl, fun w' hw' => by subst hw'; have x := ew; go_simp⟩) hS ?_
    simp only [Act.put, List.setIfInBounds_toArray, List.set_cons_zero, List.set_cons_succ]
    refine take_at (i := 8) 21 (v := .string ⟨(l.drop (k + 1)).toArray⟩) rfl rfl (by kernel_rfl) (by kernel_rfl) (by kernel_rfl) (fun _ _ _ h => h) (Or.inl ⟨by rfl, fun w' hw' => by subst hw'; have e := ext_back l (k + 1) l.length (Nat.le_refl _); go_simp; intro hh; have := hh (by omega); omega⟩) hS ?_
    simp only [Act.put, List.setIfInBounds_toArray, List.set_cons_zero, List.set_cons_succ]
    refine take_at (i := 9) 4 (v := .string ⟨(l.take k).toArray⟩) rfl rfl (by kernel_rfl) (by kernel_rfl) (by kernel_rfl) (fun _ _ _ h => h) (Or.inl ⟨by rfl, fun w' hw' => by subst hw'; go_simp⟩) hS ?_
    simp only [Act.put, List.setIfInBounds_toArray, List.set_cons_zero, List.set_cons_succ]
    refine take_at (i := 10) 5 (v := .string ⟨(l.drop (k + 1)).toArray⟩) rfl rfl (by kernel_rfl) (by kernel_rfl) (by kernel_rfl) (fun _ _ _ h => h) (Or.inl ⟨by rfl, fun w' hw' => by subst hw'; go_simp⟩) hS ?_
    simp only [Act.put, List.setIfInBounds_toArray, List.set_cons_zero, List.set_cons_succ]
    refine take_at (i := 11) 6 (v := .bool true) rfl rfl (by kernel_rfl) (by kernel_rfl) (by kernel_rfl) (fun _ _ _ h => h) (Or.inl ⟨by rfl, fun w' hw' => by subst hw'; go_simp⟩) hS ?_
    simp only [Act.put, List.setIfInBounds_toArray, List.set_cons_zero, List.set_cons_succ]
    refine wpAnyH_done (by kernel_rfl) ?_ _
    go_wp2_with fail
    refine bodyPost_ret (results_tmp3 rfl _ _ _) rfl ?_
    rw [H3.out, H4.out]
    exact ⟨rfl, (Off.refl _ w).drew⟩
  | false =>
    obtain ⟨h2, h3, h4⟩ := cut_none h1
    have H3 : Hid _ := h3
    have H4 : Hid _ := h4
    have IX := index_any l
    rw [h2] at IX
    clear h1 h2 h3 h4
    go_enter Tryd.func66, Tryd.ntmps66
    go_wp2_with fail
    refine (IX _).mono ?_
    rintro e w1 ⟨rfl, hw⟩
    rw [hw]; clear hw w1
    go_wp2_with fail
    refine bodyPost_ret (results_tmp3 rfl _ _ _) rfl ?_
    rw [H3.out, H4.out]
    exact ⟨rfl, Off.refl _ w⟩
theorem cut_any (l : List UInt8) (hl : l.length ≤ 140737488351232) (w : World) : Calls Tryd.prog 56 #[.string ⟨l.toArray⟩, .string ⟨#[44]⟩] w fun e w' => e = .returned (.tuple #[.string ⟨(cutA l).toArray⟩, .string ⟨(cutB l).toArray⟩, .bool (cutF l)]) ∧ Off (fun _ => False) w w' := by
  go_enter Tryd.func56, Tryd.ntmps56
  go_wp2_with fail
  refine (scut_any l hl _).mono ?_
  rintro e w1 ⟨rfl, o1⟩
  go_wp2_with fail
  refine bodyPost_ret (results_tmp3 rfl _ _ _) rfl ?_
  exact ⟨rfl, o1⟩
theorem cut_len (l : List UInt8) : (cutA l).length ≤ l.length ∧ (cutB l).length ≤ l.length := by
  rcases idx_cut l with ⟨-, -, h⟩ | ⟨-, -, h1, h2⟩
  · have := congrArg List.length h
    simp at this
    omega
  · rw [h1, h2]; simp
theorem cut_tail (x y : List UInt8) (h : (44 : UInt8) ∉ x) : cutA (x ++ 44 :: y) = x ∧ cutB (x ++ 44 :: y) = y ∧ cutF (x ++ 44 :: y) = true := by
  induction x with
  | nil => simp [cutA, cutB, cutF]
  | cons c x ih =>
    have hc : c ≠ 44 := fun e => h (by simp [e])
    obtain ⟨h1, h2, h3⟩ := ih (fun e => h (by simp [e]))
    simp [cutA, cutB, cutF, hc, h1, h2, h3]
theorem cut_last (x : List UInt8) (h : (44 : UInt8) ∉ x) : cutA x = x ∧ cutB x = [] ∧ cutF x = false := by
  induction x with
  | nil => simp [cutA, cutB, cutF]
  | cons c x ih =>
    have hc : c ≠ 44 := fun e => h (by simp [e])
    obtain ⟨h1, h2, h3⟩ := ih (fun e => h (by simp [e]))
    simp [cutA, cutB, cutF, hc, h1, h2, h3]
end Go.Proofs.YtalcfkdmlebkbaaDoor
