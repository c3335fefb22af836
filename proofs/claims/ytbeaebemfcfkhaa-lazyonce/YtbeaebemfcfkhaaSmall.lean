/- The walks of LazyNil and LazyPoly. -/
import Derived.Test.YtbeaebemfcfkhaaNum
namespace Go.Proofs.Ytbeaebemfcfkhaa
open Go.RowKit

theorem len_any (b : Nat) (k : Int) (fv : Value) (d s : Int) (nums : Value) (m : Int) (w : World) (h : Tb b k fv d s nums m w) :
    Calls Try.prog 11 #[.pointer (some ⟨b, 0, none⟩)] w fun e w' => e = .returned (.int .i64 k) ∧ w' = w := by
  have c0 := h.c0
  go_enter Try.func11, Try.ntmps11
  go_wp2
  go_ret
  exact ⟨rfl, rfl⟩
theorem len_nil (w : World) :
    Calls Try.prog 11 #[.pointer none] w fun e w' => e = .returned (.int .i64 0) ∧ w' = w := by
  go_enter Try.func11, Try.ntmps11
  go_wp2
  go_ret
  exact ⟨rfl, rfl⟩

theorem at_nilfn (b k : Nat) (hk : k ≤ 4096) (nums : Value) (i : Int) (w : World) (ht : Tb b k .nilFunc 0 0 nums 0 w) :
    Calls Try.prog 13 #[.pointer (some ⟨b, 0, none⟩), .int .i64 i] w fun e w' => e = .returned (.int .u32 0) ∧
      (∃ fv d s nums, Tb b k fv d s nums 0 w') ∧ Off (fun c => c = b) w w' := by
  by_cases hi : 0 ≤ i ∧ i < k
  · obtain ⟨j, rfl⟩ := Int.eq_ofNat_of_zero_le hi.1
    refine (at_first_nil b k hk nums j (by omega) w ht).mono ?_
    rintro e w' ⟨rfl, r, -, ⟨⟨fv, t⟩, -⟩, O⟩
    exact ⟨rfl, ⟨_, _, _, _, t⟩, O⟩
  · refine (at_out b k _ _ _ nums _ i w ht (by omega)).mono ?_
    rintro e w' ⟨rfl, rfl⟩
    exact ⟨rfl, ⟨_, _, _, _, ht⟩, Off.refl _ _⟩

theorem nil_any (i n : Int) (w : World) :
    Calls Try.prog 6 #[.int .i64 i, .int .i64 n] w fun e w' => e = .returned (.bool true) ∧ Below w.heap.size w w' := by
  rcases (show n ≤ 300 ∨ 300 < n by omega) with hle | hle
  · obtain ⟨k, hk⟩ : ∃ k : Nat, k = (max n 0).toNat := ⟨_, rfl⟩
    have hk1 : min (max n 0) 4096 = (k : Int) := by omega
    have N : Hid _ := new_nilfn n w
    rw [hk1] at N
    have hc : (n ≤ 0 ∧ (k : Int) = 0) ∨ (0 < n ∧ (k : Int) = n) := by omega
    have hk3 : k ≤ 4096 := by omega
    clear hk hk1
    rcases hc with ⟨h0, h1⟩ | ⟨h0, h1⟩
    all_goals
      go_enter Try.func6, Try.ntmps6
      go_wp2_with fail
      refine Calls.mono N.out ?_
      rintro e w1 ⟨rfl, t, o⟩
      go_wp2_with fail
      refine (at_nil _ _).mono ?_
      rintro e w2 ⟨rfl, rfl⟩
      go_wp2_with fail
      refine (len_nil _).mono ?_
      rintro e w2 ⟨rfl, rfl⟩
      go_wp2_with fail
      refine (made_nil _).mono ?_
      rintro e w2 ⟨rfl, rfl⟩
      go_wp2_with fail
      refine (at_nilfn w.heap.size k hk3 _ _ _ t).mono ?_
      rintro e w2 ⟨rfl, ⟨fv, d, s, nums, t2⟩, o2⟩
      go_wp2_with fail
      refine (len_any _ _ _ _ _ _ _ _ t2).mono ?_
      rintro e w3 ⟨rfl, rfl⟩
      rw [h1] at t2 ⊢
      go_wp2_with fail
      refine (made_any _ _ _ _ _ _ _ _ t2).mono ?_
      rintro e w3 ⟨rfl, rfl⟩
      go_wp2_with fail
      refine (awake_any _).mono ?_
      rintro e w4 ⟨rfl, o3⟩
      go_wp2_with fail
      go_ret
      exact ⟨rfl, ((o.mono (E := fun c => c = w.heap.size) (fun _ h => h.elim)).trans o2 (fun _ _ h => h)).trans o3 (fun _ _ h => h.elim) |>.below (Nat.le_refl _) (fun c h => by omega)⟩
  · obtain ⟨k, hk⟩ : ∃ k : Nat, k = 300 := ⟨_, rfl⟩
    have h1 : (k : Int) = 300 := by omega
    have hk3 : k ≤ 4096 := by omega
    have N : Hid _ := new_nilfn 300 w
    rw [show (min (max 300 0) 4096 : Int) = (k : Int) by omega] at N
    clear hk
    · skip
      go_enter Try.func6, Try.ntmps6
      go_wp2_with fail
      refine Calls.mono N.out ?_
      rintro e w1 ⟨rfl, t, o⟩
      go_wp2_with fail
      refine (at_nil _ _).mono ?_
      rintro e w2 ⟨rfl, rfl⟩
      go_wp2_with fail
      refine (len_nil _).mono ?_
      rintro e w2 ⟨rfl, rfl⟩
      go_wp2_with fail
      refine (made_nil _).mono ?_
      rintro e w2 ⟨rfl, rfl⟩
      go_wp2_with fail
      refine (at_nilfn w.heap.size k hk3 _ _ _ t).mono ?_
      rintro e w2 ⟨rfl, ⟨fv, d, s, nums, t2⟩, o2⟩
      go_wp2_with fail
      refine (len_any _ _ _ _ _ _ _ _ t2).mono ?_
      rintro e w3 ⟨rfl, rfl⟩
      rw [h1] at t2 ⊢
      go_wp2_with fail
      refine (made_any _ _ _ _ _ _ _ _ t2).mono ?_
      rintro e w3 ⟨rfl, rfl⟩
      go_wp2_with fail
      refine (awake_any _).mono ?_
      rintro e w4 ⟨rfl, o3⟩
      go_wp2_with fail
      go_ret
      exact ⟨rfl, ((o.mono (E := fun c => c = w.heap.size) (fun _ h => h.elim)).trans o2 (fun _ _ h => h)).trans o3 (fun _ _ h => h.elim) |>.below (Nat.le_refl _) (fun c h => by omega)⟩

theorem entry_any (x : Nat) (hx : x < 4294967296) (w : World) :
    Calls Try.prog 22 #[.int .i64 x] w fun e w' => e = .returned (.int .u32 (entry x)) ∧ w' = w := by
  go_enter Try.func22, Try.ntmps22
  go_wp2
  go_loopw [3, 6] (fun l i wr => ∃ (j : Nat), j ≤ 8 ∧ i = .int .i64 j ∧ l = .int .u32 (shn j x) ∧ wr = w) (fun _ i _ => (8 - intOf i).toNat)
  case atStart => exact ⟨0, by omega, rfl, by simp [shn], rfl⟩
  case round =>
    obtain ⟨j, hj, rfl, rfl, rfl⟩ := hrel
    have hy := shn_lt j hx
    obtain ⟨y, hyy⟩ : ∃ y, y = shn j x := ⟨_, rfl⟩
    have HY : Hid _ := hyy
    rw [← hyy] at hy ⊢
    clear hyy
    by_cases hlt : j < 8
    · go_wp2
      · go_roundw
        case rel => exact ⟨j + 1, by omega, by go_num, by rw [half_odd hy (by assumption), HY.out]; rfl, trivial⟩
        case measure => simp [intOf]; omega
      · go_roundw
        case rel => exact ⟨j + 1, by omega, by go_num, by rw [half_even hy (by assumption), HY.out]; rfl, trivial⟩
        case measure => simp [intOf]; omega
    · obtain rfl : j = 8 := by omega
      go_wp2
      go_ret
      exact ⟨by rw [HY.out]; rfl, rfl⟩

theorem polytold (i : Int) : told (fun j => (entry j : Int)) 256 i = if 0 ≤ i ∧ i < 256 then ((entry i.toNat : Nat) : Int) else 0 := by
  simp [told]

theorem poly_law (i : Int) (w : World) :
    Calls Try.prog 5 #[.int .i64 i] w fun e w' => e = .returned (.bool true) ∧ Below w.heap.size w w' := by
  have e128 : told (fun j => (entry j : Int)) 256 128 = 3988292384 := by
    rw [polytold, if_pos (by omega)]
    have : entry (128 : Int).toNat = 3988292384 := by kernel_rfl
    rw [this]
    rfl
  have HE : Hid _ := e128
  clear e128
  rcases (show (0 ≤ i ∧ i < 256) ∨ i < 0 ∨ 256 ≤ i by omega) with h | h | h
  · obtain ⟨x, rfl⟩ := Int.eq_ofNat_of_zero_le h.1
    have h2 := h.2
    have ex : told (fun j => (entry j : Int)) 256 (x : Int) = ((entry x : Nat) : Int) := by rw [polytold, if_pos h]; rfl
    have HX : Hid _ := ex
    clear ex
    go_enter Try.func5, Try.ntmps5
    go_wp2_with fail
    refine (poly_any w).mono ?_
    rintro e w1 ⟨rfl, t, o⟩
    have hs := t.lt
    go_wp2_with fail
    refine (entry_any x (by omega) _).mono ?_
    rintro e w2 ⟨rfl, rfl⟩
    go_wp2_with fail
    refine (len_any _ _ _ _ _ _ _ _ t).mono ?_
    rintro e w2 ⟨rfl, rfl⟩
    go_wp2_with fail
    refine (at_st w.heap.size 256 (by decide) 28 #[] (fun j => (entry j : Int)) (fun _ => False) (fun _ => True) 0 x _ (.inl ⟨_, t⟩) rem_makes trivial id (Nat.zero_le _)).mono ?_
    rintro e w2 ⟨rfl, s2, -, -, o2⟩
    rw [HX.out]
    go_wp2_with fail
    refine (at_st w.heap.size 256 (by decide) 28 #[] (fun j => (entry j : Int)) (fun _ => False) (fun _ => True) 0 128 _ s2 rem_makes trivial id (Nat.zero_le _)).mono ?_
    rintro e w3 ⟨rfl, s3, -, -, o3⟩
    rw [HE.out]
    go_wp2_with fail
    refine (awake_any _).mono ?_
    rintro e w4 ⟨rfl, o4⟩
    go_wp2_with fail
    go_ret
    exact ⟨rfl, (((o.mono (E := fun c => c = w.heap.size) (fun _ h => h.elim)).trans o2 (fun _ _ h => h.elim id False.elim)).trans o3 (fun _ _ h => h.elim id False.elim)).trans o4 (fun _ _ h => h.elim) |>.below (Nat.le_refl _) (fun c h => by omega)⟩
  all_goals
    have ex : told (fun j => (entry j : Int)) 256 i = 0 := by rw [polytold, if_neg (by omega)]
    have HX : Hid _ := ex
    clear ex
    go_enter Try.func5, Try.ntmps5
    go_wp2_with fail
    refine (poly_any w).mono ?_
    rintro e w1 ⟨rfl, t, o⟩
    have hs := t.lt
    go_wp2_with fail
    refine (len_any _ _ _ _ _ _ _ _ t).mono ?_
    rintro e w2 ⟨rfl, rfl⟩
    go_wp2_with fail
    refine (at_st w.heap.size 256 (by decide) 28 #[] (fun j => (entry j : Int)) (fun _ => False) (fun _ => True) 0 i _ (.inl ⟨_, t⟩) rem_makes trivial id (Nat.zero_le _)).mono ?_
    rintro e w2 ⟨rfl, s2, -, -, o2⟩
    rw [HX.out]
    go_wp2_with fail
    refine (at_st w.heap.size 256 (by decide) 28 #[] (fun j => (entry j : Int)) (fun _ => False) (fun _ => True) 0 128 _ s2 rem_makes trivial id (Nat.zero_le _)).mono ?_
    rintro e w3 ⟨rfl, s3, -, -, o3⟩
    rw [HE.out]
    go_wp2_with fail
    refine (awake_any _).mono ?_
    rintro e w4 ⟨rfl, o4⟩
    go_wp2_with fail
    go_ret
    exact ⟨rfl, (((o.mono (E := fun c => c = w.heap.size) (fun _ h => h.elim)).trans o2 (fun _ _ h => h.elim id False.elim)).trans o3 (fun _ _ h => h.elim id False.elim)).trans o4 (fun _ _ h => h.elim) |>.below (Nat.le_refl _) (fun c h => by omega)⟩

set_option linter.unusedVariables false in
theorem nil_walk (i n : Int) (w : World) (w0 : (Lit.int .i64 i).wf = true) (w1 : (Lit.int .i64 n).wf = true) :
    Calls Try.prog 6 #[.int .i64 i, .int .i64 n] w fun e w' => e = .returned (.bool true) ∧ Below w.heap.size w w' := nil_any i n w
set_option linter.unusedVariables false in
theorem poly_walk (i : Int) (w : World) (w0 : (Lit.int .i64 i).wf = true) :
    Calls Try.prog 5 #[.int .i64 i] w fun e w' => e = .returned (.bool true) ∧ Below w.heap.size w w' := poly_law i w
end Go.Proofs.Ytbeaebemfcfkhaa
