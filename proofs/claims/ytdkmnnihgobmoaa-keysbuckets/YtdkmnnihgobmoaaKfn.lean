/- The small functions: plain, digit, hex; May, Bucket of the program and of the reference. -/
import Derived.Test.YtdkmnnihgobmoaaTxt
namespace Go.Proofs.Ytdkmnnihgobmoaa
open Go.RowKit

theorem plain_any (c : Nat) (hc : c < 256) (w : World) : Calls Try.prog 26 #[.int .u8 (c : Int)] w fun e w' => e = .returned (.bool (pl c)) ∧ w' = w := by
  by_cases h1 : 97 ≤ c
  · have e1 : decide ((97 : Int) ≤ (c : Int)) = true := decide_eq_true (by omega)
    by_cases h2 : c ≤ 122
    · have e2 : decide ((c : Int) ≤ 122) = true := decide_eq_true (by omega)
      have e : pl c = true := (pl_iff c).2 (.inl ⟨h1, h2⟩)
      rw [e]
      go_enter Try.func26, Try.ntmps26
      go_wp2_with fail
      go_ret
      exact ⟨rfl, rfl⟩
    · have e2 : decide ((c : Int) ≤ 122) = false := decide_eq_false (by omega)
      have e3 : decide ((48 : Int) ≤ (c : Int)) = true := decide_eq_true (by omega)
      have e4 : decide ((c : Int) ≤ 57) = false := decide_eq_false (by omega)
      have e : pl c = false := by
        rw [← Bool.not_eq_true, pl_iff]
        omega
      rw [e]
      go_enter Try.func26, Try.ntmps26
      go_wp2_with fail
      go_ret
      exact ⟨rfl, rfl⟩
  · have e1 : decide ((97 : Int) ≤ (c : Int)) = false := decide_eq_false (by omega)
    by_cases h2 : 48 ≤ c
    · have e2 : decide ((48 : Int) ≤ (c : Int)) = true := decide_eq_true (by omega)
      by_cases h3 : c ≤ 57
      · have e3 : decide ((c : Int) ≤ 57) = true := decide_eq_true (by omega)
        have e : pl c = true := (pl_iff c).2 (.inr ⟨h2, h3⟩)
        rw [e]
        go_enter Try.func26, Try.ntmps26
        go_wp2_with fail
        go_ret
        exact ⟨rfl, rfl⟩
      · have e3 : decide ((c : Int) ≤ 57) = false := decide_eq_false (by omega)
        have e : pl c = false := by
          rw [← Bool.not_eq_true, pl_iff]
          omega
        rw [e]
        go_enter Try.func26, Try.ntmps26
        go_wp2_with fail
        go_ret
        exact ⟨rfl, rfl⟩
    · have e2 : decide ((48 : Int) ≤ (c : Int)) = false := decide_eq_false (by omega)
      have e : pl c = false := by
        rw [← Bool.not_eq_true, pl_iff]
        omega
      rw [e]
      go_enter Try.func26, Try.ntmps26
      go_wp2_with fail
      go_ret
      exact ⟨rfl, rfl⟩

/-- The ways of a byte at digit and at hex. -/
theorem digit_any (c : Nat) (hc : c < 256) (w : World) : Calls Try.prog 27 #[.int .u8 (c : Int)] w fun e w' => e = .returned (.tuple #[.int .u8 (dg c : Nat), .bool (dgB c)]) ∧ w' = w := by
  by_cases h1 : 48 ≤ c ∧ c ≤ 57
  · have e1 : decide ((48 : Int) ≤ (c : Int)) = true := decide_eq_true (by omega)
    have e2 : decide ((c : Int) ≤ 57) = true := decide_eq_true (by omega)
    have d1 : dg c = c - 48 := by rw [dg, if_pos h1]
    have d2 : dgB c = true := by simp [dgB, h1]
    rw [d1, d2, show ((c - 48 : Nat) : Int) = (c : Int) - 48 by omega]
    go_enter Try.func27, Try.ntmps27
    go_wp2_with fail
    go_ret2
    exact ⟨rfl, rfl⟩
  · have d1 : dg c = if 97 ≤ c ∧ c ≤ 102 then c - 87 else 0 := by rw [dg, if_neg h1]
    rw [d1]
    clear d1
    by_cases h2 : 97 ≤ c ∧ c ≤ 102
    · have e1 : decide ((48 : Int) ≤ (c : Int)) = true := decide_eq_true (by omega)
      have e2 : decide ((c : Int) ≤ 57) = false := decide_eq_false (by omega)
      have e3 : decide ((97 : Int) ≤ (c : Int)) = true := decide_eq_true (by omega)
      have e4 : decide ((c : Int) ≤ 102) = true := decide_eq_true (by omega)
      have d2 : dgB c = true := by simp [dgB, h2]
      rw [if_pos h2, d2, show ((c - 87 : Nat) : Int) = (c : Int) - 97 + 10 by omega]
      go_enter Try.func27, Try.ntmps27
      go_wp2_with fail
      go_ret2
      exact ⟨rfl, rfl⟩
    · have d2 : dgB c = false := by
        rw [← Bool.not_eq_true]
        simp only [dgB, Bool.or_eq_true, Bool.and_eq_true, decide_eq_true_eq]
        omega
      rw [if_neg h2, d2]
      by_cases k1 : 48 ≤ c
      · have e1 : decide ((48 : Int) ≤ (c : Int)) = true := decide_eq_true (by omega)
        have e2 : decide ((c : Int) ≤ 57) = false := decide_eq_false (by omega)
        by_cases k3 : 97 ≤ c
        · have e3 : decide ((97 : Int) ≤ (c : Int)) = true := decide_eq_true (by omega)
          have e4 : decide ((c : Int) ≤ 102) = false := decide_eq_false (by omega)
          go_enter Try.func27, Try.ntmps27
          go_wp2_with fail
          go_ret2
          exact ⟨rfl, rfl⟩
        · have e3 : decide ((97 : Int) ≤ (c : Int)) = false := decide_eq_false (by omega)
          go_enter Try.func27, Try.ntmps27
          go_wp2_with fail
          go_ret2
          exact ⟨rfl, rfl⟩
      · have e1 : decide ((48 : Int) ≤ (c : Int)) = false := decide_eq_false (by omega)
        have e3 : decide ((97 : Int) ≤ (c : Int)) = false := decide_eq_false (by omega)
        go_enter Try.func27, Try.ntmps27
        go_wp2_with fail
        go_ret2
        exact ⟨rfl, rfl⟩

/-- What hex tells. -/
def hexI (c : Nat) : Int := if dgB c = true then (dg c : Nat) else -1
theorem hex_any (c : Nat) (hc : c < 256) (w : World) : Calls Try.prog 24 #[.int .u8 (c : Int)] w fun e w' => e = .returned (.int .i64 (hexI c)) ∧ w' = w := by
  by_cases h1 : 48 ≤ c ∧ c ≤ 57
  · have e1 : decide ((48 : Int) ≤ (c : Int)) = true := decide_eq_true (by omega)
    have e2 : decide ((c : Int) ≤ 57) = true := decide_eq_true (by omega)
    have d1 : dg c = c - 48 := by rw [dg, if_pos h1]
    have d2 : dgB c = true := by simp [dgB, h1]
    rw [hexI, d1, d2, if_pos rfl, show ((c - 48 : Nat) : Int) = (c : Int) - 48 by omega]
    go_enter Try.func24, Try.ntmps24
    go_wp2_with fail
    go_ret
    exact ⟨rfl, rfl⟩
  · by_cases h2 : 97 ≤ c ∧ c ≤ 102
    · have e1 : decide ((48 : Int) ≤ (c : Int)) = true := decide_eq_true (by omega)
      have e2 : decide ((c : Int) ≤ 57) = false := decide_eq_false (by omega)
      have e3 : decide ((97 : Int) ≤ (c : Int)) = true := decide_eq_true (by omega)
      have e4 : decide ((c : Int) ≤ 102) = true := decide_eq_true (by omega)
      have d1 : dg c = c - 87 := by rw [dg, if_neg h1, if_pos h2]
      have d2 : dgB c = true := by simp [dgB, h2]
      rw [hexI, d1, d2, if_pos rfl, show ((c - 87 : Nat) : Int) = (c : Int) - 97 + 10 by omega]
      go_enter Try.func24, Try.ntmps24
      go_wp2_with fail
      go_ret
      exact ⟨rfl, rfl⟩
    · have d2 : dgB c = false := by
        rw [← Bool.not_eq_true]
        simp only [dgB, Bool.or_eq_true, Bool.and_eq_true, decide_eq_true_eq]
        omega
      rw [hexI, d2, if_neg (by decide)]
      by_cases k1 : 48 ≤ c
      · have e1 : decide ((48 : Int) ≤ (c : Int)) = true := decide_eq_true (by omega)
        have e2 : decide ((c : Int) ≤ 57) = false := decide_eq_false (by omega)
        by_cases k3 : 97 ≤ c
        · have e3 : decide ((97 : Int) ≤ (c : Int)) = true := decide_eq_true (by omega)
          have e4 : decide ((c : Int) ≤ 102) = false := decide_eq_false (by omega)
          go_enter Try.func24, Try.ntmps24
          go_wp2_with fail
          go_ret
          exact ⟨rfl, rfl⟩
        · have e3 : decide ((97 : Int) ≤ (c : Int)) = false := decide_eq_false (by omega)
          go_enter Try.func24, Try.ntmps24
          go_wp2_with fail
          go_ret
          exact ⟨rfl, rfl⟩
      · have e1 : decide ((48 : Int) ≤ (c : Int)) = false := decide_eq_false (by omega)
        have e3 : decide ((97 : Int) ≤ (c : Int)) = false := decide_eq_false (by omega)
        go_enter Try.func24, Try.ntmps24
        go_wp2_with fail
        go_ret
        exact ⟨rfl, rfl⟩

/-- May a key be? -/
def keyB (s : ByteArray) : Bool := decide (1 ≤ s.size) && decide (s.size ≤ 32)
theorem may_any (s : ByteArray) (w : World) : Calls Try.prog 9 #[.string s] w fun e w' => e = .returned (.bool (keyB s)) ∧ w' = w := by
  by_cases h1 : 1 ≤ s.size
  · have e1 : decide ((1 : Int) ≤ (s.size : Int)) = true := decide_eq_true (by omega)
    have e1' : decide (1 ≤ s.size) = true := decide_eq_true h1
    by_cases h2 : s.size ≤ 32
    · have e2 : decide ((s.size : Int) ≤ 32) = true := decide_eq_true (by omega)
      have e2' : decide (s.size ≤ 32) = true := decide_eq_true h2
      go_enter Try.func9, Try.ntmps9
      go_wp2_with fail
      go_ret
      simp [keyB, e1', e2']
    · have e2 : decide ((s.size : Int) ≤ 32) = false := decide_eq_false (by omega)
      have e2' : decide (s.size ≤ 32) = false := decide_eq_false h2
      go_enter Try.func9, Try.ntmps9
      go_wp2_with fail
      go_ret
      simp [keyB, e1', e2']
  · have e1 : decide ((1 : Int) ≤ (s.size : Int)) = false := decide_eq_false (by omega)
    have e1' : decide (1 ≤ s.size) = false := decide_eq_false h1
    go_enter Try.func9, Try.ntmps9
    go_wp2_with fail
    go_ret
    simp [keyB, e1']
theorem rmay_any (s : ByteArray) (w : World) : Calls Try.prog 10 #[.string s] w fun e w' => e = .returned (.bool (keyB s)) ∧ w' = w := by
  by_cases h1 : 1 ≤ s.size
  · have e1 : decide ((1 : Int) ≤ (s.size : Int)) = true := decide_eq_true (by omega)
    have e1' : decide (1 ≤ s.size) = true := decide_eq_true h1
    by_cases h2 : s.size ≤ 32
    · have e2 : decide ((s.size : Int) ≤ 32) = true := decide_eq_true (by omega)
      have e2' : decide (s.size ≤ 32) = true := decide_eq_true h2
      go_enter Try.func10, Try.ntmps10
      go_wp2_with fail
      go_ret
      simp [keyB, e1', e2']
    · have e2 : decide ((s.size : Int) ≤ 32) = false := decide_eq_false (by omega)
      have e2' : decide (s.size ≤ 32) = false := decide_eq_false h2
      go_enter Try.func10, Try.ntmps10
      go_wp2_with fail
      go_ret
      simp [keyB, e1', e2']
  · have e1 : decide ((1 : Int) ≤ (s.size : Int)) = false := decide_eq_false (by omega)
    have e1' : decide (1 ≤ s.size) = false := decide_eq_false h1
    go_enter Try.func10, Try.ntmps10
    go_wp2_with fail
    go_ret
    simp [keyB, e1']

/-- The rest of a sum of bytes by four. -/
def bkt (l : List Nat) : Nat := l.sum % 4
theorem bkt_lt (l : List Nat) : bkt l < 4 := Nat.mod_lt _ (by decide)
theorem bkt_append (a b : List Nat) : bkt (a ++ b) = (bkt a + bkt b) % 4 := by
  unfold bkt
  rw [List.sum_append]
  omega
theorem bkt_take (l : List Nat) {i : Nat} (h : i < l.length) : bkt (l.take (i + 1)) = (bkt (l.take i) + l.getD i 0) % 4 := by
  rw [List.take_add_one, List.getElem?_eq_getElem h, bkt_append]
  simp [bkt, List.getD_eq_getElem?_getD, h]
theorem bucket_any (s : ByteArray) (hs : s.size ≤ 9223372036854775807) (w : World) : Calls Try.prog 11 #[.string s] w fun e w' => e = .returned (.int .i64 (bkt (tx s) : Nat)) ∧ w' = w := by
  have hl := tx_len s
  have HL : Hid _ := hl
  clear hl
  go_enter Try.func11, Try.ntmps11
  go_wp2
  go_loopw [3, 7] (fun l i wr => ∃ (j : Nat), j ≤ s.size ∧ i = .int .i64 j ∧ l = .int .i64 (bkt ((tx s).take j) : Nat) ∧ wr = w) (fun _ i _ => (s.size - intOf i).toNat)
  case atStart => exact ⟨0, by omega, rfl, rfl, rfl⟩
  case round =>
    obtain ⟨j, hj, rfl, rfl, rfl⟩ := hrel
    have hb := bkt_lt ((tx s).take j)
    obtain ⟨y, hyy⟩ : ∃ y, y = bkt ((tx s).take j) := ⟨_, rfl⟩
    have HY : Hid _ := hyy
    rw [← hyy] at hb ⊢
    clear hyy
    by_cases hlt : j < s.size
    · have hix := idx_any s (i := j) (by rw [HL.out]; exact hlt) .i64
      have hc := tx_at s (i := j) (by rw [HL.out]; exact hlt)
      have hst := bkt_take (tx s) (i := j) (by rw [HL.out]; exact hlt)
      rw [← HY.out] at hst
      have HST : Hid _ := hst
      clear hst
      obtain ⟨c, hcc⟩ : ∃ c, c = (tx s).getD j 0 := ⟨_, rfl⟩
      rw [← hcc] at hix hc
      have HCC : Hid _ := hcc
      clear hcc
      go_wp2
      go_roundw
      case rel =>
        refine ⟨j + 1, by omega, by go_num, ?_, trivial⟩
        rw [HST.out, ← HCC.out]
        congr 1
      case measure => simp [intOf]; omega
    · obtain rfl : j = s.size := by omega
      go_wp2
      go_ret
      refine ⟨?_, rfl⟩
      rw [HY.out, List.take_of_length_le (by rw [HL.out]; exact Nat.le_refl _)]
      rfl
theorem rbucket_any (s : ByteArray) (hs : s.size ≤ 9223372036854775807) (w : World) : Calls Try.prog 12 #[.string s] w fun e w' => e = .returned (.int .i64 (bkt (tx s) : Nat)) ∧ w' = w := by
  have hl := tx_len s
  have HL : Hid _ := hl
  clear hl
  go_enter Try.func12, Try.ntmps12
  go_wp2
  go_loopw [3, 7] (fun l i wr => ∃ (j : Nat), j ≤ s.size ∧ i = .int .i64 j ∧ l = .int .i64 (bkt ((tx s).take j) : Nat) ∧ wr = w) (fun _ i _ => (s.size - intOf i).toNat)
  case atStart => exact ⟨0, by omega, rfl, rfl, rfl⟩
  case round =>
    obtain ⟨j, hj, rfl, rfl, rfl⟩ := hrel
    have hb := bkt_lt ((tx s).take j)
    obtain ⟨y, hyy⟩ : ∃ y, y = bkt ((tx s).take j) := ⟨_, rfl⟩
    have HY : Hid _ := hyy
    rw [← hyy] at hb ⊢
    clear hyy
    by_cases hlt : j < s.size
    · have hix := idx_any s (i := j) (by rw [HL.out]; exact hlt) .i64
      have hc := tx_at s (i := j) (by rw [HL.out]; exact hlt)
      have hst := bkt_take (tx s) (i := j) (by rw [HL.out]; exact hlt)
      rw [← HY.out] at hst
      have HST : Hid _ := hst
      clear hst
      obtain ⟨c, hcc⟩ : ∃ c, c = (tx s).getD j 0 := ⟨_, rfl⟩
      rw [← hcc] at hix hc
      have HCC : Hid _ := hcc
      clear hcc
      go_wp2
      go_roundw
      case rel =>
        refine ⟨j + 1, by omega, by go_num, ?_, trivial⟩
        rw [HST.out, ← HCC.out]
        congr 1
      case measure => simp [intOf]; omega
    · obtain rfl : j = s.size := by omega
      go_wp2
      go_ret
      refine ⟨?_, rfl⟩
      rw [HY.out, List.take_of_length_le (by rw [HL.out]; exact Nat.le_refl _)]
      rfl
end Go.Proofs.Ytdkmnnihgobmoaa
