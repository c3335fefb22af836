/- A key's bucket. -/
import Derived.Test.YtbagahlphnafdaaTxt
namespace Go.Proofs.Ytbagahlphnafdaa
open Go.RowKit

/-- The rest of a sum of bytes by four. -/
def bkt (l : List Nat) : Nat := l.sum % 4
theorem bkt_lt (l : List Nat) : bkt l < 4 := Nat.mod_lt _ (by decide)
theorem bkt_append (a b : List Nat) : bkt (a ++ b) = (bkt a + bkt b) % 4 := by
  unfold bkt
  rw [List.sum_append]
  omega
theorem bkt_take (l : List Nat) {i : Nat} (h : i < l.length) : bkt (l.take (i + 1)) = (bkt (l.take i) + l.getD i 0) % 4 := by
  rw [List.take_add_one, List.getElem?_eq_getElem h, bkt_append]
  simp [bkt, List.getD_eq_getElem?_getD, h]
theorem bucket_any (s : ByteArray) (hs : s.size ≤ 9223372036854775807) (w : World) : Calls Try.prog 39 #[.string s] w fun e w' => e = .returned (.int .i64 (bkt (tx s) : Nat)) ∧ w' = w := by
  have hl := tx_len s
  have HL : Hid _ := hl
  clear hl
  go_enter Try.func39, Try.ntmps39
  go_wp2
  go_loopw [3, 7] (fun l i wr => ∃ (j : Nat), j ≤ s.size ∧ i = .int .i64 j ∧ l = .int .i64 (bkt ((tx s).take j) : Nat) ∧ wr = w) (fun _ i _ => (s.size - intOf i).toNat)
  case atStart => exact ⟨0, by omega, rfl, rfl, rfl⟩
  case round =>
    obtain ⟨j, hj, rfl, rfl, rfl⟩ := hrel
    have hb := bkt_lt ((tx s).take j)
    obtain ⟨y, hyy⟩ : ∃ y, y = bkt ((tx s).take j) := ⟨_, rfl⟩
    have HY : Hid _ := hyy
    rw [← hyy] at hb ⊢
    clear hyy
    by_cases hlt : j < s.size
    · have hix := idx_any s (i := j) (by rw [HL.out]; exact hlt) .i64
      have hc := tx_at s (i := j) (by rw [HL.out]; exact hlt)
      have hst := bkt_take (tx s) (i := j) (by rw [HL.out]; exact hlt)
      rw [← HY.out] at hst
      have HST : Hid _ := hst
      clear hst
      obtain ⟨c, hcc⟩ : ∃ c, c = (tx s).getD j 0 := ⟨_, rfl⟩
      rw [← hcc] at hix hc
      have HCC : Hid _ := hcc
      clear hcc
      go_wp2
      go_roundw
      case rel =>
        refine ⟨j + 1, by omega, by go_num, ?_, trivial⟩
        rw [HST.out, ← HCC.out]
        congr 1
      case measure => simp [intOf]; omega
    · obtain rfl : j = s.size := by omega
      go_wp2
      go_ret
      refine ⟨?_, rfl⟩
      rw [HY.out, List.take_of_length_le (by rw [HL.out]; exact Nat.le_refl _)]
      rfl
theorem rbucket_any (s : ByteArray) (hs : s.size ≤ 9223372036854775807) (w : World) : Calls Try.prog 26 #[.string s] w fun e w' => e = .returned (.int .i64 (bkt (tx s) : Nat)) ∧ w' = w := by
  have hl := tx_len s
  have HL : Hid _ := hl
  clear hl
  go_enter Try.func26, Try.ntmps26
  go_wp2
  go_loopw [3, 7] (fun l i wr => ∃ (j : Nat), j ≤ s.size ∧ i = .int .i64 j ∧ l = .int .i64 (bkt ((tx s).take j) : Nat) ∧ wr = w) (fun _ i _ => (s.size - intOf i).toNat)
  case atStart => exact ⟨0, by omega, rfl, rfl, rfl⟩
  case round =>
    obtain ⟨j, hj, rfl, rfl, rfl⟩ := hrel
    have hb := bkt_lt ((tx s).take j)
    obtain ⟨y, hyy⟩ : ∃ y, y = bkt ((tx s).take j) := ⟨_, rfl⟩
    have HY : Hid _ := hyy
    rw [← hyy] at hb ⊢
    clear hyy
    by_cases hlt : j < s.size
    · have hix := idx_any s (i := j) (by rw [HL.out]; exact hlt) .i64
      have hc := tx_at s (i := j) (by rw [HL.out]; exact hlt)
      have hst := bkt_take (tx s) (i := j) (by rw [HL.out]; exact hlt)
      rw [← HY.out] at hst
      have HST : Hid _ := hst
      clear hst
      obtain ⟨c, hcc⟩ : ∃ c, c = (tx s).getD j 0 := ⟨_, rfl⟩
      rw [← hcc] at hix hc
      have HCC : Hid _ := hcc
      clear hcc
      go_wp2
      go_roundw
      case rel =>
        refine ⟨j + 1, by omega, by go_num, ?_, trivial⟩
        rw [HST.out, ← HCC.out]
        congr 1
      case measure => simp [intOf]; omega
    · obtain rfl : j = s.size := by omega
      go_wp2
      go_ret
      refine ⟨?_, rfl⟩
      rw [HY.out, List.take_of_length_le (by rw [HL.out]; exact Nat.le_refl _)]
      rfl
end Go.Proofs.Ytbagahlphnafdaa
