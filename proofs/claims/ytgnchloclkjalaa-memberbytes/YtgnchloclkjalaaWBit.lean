/- Bits that the forms use. -/
import Derived.Test.YtgnchloclkjalaaWPure
import Derived.Laws.BitsAll
import Derived.Laws.Entries
namespace Go.Proofs.Ytgnchloclkjalaa

theorem or128 (m : Nat) : bits .or .u8 ((m % 256 : Nat) : Int) 128 = ((m % 128 + 128 : Nat) : Int) := by
  have h := u8_or_nat (m % 256) 128 (by omega) (by decide)
  have k : ∀ x, x < 256 → x ||| 128 = x % 128 + 128   := by decide +kernel
  rw [k _ (by omega)] at h
  rw [show m % 256 % 128 = m % 128 by omega] at h
  exact h
theorem wrap8 (m : Nat) : IntKind.u8.wrap (m : Int) = ((m % 256 : Nat) : Int) := by
  rw [IntKind.wrap_u8]
  omega
theorem andNot128 (b : Nat) (h : b < 256) : bits .andNot .u8 (b : Int) 128 = ((b % 128 : Nat) : Int) := by
  have h1 := u8_andNot_nat b 128 h (by decide)
  have k : ∀ x, x < 256 → x &&& (255 - 128) = x % 128   := by decide +kernel
  rw [k _ h] at h1
  exact h1
theorem and127 (b : Nat) (h : b < 256) : bits .and .u8 (b : Int) 127 = ((b % 128 : Nat) : Int) := by
  have h1 := u8_and_nat b 127 h (by decide)
  have k : ∀ x, x < 256 → x &&& 127 = x % 128   := by decide +kernel
  rw [k _ h] at h1
  exact h1
theorem or_add {a c i : Nat} (ha : a < 2 ^ i) (h : a + c * 2 ^ i < 18446744073709551616) : bits .or .u64 (a : Int) ((c * 2 ^ i : Nat) : Int) = ((a + c * 2 ^ i : Nat) : Int) := by
  have h1 := u64_or_nat a (c * 2 ^ i) (by omega) (by omega)
  rw [h1]
  congr 1
  have h2 := Nat.shiftLeft_add_eq_or_of_lt ha c
  rw [Nat.shiftLeft_eq] at h2
  rw [Nat.or_comm, ← h2]
  omega
theorem shl_at {c i : Nat} (hi : i ≤ 9) (h : c * 2 ^ (7 * i) < 18446744073709551616) (yk : IntKind) : Op.shift .shl .u64 (c : Int) yk ((7 * i : Nat) : Int) = pure (.int .u64 ((c * 2 ^ (7 * i) : Nat) : Int)) := by
  rw [shift_shl .u64 yk _ _ (by omega) (by simp [IntKind.bits]; omega)]
  congr 2
  rw [show ((7 * i : Nat) : Int).toNat = 7 * i by omega, IntKind.wrap_u64]
  have : ((c : Int) * 2 ^ (7 * i)) = ((c * 2 ^ (7 * i) : Nat) : Int) := by push_cast; rfl
  rw [this]
  omega
theorem xor_all (x : Nat) (h : x < 18446744073709551616) : x ^^^ 18446744073709551615 = 18446744073709551615 - x := by
  have e : 18446744073709551615 - x = 2 ^ 64 - (x + 1) := by omega
  have e1 : 18446744073709551615 = 2 ^ 64 - 1 := by decide
  rw [e]
  conv => lhs; rw [e1]
  apply Nat.eq_of_testBit_eq
  intro i
  rw [Nat.testBit_xor, Nat.testBit_two_pow_sub_one, Nat.testBit_two_pow_sub_succ (by omega)]
  by_cases hi : i < 64
  · simp [hi]
  · have : x.testBit i = false := Nat.testBit_lt_two_pow (Nat.lt_of_lt_of_le h (by
      have := Nat.pow_le_pow_right (n := 2) (by decide) (show 64 ≤ i by omega)
      simpa using this))
    simp [hi, this]
theorem zig_pos {i : Int} (h0 : 0 ≤ i) (h1 : i ≤ 9223372036854775807) : bits .xor .u64 (IntKind.u64.wrap (IntKind.u64.wrap i * 2)) (IntKind.u64.wrap (i / 9223372036854775808)) = ((zig i : Nat) : Int) := by
  obtain ⟨n, rfl⟩ := Int.eq_ofNat_of_zero_le h0
  rw [IntKind.wrap_u64, IntKind.wrap_u64, IntKind.wrap_u64]
  have e1 : ((n : Int) % 18446744073709551616 * 2 % 18446744073709551616) = ((2 * n : Nat) : Int) := by omega
  have e2 : ((n : Int) / 9223372036854775808 % 18446744073709551616) = ((0 : Nat) : Int) := by omega
  rw [e1, e2, u64_xor_nat _ _ (by omega) (by decide)]
  unfold zig
  rw [if_pos h0]
  simp
  omega
theorem zig_neg {i : Int} (h0 : i < 0) (h1 : -9223372036854775808 ≤ i) : bits .xor .u64 (IntKind.u64.wrap (IntKind.u64.wrap i * 2)) (IntKind.u64.wrap (i / 9223372036854775808)) = ((zig i : Nat) : Int) := by
  obtain ⟨n, hn⟩ := Int.eq_ofNat_of_zero_le (show 0 ≤ -i - 1 by omega)
  obtain rfl : i = -(n : Int) - 1 := by omega
  rw [IntKind.wrap_u64, IntKind.wrap_u64, IntKind.wrap_u64]
  have e1 : ((-(n : Int) - 1) % 18446744073709551616 * 2 % 18446744073709551616) = ((18446744073709551616 - 2 * (n + 1) : Nat) : Int) := by omega
  have e2 : ((-(n : Int) - 1) / 9223372036854775808 % 18446744073709551616) = ((18446744073709551615 : Nat) : Int) := by omega
  rw [e1, e2, u64_xor_nat _ _ (by omega) (by decide), xor_all _ (by omega)]
  unfold zig
  rw [if_neg (by omega)]
  omega
theorem zig_bits {i : Int} (h0 : -9223372036854775808 ≤ i) (h1 : i ≤ 9223372036854775807) : bits .xor .u64 (IntKind.u64.wrap (IntKind.u64.wrap i * 2)) (IntKind.u64.wrap (i / 9223372036854775808)) = ((zig i : Nat) : Int) := by
  by_cases h : 0 ≤ i
  · exact zig_pos h h1
  · exact zig_neg (by omega) h0
theorem u64_odd (n : Nat) (h : n < 18446744073709551616) : bits .and .u64 (n : Int) 1 = ((n % 2 : Nat) : Int) := by
  have := u64_and_nat n 1 h (by decide)
  rw [Nat.and_one_is_mod] at this
  exact this
theorem xor_none (a : Nat) (ha : a < 9223372036854775808) : bits .xor .i64 (a : Int) 0 = (a : Int) := by
  show IntKind.i64.wrap ((BitVec.ofInt 64 (a : Int) ^^^ BitVec.ofInt 64 0).toNat : Int) = _
  have h1 : BitVec.ofInt 64 0 = 0#64 := by decide
  rw [h1, BitVec.xor_zero, ofInt_u64 a (by omega)]
  simp [IntKind.wrap, IntKind.bits, IntKind.signed]
  omega
theorem xor_ones (a : Nat) (ha : a < 9223372036854775808) : bits .xor .i64 (a : Int) (-1) = -(a : Int) - 1 := by
  show IntKind.i64.wrap ((BitVec.ofInt 64 (a : Int) ^^^ BitVec.ofInt 64 (-1)).toNat : Int) = _
  have h1 : BitVec.ofInt 64 (-1) = BitVec.allOnes 64 := by decide
  rw [h1, BitVec.xor_allOnes, BitVec.toNat_not, ofInt_u64 a (by omega)]
  simp [IntKind.wrap, IntKind.bits, IntKind.signed]
  omega
end Go.Proofs.Ytgnchloclkjalaa
