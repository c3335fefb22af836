/- What was written is read. -/
import Derived.Test.YtkjinhbhlcbfdaaRtext
namespace Go.Proofs.Ytkjinhbhlcbfdaa

theorem num_back {n : Nat} (h : n < 18446744073709551616) (l : List Nat) : numS (numB n ++ l, 0) = (n, (l, 0)) := by
  simp only [numS, ne_eq, not_true_eq_false, if_false]
  rw [rd_back l n 0 0 (by omega) (by omega) (by omega)]
  simp
theorem int_back {i : Int} (h0 : -9223372036854775808 ≤ i) (h1 : i ≤ 9223372036854775807) (l : List Nat) : intS (numB (zig i) ++ l, 0) = (i, (l, 0)) := by
  simp only [intS]
  rw [num_back (zig_lt h0 h1), unzig_zig]
theorem count_back {n : Nat} (h : n < 18446744073709551616) (l : List Nat) {most : Nat} (hm : n ≤ most) : countS most (numB n ++ l, 0) = (n, (l, 0)) := by
  unfold countS
  rw [num_back h, if_neg (by simp only; omega)]
theorem text_back (t l : List Nat) (h : t.length < 18446744073709551616) {most : Nat} (hm : t.length ≤ most) : textS most (numB t.length ++ (t ++ l), 0) = (t, (l, 0)) := by
  unfold textS
  rw [count_back h _ hm]
  simp
theorem flag_back (f : Bool) (l : List Nat) : flagS ((if f then 1 else 0) :: l, 0) = (f, (l, 0)) := by
  cases f <;> simp [flagS]
theorem u64_nat {x : Int} (h : (Lit.int .u64 x).wf = true) : ∃ n : Nat, x = n ∧ n < 18446744073709551616 := by
  have hb : 0 ≤ x ∧ x ≤ 18446744073709551615 := by
    simp only [Lit.wf, Bool.and_eq_true, decide_eq_true_eq] at h
    exact h
  exact ⟨x.toNat, by omega, by omega⟩
theorem i64_int {x : Int} (h : (Lit.int .i64 x).wf = true) : -9223372036854775808 ≤ x ∧ x ≤ 9223372036854775807 := by
  simp only [Lit.wf, Bool.and_eq_true, decide_eq_true_eq] at h
  exact h
end Go.Proofs.Ytkjinhbhlcbfdaa
