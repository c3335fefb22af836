/- Bytes that are read without an error are what writing it makes: plain facts. -/
import Derived.Test.YtkjinhbhlcbfdaaOnce1
namespace Go.Proofs.Ytkjinhbhlcbfdaa

theorem end_zero {s : RS} (h : endS s = 0) : s = ([], 0) := by
  obtain ⟨l, er⟩ := s
  unfold endS at h
  split at h
  · omega
  · rename_i h1
    simp only at h h1
    subst h
    simp only [true_and, ne_eq, Decidable.not_not] at h1
    rw [h1]
theorem once_num {bs : List Nat} (hb : ∀ b ∈ bs, b < 256) (h : endS (numS (bs, 0)).2 = 0) : numB (numS (bs, 0)).1 = bs ∧ (numS (bs, 0)).1 < 18446744073709551616 := by
  have he := end_zero h
  simp only [numS, ne_eq, not_true_eq_false, if_false] at he ⊢
  cases hr : rdNum 0 0 bs with
  | inl e =>
    rw [hr] at he
    have := rd_err _ _ _ _ hr
    simp at he
    omega
  | inr v =>
    obtain ⟨n, l⟩ := v
    rw [hr] at he
    simp only [Prod.mk.injEq, and_true] at he
    subst he
    obtain ⟨m, h1, h2, h3, -⟩ := rd_inv _ _ _ _ _ hb (by omega) hr
    simp at h2 h3
    subst h2
    exact ⟨by rw [h1]; simp, h3⟩
theorem once_int {bs : List Nat} (hb : ∀ b ∈ bs, b < 256) (h : endS (intS (bs, 0)).2 = 0) : numB (zig (intS (bs, 0)).1) = bs := by
  simp only [intS] at h ⊢
  rw [zig_unzig]
  exact (once_num hb h).1
theorem unzig_range {n : Nat} (h : n < 18446744073709551616) : -9223372036854775808 ≤ unzig n ∧ unzig n ≤ 9223372036854775807 := by
  unfold unzig
  split <;> omega
theorem once_flag {bs : List Nat} (h : endS (flagS (bs, 0)).2 = 0) : [if (flagS (bs, 0)).1 then 1 else 0] = bs := by
  have he := end_zero h
  match bs with
  | [] => simp [flagS] at he
  | b :: l =>
    simp only [flagS, ne_eq, not_true_eq_false, if_false] at he ⊢
    split at he
    · simp at he
    · rename_i h1
      simp only [Prod.mk.injEq, and_true] at he
      subst he
      rw [if_neg h1]
      have : b = 0 ∨ b = 1 := by omega
      rcases this with rfl | rfl <;> rfl
theorem once_text {bs : List Nat} (hb : ∀ b ∈ bs, b < 256) (h : endS (textS bs.length (bs, 0)).2 = 0) : numB (textS bs.length (bs, 0)).1.length ++ (textS bs.length (bs, 0)).1 = bs := by
  have he := end_zero h
  unfold textS at he ⊢
  split at he
  · rename_i h1
    rw [he] at h1
    simp at h1
  · rename_i h1
    rw [if_neg h1]
    split at he
    · simp at he
    · rename_i h2
      rw [if_neg h2]
      simp only [Prod.mk.injEq, and_true] at he
      have hc : countS bs.length (bs, 0) = numS (bs, 0) := by
        unfold countS at h1 ⊢
        split
        · rename_i h3
          rw [if_pos h3] at h1
          simp at h1
        · rfl
      rw [hc] at he h1 h2 ⊢
      simp only [numS, ne_eq, not_true_eq_false, if_false] at he h1 h2 ⊢
      cases hr : rdNum 0 0 bs with
      | inl e =>
        rw [hr] at h1
        have := rd_err _ _ _ _ hr
        simp at h1
        omega
      | inr v =>
        obtain ⟨n, l⟩ := v
        rw [hr] at he h2
        simp only at he h2 ⊢
        obtain ⟨m, e1, e2, -, -⟩ := rd_inv _ _ _ _ _ hb (by omega) hr
        simp at e2
        subst e2
        have hl : l.length = n := by
          have := congrArg List.length he
          simp at this
          omega
        rw [List.take_of_length_le (by omega), hl]
        exact e1.symm
end Go.Proofs.Ytkjinhbhlcbfdaa
