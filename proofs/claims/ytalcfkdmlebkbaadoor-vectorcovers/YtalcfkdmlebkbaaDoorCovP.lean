/- What VectorCovers needs, of vectors alone. -/
import Derived.Test.YtalcfkdmlebkbaaDoorOrd
namespace Go.Proofs.YtalcfkdmlebkbaaDoor
open Go.RowKit

theorem covers_join {a b g : Nat → Int} (hg : ∀ j, j < 8 → g j = max (a j) (b j)) (n N : Int) : coversB g n N = (coversB a n N || coversB b n N) := by
  rw [Bool.eq_iff_iff]
  simp only [coversB, Bool.or_eq_true, decide_eq_true_eq]
  constructor
  · rintro ⟨h0, h1, h2, h3⟩
    have := hg n.toNat (by omega)
    rw [this] at h3
    omega
  · rintro (⟨h0, h1, h2, h3⟩ | ⟨h0, h1, h2, h3⟩)
    · have := hg n.toNat (by omega)
      rw [this]
      omega
    · have := hg n.toNat (by omega)
      rw [this]
      omega
theorem with_at (a : Nat → Int) {n N : Int} (h : 0 ≤ n ∧ n < 8) (j : Nat) : withV a n N j = if j = n.toNat then max (a n.toNat) N else a j := by
  have hb : nodeB n = true := by simpa [nodeB] using h
  simp [withV, hb, upd]
theorem covers_with (a : Nat → Int) {n N : Int} (h : 0 ≤ n ∧ n < 8) (h1 : 1 ≤ N) : coversB (withV a n N) n N = true := by
  simp only [coversB, decide_eq_true_eq]
  rw [with_at a h]
  simp
  omega
theorem leq_with (a : Nat → Int) {n N : Int} (h : 0 ≤ n ∧ n < 8) : leqB a (withV a n N) = true := by
  simp only [leqB, decide_eq_true_eq]
  intro j hj
  rw [with_at a h]
  split
  · rename_i e
    rw [e]
    omega
  · omega
theorem eql_bool2 (x y : Bool) (W : World) : (binOp .neq 4 (.bool x) (.bool y)).run Tryd.prog W = .ok (.bool (x != y)) W := by cases x <;> cases y <;> go_simp

end Go.Proofs.YtalcfkdmlebkbaaDoor
