/- Items of several texts. -/
import Derived.Lib.SlBytesConst
import Derived.Test.YtmjmgdbhmbjmaabALiv
namespace Go.Proofs.Ytmjmgdbhmbjmaab
def LT (x y : A) : Prop := x.node < y.node ∨ x.node = y.node ∧ x.num < y.num
theorem less_iff {x y : A} : lessA x y = true ↔ LT x y := by simp [lessA, lessB, LT]
theorem LT.irr (x : A) : ¬ LT x x := by unfold LT; omega
theorem not_less {x y : A} : lessA x y = false ↔ ¬ LT x y := by rw [← less_iff]; simp
end Go.Proofs.Ytmjmgdbhmbjmaab
