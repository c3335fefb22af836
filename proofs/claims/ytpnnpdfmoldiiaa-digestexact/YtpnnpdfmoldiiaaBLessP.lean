/- Items of several texts. -/
import Derived.Test.YtpnnpdfmoldiiaaBSam
import Derived.Test.YtpnnpdfmoldiiaaBGMay
namespace Go.Proofs.Ytpnnpdfmoldiiaa
theorem first_self (x : A) : firstA x x = x := by unfold firstA; split <;> rfl
theorem same_iff {f g : Nat → Int} {l k : List A} : sameS f g l k = true ↔ (∀ j, j < 8 → f j = g j) ∧ l = k := by simp [sameS, eqB, sameR]
end Go.Proofs.Ytpnnpdfmoldiiaa
