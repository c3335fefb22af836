/- Items of several texts. -/
import Derived.Test.YtpnnpdfmoldiiabASam
import Derived.Test.YtpnnpdfmoldiiabAGMay
namespace Go.Proofs.Ytpnnpdfmoldiiab
theorem same_iff {f g : Nat → Int} {l k : List A} : sameS f g l k = true ↔ (∀ j, j < 8 → f j = g j) ∧ l = k := by simp [sameS, eqB, sameR]
end Go.Proofs.Ytpnnpdfmoldiiab
