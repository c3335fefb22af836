/- Items of several texts. -/
import Derived.Test.YtpnnpdfmoldiiaaQSam
import Derived.Test.YtpnnpdfmoldiiaaQGMay
namespace Go.Proofs.Ytpnnpdfmoldiiaa
theorem first_self (x : A) : firstA x x = x := by unfold firstA; split <;> rfl
theorem take_may {f : Nat → Int} {l : List A} (h : MayP f l) : l.take 16 = l := List.take_of_length_le h.few
theorem same_iff {f g : Nat → Int} {l k : List A} : sameS f g l k = true ↔ (∀ j, j < 8 → f j = g j) ∧ l = k := by simp [sameS, eqB, sameR]
end Go.Proofs.Ytpnnpdfmoldiiaa
