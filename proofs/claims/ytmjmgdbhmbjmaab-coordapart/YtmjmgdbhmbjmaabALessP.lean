/- Items of several texts. -/
import Derived.Test.YtmjmgdbhmbjmaabASam
import Derived.Test.YtmjmgdbhmbjmaabAGMay
namespace Go.Proofs.Ytmjmgdbhmbjmaab
theorem first_self (x : A) : firstA x x = x := by unfold firstA; split <;> rfl
theorem merge_self (p q : A → Bool) (l : List A) : mergeA p q l l = l := by
 induction l with
 | nil => rw [mergeA_nil _ _ _ _ (.inl rfl)]; rfl
 | cons x l ih =>
  have h : lessA x x = false := not_less.2 (LT.irr x)
  rw [mergeA_eq _ _ _ _ h h, first_self, ih]
end Go.Proofs.Ytmjmgdbhmbjmaab
