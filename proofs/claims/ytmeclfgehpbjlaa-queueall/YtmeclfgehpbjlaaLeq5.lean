/- The contract of sibs.Leq. -/
import Derived.Test.YtmeclfgehpbjlaaSam
namespace Go.Proofs.Ytmeclfgehpbjlaa
open Go.RowKit

def leqS (f g : Nat → Int) (l k : List A) : Bool := mayS f l && mayS g k && sameS (joinV f g l k) g (joinL f g l k) k
theorem leq_no {f g : Nat → Int} {l k : List A} (h : mayS f l = false ∨ mayS g k = false) : leqS f g l k = false := by
  unfold leqS
  rcases h with h | h <;> simp [h]
theorem leq_yes {f g : Nat → Int} {l k : List A} (h1 : mayS f l = true) (h2 : mayS g k = true) : leqS f g l k = sameS (joinV f g l k) g (joinL f g l k) k := by simp [leqS, h1, h2]
end Go.Proofs.Ytmeclfgehpbjlaa
