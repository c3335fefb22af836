/- isNode, May, Less, Next. -/
import Derived.Test.YtmeclfgehpbjlaaVec
namespace Go.Proofs.Ytmeclfgehpbjlaa
open Go.RowKit

def nodeB (n : Int) : Bool := decide (0 ≤ n ∧ n < 8)
def mayB (f : Nat → Int) : Bool := @decide (∀ j, j < 8 → 0 ≤ f j ∧ f j ≤ 1099511627776) (dec8 (fun j => 0 ≤ f j ∧ f j ≤ 1099511627776) (fun _ => inferInstance))
def lessB (a b c d : Int) : Bool := decide (a < c ∨ a = c ∧ b < d)

end Go.Proofs.Ytmeclfgehpbjlaa
