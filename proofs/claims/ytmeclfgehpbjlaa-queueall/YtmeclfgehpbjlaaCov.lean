/- Covers. -/
import Derived.Test.YtmeclfgehpbjlaaWith
namespace Go.Proofs.Ytmeclfgehpbjlaa
open Go.RowKit

def coversB (f : Nat → Int) (n N : Int) : Bool := decide (0 ≤ n ∧ n < 8 ∧ 1 ≤ N ∧ N ≤ f n.toNat)
end Go.Proofs.Ytmeclfgehpbjlaa
