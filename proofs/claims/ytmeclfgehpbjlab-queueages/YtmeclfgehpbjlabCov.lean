/- Covers. -/
import Derived.Test.YtmeclfgehpbjlabWith
namespace Go.Proofs.Ytmeclfgehpbjlab
open Go.RowKit

def coversB (f : Nat → Int) (n N : Int) : Bool := decide (0 ≤ n ∧ n < 8 ∧ 1 ≤ N ∧ N ≤ f n.toNat)
end Go.Proofs.Ytmeclfgehpbjlab
