/- Leq, With, Covers. -/
import Derived.Test.YtmeclfgehpbjlaaTake
namespace Go.Proofs.Ytmeclfgehpbjlaa
open Go.RowKit

def leqB (f g : Nat → Int) : Bool := @decide (∀ j, j < 8 → f j ≤ g j) (dec8 (fun j => f j ≤ g j) (fun _ => inferInstance))
end Go.Proofs.Ytmeclfgehpbjlaa
