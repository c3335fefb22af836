/- The contracts of first, newTo and what newTo makes. -/
import Derived.Test.YtmeclfgehpbjlaaCpy
namespace Go.Proofs.Ytmeclfgehpbjlaa
open Go.RowKit

/-- Of two values of one dot the one that stands. -/
def firstB (d1 d2 : Bool) (b1 b2 : List Nat) : Bool := if d1 = d2 then !ltL b2 b1 else d2
def firstA (x y : A) : A := if firstB x.dead y.dead x.data y.data then x else y
def firstV (x y : V) : V := if firstB x.dead y.dead x.data y.data then x else y
theorem firstV_abs (x y : V) : (firstV x y).abs = firstA x.abs y.abs := by
  unfold firstV firstA
  by_cases h : firstB x.dead y.dead x.data y.data = true
  · simp [V.abs, h]
  · simp [V.abs, h]
theorem firstV_ok {w : World} {x y : V} (hx : VOk w x) (hy : VOk w y) : VOk w (firstV x y) := by
  unfold firstV
  split
  · exact hx
  · exact hy

end Go.Proofs.Ytmeclfgehpbjlaa
