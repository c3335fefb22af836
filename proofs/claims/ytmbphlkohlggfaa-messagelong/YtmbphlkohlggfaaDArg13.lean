/- Items of several texts. -/
import Derived.Test.YtmbphlkohlggfaaDLaw10
import Derived.Test.YtmbphlkohlggfaaDDg0
import Derived.Test.YtmbphlkohlggfaaDArg5
namespace Go.Proofs.Ytmbphlkohlggfaa
open Go.ChangeShapes Go.WideShapes Go.ChangeAt Go.RowKit
structure RgD (ds : List (Int × Int)) : Prop where
 rg : ∀ d ∈ ds, (-9223372036854775808 ≤ d.1 ∧ d.1 ≤ 9223372036854775807) ∧ (-9223372036854775808 ≤ d.2 ∧ d.2 ≤ 9223372036854775807)
section
variable {H : Type} {enc : TypeId × Value → H}
end
end Go.Proofs.Ytmbphlkohlggfaa
