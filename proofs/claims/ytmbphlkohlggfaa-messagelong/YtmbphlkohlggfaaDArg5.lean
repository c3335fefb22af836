/- Items of several texts. -/
import Derived.OpenShut
import Derived.ShutString
import Derived.ChangeOld
import Derived.ChangeSame
import Derived.SizedLaws
import Derived.Deep.Slices
import Derived.Lib.SlBytesConst
import Derived.Test.YtmbphlkohlggfaaDLiv
namespace Go.Proofs.Ytmbphlkohlggfaa
open Go.ChangeShapes Go.WideShapes Go.ChangeAt Go.RowKit
theorem wfI {n : Int} (h : (Lit.int .i64 n).wf = true) : -9223372036854775808 ≤ n ∧ n ≤ 9223372036854775807 := by
 simp [Lit.wf] at h
 exact h
section
variable {H : Type} {enc : TypeId × Value → H}
end
end Go.Proofs.Ytmbphlkohlggfaa
