/- Items of several texts. -/
import Derived.Test.YtpnnpdfmoldiiaaDLaw10
import Derived.Test.YtpnnpdfmoldiiaaDArg5
namespace Go.Proofs.Ytpnnpdfmoldiiaa
open Go.ChangeShapes Go.WideShapes Go.ChangeAt Go.RowKit
theorem cells9 : Try.prog.cellsOf 9 = 1 := by kernel_rfl
theorem list10 {α : Type} (l : List α) (h : l.length = 10) : ∃ a b c d e f g i j k, l = [a, b, c, d, e, f, g, i, j, k] := by
 match l, h with
 | [a, b, c, d, e, f, g, i, j, k], _ => exact ⟨a, b, c, d, e, f, g, i, j, k, rfl⟩
section
variable {H : Type} {enc : TypeId × Value → H}
end
end Go.Proofs.Ytpnnpdfmoldiiaa
