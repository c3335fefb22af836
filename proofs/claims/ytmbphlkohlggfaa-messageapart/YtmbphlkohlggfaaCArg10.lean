/- Items of several texts. -/
import Derived.Test.YtmbphlkohlggfaaCLaw10
import Derived.Test.YtmbphlkohlggfaaCArg5
namespace Go.Proofs.Ytmbphlkohlggfaa
open Go.ChangeShapes Go.WideShapes Go.ChangeAt Go.RowKit
theorem cellsEn : Try.prog.cellsOf 46 = 10 := by kernel_rfl
theorem cells9 : Try.prog.cellsOf 9 = 1 := by kernel_rfl
theorem fieldsEntry : ∃ f0 f1 : Field, Try.prog.underlying 46 = some (.struct #[f0, f1]) ∧ (f0.offset = 0 ∧ f0.type = 9) ∧ (f1.offset = 1 ∧ f1.type = 40) :=
 ⟨_, _, Try.underlying46, ⟨rfl, rfl⟩, ⟨rfl, rfl⟩⟩
theorem list10 {α : Type} (l : List α) (h : l.length = 10) : ∃ a b c d e f g i j k, l = [a, b, c, d, e, f, g, i, j, k] := by
 match l, h with
 | [a, b, c, d, e, f, g, i, j, k], _ => exact ⟨a, b, c, d, e, f, g, i, j, k, rfl⟩
section
variable {H : Type} {enc : TypeId × Value → H}
end
end Go.Proofs.Ytmbphlkohlggfaa
