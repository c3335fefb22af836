/- Items of several texts. -/
import Derived.Deep.Cut
import Derived.Deep.RegionHeld
import Derived.Test.YtmbphlkohlggfaaGreatAGMay
import Derived.Test.YtmbphlkohlggfaaGreatADot5
import Derived.Test.YtmbphlkohlggfaaGreatATbJ
import Derived.Test.YtmbphlkohlggfaaGreatALaw10
import Derived.Test.YtmbphlkohlggfaaGreatAArg5
namespace Go.Proofs.YtmbphlkohlggfaaGreat
open Go.ChangeShapes Go.WideShapes Go.ChangeAt Go.RowKit
theorem cellsEn : Tryz.prog.cellsOf 46 = 10 := by kernel_rfl
theorem cells9 : Tryz.prog.cellsOf 9 = 1 := by kernel_rfl
theorem fieldsEntry : ∃ f0 f1 : Field, Tryz.prog.underlying 46 = some (.struct #[f0, f1]) ∧ (f0.offset = 0 ∧ f0.type = 9) ∧ (f1.offset = 1 ∧ f1.type = 44) :=
 ⟨_, _, Tryz.underlying46, ⟨rfl, rfl⟩, ⟨rfl, rfl⟩⟩
theorem list10 {α : Type} (l : List α) (h : l.length = 10) : ∃ a b c d e f g i j k, l = [a, b, c, d, e, f, g, i, j, k] := by
 match l, h with
 | [a, b, c, d, e, f, g, i, j, k], _ => exact ⟨a, b, c, d, e, f, g, i, j, k, rfl⟩
section
variable {H : Type} {enc : TypeId × Value → H}
end
end Go.Proofs.YtmbphlkohlggfaaGreat

namespace Go.Proofs.YtmbphlkohlggfaaGreat
open Go.RowKit
theorem exec_bin10 {P : Program} {ρ : Operand → Value} {o : Oper} {op : BinOp} {t t2 : TypeId} {x y : Operand} {v : Value} {w : World} (ho : o.op = .binOp op t x y t2) (hg : (eqGuard op t x y (ρ x) (ρ y)).run P w = .ok () w) (h : (binOp op t (ρ x) (ρ y)).run P w = .ok v w) : Sem.run P (execOp ρ o) w = .ok (.value v) w := by
 have e : execOp ρ o = (do pure (.value (← (do eqGuard op t x y (ρ x) (ρ y); binOp op t (ρ x) (ρ y))))) := by unfold execOp; rw [ho]
 rw [e, Sem.run_bind, Sem.run_bind, hg]
 show (((binOp op t (ρ x) (ρ y)).run P w).andThen _) = _
 rw [h]
 rfl
end Go.Proofs.YtmbphlkohlggfaaGreat
