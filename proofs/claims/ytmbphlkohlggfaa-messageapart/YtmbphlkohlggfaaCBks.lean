/- Items of several texts. -/
import Derived.Deep.Cut
import Derived.Deep.RegionHeld
import Derived.Lib.SlBytesConst
import Derived.Deep.RegionWith
import Derived.Test.YtmbphlkohlggfaaCCpy
import Derived.Test.YtmbphlkohlggfaaCSam
import Derived.Test.YtmbphlkohlggfaaCTbJ
import Derived.Test.YtmbphlkohlggfaaCArg10
namespace Go.Proofs.Ytmbphlkohlggfaa
open Go.RowKit
theorem exec_bin10 {P : Program} {ρ : Operand → Value} {o : Oper} {op : BinOp} {t t2 : TypeId} {x y : Operand} {v : Value} {w : World} (ho : o.op = .binOp op t x y t2) (hg : (eqGuard op t x y (ρ x) (ρ y)).run P w = .ok () w) (h : (binOp op t (ρ x) (ρ y)).run P w = .ok v w) : Sem.run P (execOp ρ o) w = .ok (.value v) w := by
 have e : execOp ρ o = (do pure (.value (← (do eqGuard op t x y (ρ x) (ρ y); binOp op t (ρ x) (ρ y))))) := by unfold execOp; rw [ho]
 rw [e, Sem.run_bind, Sem.run_bind, hg]
 show (((binOp op t (ρ x) (ρ y)).run P w).andThen _) = _
 rw [h]
 rfl
end Go.Proofs.Ytmbphlkohlggfaa
