/- Items of several texts. -/
import Derived.Deep.Cut
import Derived.Deep.RegionHeld
import Derived.Laws.OwnMore
import Derived.Test.YtpnnpdfmoldiiaaBJoi
import Derived.Test.YtpnnpdfmoldiiaaBThy2
import Derived.Test.YtpnnpdfmoldiiaaBTb
namespace Go.Proofs.Ytpnnpdfmoldiiaa
open Go.RowKit
theorem exec_idx10 {P : Program} {ρ : Operand → Value} {o : Oper} {t : TypeId} {x ix : Operand} {v : Value} {w : World} (ho : o.op = .indexAddr t x ix) (h : (Instr.indexAt t (ρ x) (ρ ix)).run P w = .ok v w) : Sem.run P (execOp ρ o) w = .ok (.value v) w := by
 have e : execOp ρ o = (do pure (.value (← Instr.indexAt t (ρ x) (ρ ix)))) := by unfold execOp; rw [ho]
 rw [e, Sem.run_bind, h]
 rfl
end Go.Proofs.Ytpnnpdfmoldiiaa
