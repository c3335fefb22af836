/- Items of several texts. -/
import Derived.Deep.Cut
import Derived.Test.YtpnnpdfmoldiiabAArg10
import Derived.Test.YtpnnpdfmoldiiabAJns
namespace Go.Proofs.Ytpnnpdfmoldiiab
open Go.RowKit
theorem less_kb (a b : ByteArray) : Op.bytesLess a.toList b.toList = blt a b := by
 rw [toL, toL]
 unfold blt kb
 generalize a.data.toList = x
 generalize b.data.toList = y
 induction x generalizing y with
 | nil => cases y <;> rfl
 | cons c x ih =>
  cases y with
  | nil => rfl
  | cons d y =>
   show (_ || _) = (_ || _)
   rw [ih]
theorem geq_str {a b : ByteArray} (h : Op.bytesLess a.toList b.toList = true) (t : TypeId) (w : World) : (binOp .geq t (.string a) (.string b)).run Try.prog w = .ok (.bool false) w := by
 simp [binOp, Op.stringOp, h]
theorem exec_bin10 {P : Program} {ρ : Operand → Value} {o : Oper} {op : BinOp} {t t2 : TypeId} {x y : Operand} {v : Value} {w : World} (ho : o.op = .binOp op t x y t2) (hg : (eqGuard op t x y (ρ x) (ρ y)).run P w = .ok () w) (h : (binOp op t (ρ x) (ρ y)).run P w = .ok v w) : Sem.run P (execOp ρ o) w = .ok (.value v) w := by
 have e : execOp ρ o = (do pure (.value (← (do eqGuard op t x y (ρ x) (ρ y); binOp op t (ρ x) (ρ y))))) := by unfold execOp; rw [ho]
 rw [e, Sem.run_bind, Sem.run_bind, hg]
 show (((binOp op t (ρ x) (ρ y)).run P w).andThen _) = _
 rw [h]
 rfl
end Go.Proofs.Ytpnnpdfmoldiiab
