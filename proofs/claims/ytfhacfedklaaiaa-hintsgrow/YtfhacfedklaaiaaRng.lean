/- A wide struct taken out of a row into a variable of one's own: by laws, cell by cell never. -/
import Derived.Test.YtfhacfedklaaiaaHfo
import Derived.Deep.MidRow
import Derived.Deep.WholeRow
namespace Go.Proofs.Ytfhacfedklaaiaa
open Go.RowKit

theorem wpList_exec {P : Program} {ops : Array Oper} {rest : List Oper} {o : Oper} {a : Act} {w w' : World} {Q : Exit → Act → World → Prop} {v : Value} (d : Nat) (hgd : o.guard = none) (hd : o.dst = some d) (h : (execOp a.eval o).run P w = .ok (.value v) w')
    (hk : wpList P ops Q rest (a.put (some d) v) w') : wpList P ops Q (o :: rest) a w :=
  wpList_plain hgd fun K hK => by
    unfold Oper.wp
    rw [h, Oper.upon_value, hd]
    exact hK _ _ hk
theorem wpList_skip {P : Program} {ops : Array Oper} {rest : List Oper} {o : Oper} {a : Act} {w w' : World} {Q : Exit → Act → World → Prop} (hgd : o.guard = none) (hd : o.dst = none) (h : (execOp a.eval o).run P w = .ok .skip w')
    (hk : wpList P ops Q rest a w') : wpList P ops Q (o :: rest) a w :=
  wpList_plain hgd fun K hK => by
    unfold Oper.wp
    rw [h, Oper.upon_skip, hd]
    exact hK _ _ hk
theorem exec_load {P : Program} {ρ : Operand → Value} {o : Oper} {t : TypeId} {x : Operand} {v : Value} {w : World} (ho : o.op = .load t x) (h : (Instr.loadAt t (ρ x)).run P w = .ok v w) : Sem.run P (execOp ρ o) w = .ok (.value v) w := by
  have e : execOp ρ o = (do pure (.value (← Instr.loadAt t (ρ x)))) := by unfold execOp; rw [ho]
  rw [e, Sem.run_bind, h]
  rfl
theorem exec_store {P : Program} {ρ : Operand → Value} {o : Oper} {t : TypeId} {x y : Operand} {w w' : World} (ho : o.op = .store t x y) (h : (Instr.storeAt t (ρ x) (ρ y)).run P w = .ok () w') : Sem.run P (execOp ρ o) w = .ok .skip w' := by
  have e : execOp ρ o = (do Instr.storeAt t (ρ x) (ρ y); pure .skip) := by unfold execOp; rw [ho]
  rw [e, Sem.run_bind, h]
  rfl
theorem exec_alloc {P : Program} {ρ : Operand → Value} {o : Oper} {t : TypeId} {v : Value} {w w' : World} (ho : o.op = .alloc t) (h : (Instr.alloc t true (.tuple #[])).run P w = .ok v w') : Sem.run P (execOp ρ o) w = .ok (.value v) w' := by
  have e : execOp ρ o = (do pure (.value (← Instr.alloc t true (.tuple #[])))) := by unfold execOp; rw [ho]
  rw [e, Sem.run_bind, h]
  rfl
end Go.Proofs.Ytfhacfedklaaiaa
