/- Items of several texts. -/
import Derived.Test.YtmbphlkohlggfaaCMem
namespace Go.Proofs.Ytmbphlkohlggfaa
set_option maxRecDepth 100000
open Go.RowKit
def gy (b : Bool) (v : Value) : Value := cond b v undef
section
variable {P : Program} {ops : Array Oper} {rest : List Oper} {o : Oper} {a : Act} {w : World} {Q : Exit → Act → World → Prop}
theorem wpl_t (d : Nat) {v : Value} (hw : Region.wanted o (yielded ops a.tmps) = true) (hd : o.dst = some d) (h : (execOp a.eval o).run P w = .ok (.value v) w)
  (hk : wpList P ops Q rest (a.put (some d) v) w) : wpList P ops Q (o :: rest) a w := by
 unfold wpList
 rw [if_pos hw]
 refine .inl ?_
 unfold Oper.wp
 rw [h, Oper.upon_value, hd]
 exact hk
theorem wpl_g (d : Nat) (b : Bool) {v : Value} (hw : Region.wanted o (yielded ops a.tmps) = b) (hd : o.dst = some d) (h : b = true → (execOp a.eval o).run P w = .ok (.value v) w)
  (hk : wpList P ops Q rest (a.put (some d) (gy b v)) w) : wpList P ops Q (o :: rest) a w := by
 cases b with
 | true => exact wpl_t d hw hd (h rfl) hk
 | false =>
  unfold wpList
  rw [hw, if_neg (by decide), hd]
  exact hk
theorem exec_pand0 {ρ : Operand → Value} {x y : Operand} {c d : Bool} (ho : o.op = .pick x y (.const (.bool false))) (hc : ρ (.const (.bool false)) = .bool false) (hx : ρ x = .bool c) (hy : ρ y = gy c (.bool d)) : Sem.run P (execOp ρ o) w = .ok (.value (.bool (c && d))) w := by
 unfold execOp
 rw [ho]
 cases c
 ·simp only [hx, hc]
  rfl
 ·have hy' : ρ y = .bool d := hy
  simp only [hx, hy']
  rfl
end
end Go.Proofs.Ytmbphlkohlggfaa
