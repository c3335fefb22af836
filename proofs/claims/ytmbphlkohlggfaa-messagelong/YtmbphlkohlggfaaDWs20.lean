/- Items of several texts. -/
import Derived.Test.YtmbphlkohlggfaaDMem
namespace Go.Proofs.Ytmbphlkohlggfaa
set_option maxRecDepth 100000
open Go.RowKit
def gy (b : Bool) (v : Value) : Value := cond b v undef
section
variable {P : Program} {ops : Array Oper} {rest : List Oper} {o : Oper} {a : Act} {w : World} {Q : Exit → Act → World → Prop}
theorem wpl_t (d : Nat) {v : Value} (hw : Region.wanted o (yielded ops a.tmps) = true) (hd : o.dst = some d) (h : (execOp a.eval o).run P w = .ok (.value v) w)
  (hk : wpList P ops Q rest (a.put (some d) v) w) : wpList P ops Q (o :: rest) a w := by
 unfold wpList
 rw [if_pos hw]
 refine .inl ?_
 unfold Oper.wp
 rw [h, Oper.upon_value, hd]
 exact hk
theorem wpl_g (d : Nat) (b : Bool) {v : Value} (hw : Region.wanted o (yielded ops a.tmps) = b) (hd : o.dst = some d) (h : b = true → (execOp a.eval o).run P w = .ok (.value v) w)
  (hk : wpList P ops Q rest (a.put (some d) (gy b v)) w) : wpList P ops Q (o :: rest) a w := by
 cases b with
 | true => exact wpl_t d hw hd (h rfl) hk
 | false =>
  unfold wpList
  rw [hw, if_neg (by decide), hd]
  exact hk
theorem wpl_call (d : Nat) {f : FuncId} {args : Array Value} {v : Value} (hw : Region.wanted o (yielded ops a.tmps) = true) (hd : o.dst = some d) (h : (execOp a.eval o).run P w = .ok (.enter f args) w)
  (hc : Calls P f args w fun e w' => e = .returned v ∧ w' = w) (hk : wpList P ops Q rest (a.put (some d) v) w) : wpList P ops Q (o :: rest) a w := by
 unfold wpList
 rw [if_pos hw]
 refine .inl ?_
 unfold Oper.wp
 rw [h, Oper.upon_enter]
 refine hc.mono ?_
 rintro e w' ⟨rfl, rfl⟩
 rw [hd]
 exact hk
theorem wpl_callg (d : Nat) (b : Bool) {f : FuncId} {args : Array Value} {v : Value} (hw : Region.wanted o (yielded ops a.tmps) = b) (hd : o.dst = some d) (h : b = true → (execOp a.eval o).run P w = .ok (.enter f args) w)
  (hc : Calls P f args w fun e w' => e = .returned v ∧ w' = w) (hk : wpList P ops Q rest (a.put (some d) (gy b v)) w) : wpList P ops Q (o :: rest) a w := by
 cases b with
 | true => exact wpl_call d hw hd (h rfl) hc hk
 | false =>
  unfold wpList
  rw [hw, if_neg (by decide), hd]
  exact hk
theorem exec_por {ρ : Operand → Value} {x y : Operand} {p c : Bool} (ho : o.op = .pick x (.const (.bool true)) y) (hc : ρ (.const (.bool true)) = .bool true) (hx : ρ x = .bool p) (hy : ρ y = gy (!p) (.bool c)) : Sem.run P (execOp ρ o) w = .ok (.value (.bool (p || c))) w := by
 unfold execOp
 rw [ho]
 cases p
 ·have hy' : ρ y = .bool c := hy
  simp only [hx, hy']
  rfl
 ·simp only [hx, hc]
  rfl
theorem exec_pand {ρ : Operand → Value} {x y : Operand} {g c d : Bool} (hg : g = true) (ho : o.op = .pick x y (.const (.bool false))) (hc : ρ (.const (.bool false)) = .bool false) (hx : ρ x = gy g (.bool c)) (hy : ρ y = gy (g && c) (.bool d)) : Sem.run P (execOp ρ o) w = .ok (.value (.bool (c && d))) w := by
 subst hg
 have hx' : ρ x = .bool c := hx
 unfold execOp
 rw [ho]
 cases c
 ·simp only [hx', hc]
  rfl
 ·have hy' : ρ y = .bool d := hy
  simp only [hx', hy']
  rfl
end
end Go.Proofs.Ytmbphlkohlggfaa
