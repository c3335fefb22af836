/- Items of several texts. -/
import Derived.Test.YtmbphlkohlggfaaGreatAMem
import Derived.Test.YtmbphlkohlggfaaGreatAWRefW
import Derived.Test.YtmbphlkohlggfaaGreatAMay20
import Derived.Test.YtmbphlkohlggfaaGreatAEn20
namespace Go.Proofs.YtmbphlkohlggfaaGreat
set_option maxRecDepth 100000
open Go.RowKit
def gy (b : Bool) (v : Value) : Value := cond b v undef
section
variable {P : Program} {ops : Array Oper} {rest : List Oper} {o : Oper} {a : Act} {w : World} {Q : Exit → Act → World → Prop}
theorem wpl_t (d : Nat) {v : Value} (hw : Region.wanted o (yielded ops a.tmps) = true) (hd : o.dst = some d) (h : (execOp a.eval o).run P w = .ok (.value v) w)
  (hk : wpList P ops Q rest (a.put (some d) v) w) : wpList P ops Q (o :: rest) a w := by
 unfold wpList
 rw [if_pos hw]
 refine .inl ?_
 unfold Oper.wp
 rw [h, Oper.upon_value, hd]
 exact hk
theorem wpl_g (d : Nat) (b : Bool) {v : Value} (hw : Region.wanted o (yielded ops a.tmps) = b) (hd : o.dst = some d) (h : b = true → (execOp a.eval o).run P w = .ok (.value v) w)
  (hk : wpList P ops Q rest (a.put (some d) (gy b v)) w) : wpList P ops Q (o :: rest) a w := by
 cases b with
 | true => exact wpl_t d hw hd (h rfl) hk
 | false =>
  unfold wpList
  rw [hw, if_neg (by decide), hd]
  exact hk
theorem wpl_call (d : Nat) {f : FuncId} {args : Array Value} {v : Value} (hw : Region.wanted o (yielded ops a.tmps) = true) (hd : o.dst = some d) (h : (execOp a.eval o).run P w = .ok (.enter f args) w)
  (hc : Calls P f args w fun e w' => e = .returned v ∧ w' = w) (hk : wpList P ops Q rest (a.put (some d) v) w) : wpList P ops Q (o :: rest) a w := by
 unfold wpList
 rw [if_pos hw]
 refine .inl ?_
 unfold Oper.wp
 rw [h, Oper.upon_enter]
 refine hc.mono ?_
 rintro e w' ⟨rfl, rfl⟩
 rw [hd]
 exact hk
theorem wpl_callg (d : Nat) (b : Bool) {f : FuncId} {args : Array Value} {v : Value} (hw : Region.wanted o (yielded ops a.tmps) = b) (hd : o.dst = some d) (h : b = true → (execOp a.eval o).run P w = .ok (.enter f args) w)
  (hc : Calls P f args w fun e w' => e = .returned v ∧ w' = w) (hk : wpList P ops Q rest (a.put (some d) (gy b v)) w) : wpList P ops Q (o :: rest) a w := by
 cases b with
 | true => exact wpl_call d hw hd (h rfl) hc hk
 | false =>
  unfold wpList
  rw [hw, if_neg (by decide), hd]
  exact hk
theorem exec_por {ρ : Operand → Value} {x y : Operand} {p c : Bool} (ho : o.op = .pick x (.const (.bool true)) y) (hc : ρ (.const (.bool true)) = .bool true) (hx : ρ x = .bool p) (hy : ρ y = gy (!p) (.bool c)) : Sem.run P (execOp ρ o) w = .ok (.value (.bool (p || c))) w := by
 unfold execOp
 rw [ho]
 cases p
 ·have hy' : ρ y = .bool c := hy
  simp only [hx, hy']
  rfl
 ·simp only [hx, hc]
  rfl
theorem exec_pand {ρ : Operand → Value} {x y : Operand} {g c d : Bool} (hg : g = true) (ho : o.op = .pick x y (.const (.bool false))) (hc : ρ (.const (.bool false)) = .bool false) (hx : ρ x = gy g (.bool c)) (hy : ρ y = gy (g && c) (.bool d)) : Sem.run P (execOp ρ o) w = .ok (.value (.bool (c && d))) w := by
 subst hg
 have hx' : ρ x = .bool c := hx
 unfold execOp
 rw [ho]
 cases c
 ·simp only [hx', hc]
  rfl
 ·have hy' : ρ y = .bool d := hy
  simp only [hx', hy']
  rfl
end
end Go.Proofs.YtmbphlkohlggfaaGreat

namespace Go.Proofs.YtmbphlkohlggfaaGreat
set_option maxRecDepth 100000
open Go.RowKit
theorem znode_any (n : Int) (w : World) : Calls Tryz.prog 36 #[.int .i64 n] w fun e w' => e = .returned (.bool (ndB n)) ∧ w' = w := by
 by_cases h1 : 0 ≤ n
 ·have e1 : decide (0 ≤ n) = true := decide_eq_true h1
  have HE : Hid (ndB n = decide (n < 8)) := by show _ = _; unfold ndB; rw [e1]; rfl
  go_enter Tryz.func36, Tryz.ntmps36
  go_wp2_with fail
  go_ret
  exact ⟨by rw [HE.out]; rfl, rfl⟩
 ·have e1 : decide (0 ≤ n) = false := decide_eq_false h1
  have HE : Hid (ndB n = false) := by show _ = _; unfold ndB; rw [e1]; rfl
  go_enter Tryz.func36, Tryz.ntmps36
  go_wp2_with fail
  go_ret
  exact ⟨by rw [HE.out]; rfl, rfl⟩
theorem hsK_zero {k : Int} : hsK k = 0 ↔ ¬ (1 ≤ k ∧ k ≤ 9) := by
 unfold hsK
 repeat' split
 all_goals omega
structure NumM (k op fo : Int) (key : ByteArray) (bk : Int) (ne ng nm : Nat) : Prop where
 op : 0 ≤ op ∧ op ≤ 1099511627776
 fo : ndB fo = true
 key : cond (decide (k = 4)) (keyB key) (decide (key.size ≤ 32)) = true
 bk : 0 ≤ bk ∧ bk < 4
 lo : eLo k ≤ (ne : Int)
 hi : (ne : Int) ≤ eHi k
 gl : ng ≤ 256
 ml : nm ≤ 8
theorem empty_iff (s : ByteArray) : s.toList.isEmpty = true ↔ s.size = 0 := by
 rw [List.isEmpty_iff, toL]
 obtain ⟨⟨l⟩⟩ := s
 simp [ByteArray.size]
theorem num_bad {k op fo bk : Int} {key : ByteArray} {ne ng nm : Nat} : ((((((((((op < 0 ∨ 1099511627776 < op) ∨ ndB fo = false) ∨ 32 < key.size) ∨ k = 4 ∧ key.size = 0) ∨ bk < 0) ∨ 4 ≤ bk) ∨ eHi k < (ne : Int)) ∨ k = 3 ∧ ne ≠ 1) ∨ 256 < ng) ∨ 8 < nm) ↔ ¬ NumM k op fo key bk ne ng nm := by
 have hk : cond (decide (k = 4)) (keyB key) (decide (key.size ≤ 32)) = true ↔ key.size ≤ 32 ∧ (k = 4 → 1 ≤ key.size) := by
  by_cases h : k = 4
  ·rw [decide_eq_true h]
   simp [keyB, h]
   omega
  ·rw [decide_eq_false h]
   simp [h]
 have hh : k = 3 → eHi k = 1 := fun h => by unfold eHi; rw [if_pos (.inl h)]
 have hl : eLo k ≤ (ne : Int) ↔ (k = 3 → 1 ≤ ne) := by
  unfold eLo
  split <;> omega
 constructor
 ·intro h hn
  have h3 := hk.1 hn.key
  have h4 := hl.1 hn.lo
  have h5 := hn.hi
  have h6 := hn.op
  have h7 := hn.fo
  have h8 := hn.bk
  have h9 := hn.gl
  have h10 := hn.ml
  rw [h7] at h
  rcases h with (((((((((h | h) | h) | h) | h) | h) | h) | h) | h) | h) | h
  all_goals first | omega | (have := hh h.1; omega) | (cases h)
 ·intro h
  refine Classical.byContradiction (fun hc => h ?_)
  simp only [not_or, not_and] at hc
  obtain ⟨⟨⟨⟨⟨⟨⟨⟨⟨⟨h1, h2⟩, h3⟩, h4⟩, h5⟩, h6⟩, h7⟩, h8⟩, h9⟩, h10⟩, h11⟩ := hc
  refine ⟨by omega, by simpa using h3, hk.2 ⟨by omega, fun e => by have := h5 e; omega⟩, by omega, hl.2 (fun e => by have := h9 e; omega), by omega, by omega, by omega⟩
theorem may_num {k fr tn op fo : Int} {key : ByteArray} {bk : Int} {ea da ma : Option Addr} {ec dc mc : Nat} {e1 : List E} {g1 : List G} {m1 : List (Int × Int)} :
  MayM (mdOf (⟨k, fr, tn, op, fo, key, bk, ea, e1.length, ec, da, g1.length, dc, ma, m1.length, mc⟩ : Mg) e1 g1 m1) ↔ (1 ≤ k ∧ k ≤ 9) ∧ ndB fr = true ∧ ndB tn = true ∧ NumM k op fo key bk e1.length g1.length m1.length ∧ (∀ v ∈ e1, (keyB v.key && mayS v.f (cont v.l)) = true) ∧ (∀ v ∈ g1, mayD ⟨v.key, v.f, v.ds⟩ = true) ∧ ∀ v ∈ m1, mbB v.1 v.2 = true := by
 have le : (mdOf (⟨k, fr, tn, op, fo, key, bk, ea, e1.length, ec, da, g1.length, dc, ma, m1.length, mc⟩ : Mg) e1 g1 m1).es.length = e1.length := List.length_map ..
 have lg : (mdOf (⟨k, fr, tn, op, fo, key, bk, ea, e1.length, ec, da, g1.length, dc, ma, m1.length, mc⟩ : Mg) e1 g1 m1).gs.length = g1.length := List.length_map ..
 constructor
 ·intro h
  exact ⟨h.k, h.fr, h.tn, ⟨h.op, h.fo, h.key, h.bk, by have := h.lo; rwa [le] at this, by have := h.hi; rwa [le] at this, by have := h.gl; rwa [lg] at this, h.ml⟩, allE_iff.1 h.es, allG_iff.1 h.gs, h.ms⟩
 ·rintro ⟨h1, h2, h3, h4, h5, h6, h7⟩
  exact ⟨h1, h2, h3, h4.op, h4.fo, h4.key, h4.bk, by rw [le]; exact h4.lo, by rw [le]; exact h4.hi, allE_iff.2 h5, by rw [lg]; exact h4.gl, allG_iff.2 h6, h4.ml, h7⟩
set_option maxHeartbeats 8000000 in
theorem zmay_core (m X : Mg) (e1 : List E) (g1 : List G) (m1 : List (Int × Int)) (w : World) (hx : MsgAt w X e1 g1 m1) (hk : X.k = m.k) (hf : X.fr = m.fr) (ht : X.tn = m.tn) (hb : ∀ W, Calls Tryz.prog 30 #[(.agg #[.int .i64 m.k, .int .i64 m.fr, .int .i64 m.tn, .int .i64 m.op, .int .i64 m.fo, .string m.key, .int .i64 m.bk, .slice m.ea m.el m.ec, .slice m.da m.dl m.dc, .slice m.ma m.ml m.mc])] W fun e w' => e = .returned ((.agg #[.int .i64 X.k, .int .i64 X.fr, .int .i64 X.tn, .int .i64 X.op, .int .i64 X.fo, .string X.key, .int .i64 X.bk, .slice X.ea X.el X.ec, .slice X.da X.dl X.dc, .slice X.ma X.ml X.mc])) ∧ Off (fun _ => False) W w') :
  Calls Tryz.prog 11 #[(.agg #[.int .i64 m.k, .int .i64 m.fr, .int .i64 m.tn, .int .i64 m.op, .int .i64 m.fo, .string m.key, .int .i64 m.bk, .slice m.ea m.el m.ec, .slice m.da m.dl m.dc, .slice m.ma m.ml m.mc])] w fun e w' => Yes (MayM (mdOf X e1 g1 m1)) e ∧ Off (fun _ => False) w w' := by
 have HB : Hid (∀ W, Calls Tryz.prog 30 #[(.agg #[.int .i64 m.k, .int .i64 m.fr, .int .i64 m.tn, .int .i64 m.op, .int .i64 m.fo, .string m.key, .int .i64 m.bk, .slice m.ea m.el m.ec, .slice m.da m.dl m.dc, .slice m.ma m.ml m.mc])] W fun e w' => e = .returned ((.agg #[.int .i64 X.k, .int .i64 X.fr, .int .i64 X.tn, .int .i64 X.op, .int .i64 X.fo, .string X.key, .int .i64 X.bk, .slice X.ea X.el X.ec, .slice X.da X.dl X.dc, .slice X.ma X.ml X.mc])) ∧ Off (fun _ => False) W w') := hb
 have HMK : Hid (m.k = X.k ∧ m.fr = X.fr ∧ m.tn = X.tn) := ⟨hk.symm, hf.symm, ht.symm⟩
 clear hk hf ht hb
 obtain ⟨k, fr, tn, op, fo, key, bk, ea, el, ec, da, dl, dc, ma, ml, mc⟩ := X
 obtain rfl : el = e1.length := hx.el
 obtain rfl : dl = g1.length := hx.dl
 obtain rfl : ml = m1.length := hx.ml
 obtain ⟨hmk, hmf, hmt⟩ : m.k = k ∧ m.fr = fr ∧ m.tn = tn := HMK.out
 clear HMK
 show Calls Tryz.prog 11 #[(.agg #[.int .i64 m.k, .int .i64 m.fr, .int .i64 m.tn, .int .i64 m.op, .int .i64 m.fo, .string m.key, .int .i64 m.bk, .slice m.ea m.el m.ec, .slice m.da m.dl m.dc, .slice m.ma m.ml m.mc])] w fun e w' => Yes (MayM (mdOf (⟨k, fr, tn, op, fo, key, bk, ea, e1.length, ec, da, g1.length, dc, ma, m1.length, mc⟩ : Mg) e1 g1 m1)) e ∧ Off (fun _ => False) w w'
 obtain ⟨d, hd⟩ : ∃ d, d = mdOf (⟨k, fr, tn, op, fo, key, bk, ea, e1.length, ec, da, g1.length, dc, ma, m1.length, mc⟩ : Mg) e1 g1 m1 := ⟨_, rfl⟩
 rw [← hd]
 obtain ⟨N, hN⟩ : ∃ N : Prop, N = NumM k op fo key bk e1.length g1.length m1.length := ⟨_, rfl⟩
 have HD : Hid (MayM d ↔ (1 ≤ k ∧ k ≤ 9) ∧ ndB fr = true ∧ ndB tn = true ∧ N ∧ (∀ v ∈ e1, (keyB v.key && mayS v.f (cont v.l)) = true) ∧ (∀ v ∈ g1, mayD ⟨v.key, v.f, v.ds⟩ = true) ∧ ∀ v ∈ m1, mbB v.1 v.2 = true) := by
  show _ ↔ _
  rw [hd, hN]
  exact may_num
 have HNN : Hid (N = NumM k op fo key bk e1.length g1.length m1.length) := hN
 generalize hP : MayM d = P at HD
 have HP : Hid (MayM d = P) := hP
 clear hP hd hN
 obtain ⟨hi, hhi⟩ : ∃ hi, hi = eHi k := ⟨_, rfl⟩
 have HHI : Hid (hi = eHi k) := hhi
 obtain ⟨hh, hhh⟩ : ∃ hh, hh = hsK k := ⟨_, rfl⟩
 have HHH : Hid (hh = hsK k) := hhh
 have HHS : Hid (∀ W, Calls Tryz.prog 12 #[.int .i64 k] W fun e w' => e = .returned (.int .i64 hh) ∧ w' = W) := fun W => by rw [hhh]; exact has_any k W
 clear hhi hhh
 have CM : (#[.int .i64 m.k, .int .i64 m.fr, .int .i64 m.tn, .int .i64 m.op, .int .i64 m.fo, .string m.key, .int .i64 m.bk, .slice m.ea m.el m.ec, .slice m.da m.dl m.dc, .slice m.ma m.ml m.mc] : Array Value) = #[.int .i64 k, .int .i64 fr, .int .i64 tn, .int .i64 m.op, .int .i64 m.fo, .string m.key, .int .i64 m.bk, .slice m.ea m.el m.ec, .slice m.da m.dl m.dc, .slice m.ma m.ml m.mc] := by rw [hmk, hmf, hmt]
 rw [show (Value.agg #[.int .i64 m.k, .int .i64 m.fr, .int .i64 m.tn, .int .i64 m.op, .int .i64 m.fo, .string m.key, .int .i64 m.bk, .slice m.ea m.el m.ec, .slice m.da m.dl m.dc, .slice m.ma m.ml m.mc]) = .agg #[.int .i64 k, .int .i64 fr, .int .i64 tn, .int .i64 m.op, .int .i64 m.fo, .string m.key, .int .i64 m.bk, .slice m.ea m.el m.ec, .slice m.da m.dl m.dc, .slice m.ma m.ml m.mc] from by rw [CM]] at HB ⊢
 clear CM hmk hmf hmt
 have C0 := Cel.new w 26 #[.int .i64 k, .int .i64 fr, .int .i64 tn, .int .i64 m.op, .int .i64 m.fo, .string m.key, .int .i64 m.bk, .slice m.ea m.el m.ec, .slice m.da m.dl m.dc, .slice m.ma m.ml m.mc]
 have O0 : Off (fun _ => False) w (w.alloc (.cells #[.int .i64 k, .int .i64 fr, .int .i64 tn, .int .i64 m.op, .int .i64 m.fo, .string m.key, .int .i64 m.bk, .slice m.ea m.el m.ec, .slice m.da m.dl m.dc, .slice m.ma m.ml m.mc] 26)) := (Off.refl _ w).alloc _
 have HX : Hid _ := hx
 clear hx
 go_enter Tryz.func11, Tryz.ntmps11
 go_upto_region 1 with fail
 generalize hv : w.alloc (.cells #[.int .i64 k, .int .i64 fr, .int .i64 tn, .int .i64 m.op, .int .i64 m.fo, .string m.key, .int .i64 m.bk, .slice m.ea m.el m.ec, .slice m.da m.dl m.dc, .slice m.ma m.ml m.mc] 26) = W at C0 O0 ⊢
 obtain ⟨b, hb⟩ : ∃ b, b = w.heap.size := ⟨_, rfl⟩
 rw [← hb] at C0 ⊢
 have HBW : Hid (w.heap.size ≤ b) := by show _ ≤ _; omega
 clear hv hb
 obtain ⟨x0, x1, x2, x3, x4, x5, x6, x7, x8, x9⟩ := celw10 C0
 have HC0 : Hid _ := C0
 have HO : Hid _ := O0
 clear C0 O0
 go_wp2_with fail
 refine (HHS.out _).mono ?_
 rintro e w1 ⟨rfl, hw⟩
 rw [hw]
 clear hw w1
 by_cases h0 : hh = 0
 ·have d0 : (hh == (0 : Int)) = true := by rw [h0]; rfl
  have HZ : Hid (¬ (1 ≤ k ∧ k ≤ 9)) := hsK_zero.1 (by rw [← HHH.out]; exact h0)
  clear h0
  go_wp2_with fail
  go_ret
  exact ⟨.mk' false (by rw [HD.out]; exact ⟨fun h => (by cases h), fun h => absurd h.1 HZ.out⟩), HO.out⟩
 have d0 : (hh == (0 : Int)) = false := by rw [beq_eq_false_iff_ne]; exact h0
 have HK : Hid (1 ≤ k ∧ k ≤ 9) := Classical.byContradiction (fun h => h0 (by rw [HHH.out]; exact hsK_zero.2 h))
 clear h0
 go_wp2_with fail
 refine (znode_any fr _).mono ?_
 rintro e w2 ⟨rfl, hw⟩
 rw [hw]
 clear hw w2
 cases hnfr : ndB fr
 ·go_wp2_with fail
  go_ret
  exact ⟨.mk' false (by rw [HD.out]; exact ⟨fun h => (by cases h), fun h => absurd h.2.1 (by rw [hnfr]; decide)⟩), HO.out⟩
 go_wp2_with fail
 refine (znode_any tn _).mono ?_
 rintro e w2 ⟨rfl, hw⟩
 rw [hw]
 clear hw w2
 cases hntn : ndB tn
 ·go_wp2_with fail
  go_ret
  exact ⟨.mk' false (by rw [HD.out]; exact ⟨fun h => (by cases h), fun h => absurd h.2.2.1 (by rw [hntn]; decide)⟩), HO.out⟩
 go_wp2_with fail
 refine (HB.out _).mono ?_
 rintro e w3 ⟨rfl, o3⟩
 clear x0 x1 x2 x3 x4 x5 x6 x7 x8 x9 d0 HB
 have C1 := HC0.out.off o3 (fun h => h)
 obtain ⟨x0, x1, x2, x3, x4, x5, x6, x7, x8, x9⟩ := celw10 C1
 have fz := C1.free
 have HC1 : Hid _ := C1
 have HO1 : Hid _ := HO.out.trans o3 (fun _ _ h => h)
 clear C1 o3 HC0 HO
 go_upto_region 6 with fail
 have C2 : Cel b 26 #[.int .i64 k, .int .i64 fr, .int .i64 tn, .int .i64 op, .int .i64 fo, .string key, .int .i64 bk, .slice ea e1.length ec, .slice da g1.length dc, .slice ma m1.length mc] ((((((((((w3.setCell ⟨b, 0, none⟩ (.int .i64 k)).setCell ⟨b, 1, none⟩ (.int .i64 fr)).setCell ⟨b, 2, none⟩ (.int .i64 tn)).setCell ⟨b, 3, none⟩ (.int .i64 op)).setCell ⟨b, 4, none⟩ (.int .i64 fo)).setCell ⟨b, 5, none⟩ (.string key)).setCell ⟨b, 6, none⟩ (.int .i64 bk)).setCell ⟨b, 7, none⟩ (.slice ea e1.length ec)).setCell ⟨b, 8, none⟩ (.slice da g1.length dc)).setCell ⟨b, 9, none⟩ (.slice ma m1.length mc)) := HC1.out.wrwAll (vs := [.int .i64 k, .int .i64 fr, .int .i64 tn, .int .i64 op, .int .i64 fo, .string key, .int .i64 bk, .slice ea e1.length ec, .slice da g1.length dc, .slice ma m1.length mc]) rfl
 have O2 : Off (fun _ => False) w ((((((((((w3.setCell ⟨b, 0, none⟩ (.int .i64 k)).setCell ⟨b, 1, none⟩ (.int .i64 fr)).setCell ⟨b, 2, none⟩ (.int .i64 tn)).setCell ⟨b, 3, none⟩ (.int .i64 op)).setCell ⟨b, 4, none⟩ (.int .i64 fo)).setCell ⟨b, 5, none⟩ (.string key)).setCell ⟨b, 6, none⟩ (.int .i64 bk)).setCell ⟨b, 7, none⟩ (.slice ea e1.length ec)).setCell ⟨b, 8, none⟩ (.slice da g1.length dc)).setCell ⟨b, 9, none⟩ (.slice ma m1.length mc)) := off_wrw (g := b) (us := [.int .i64 k, .int .i64 fr, .int .i64 tn, .int .i64 op, .int .i64 fo, .string key, .int .i64 bk, .slice ea e1.length ec, .slice da g1.length dc, .slice ma m1.length mc]) HO1.out (.inr HBW.out)
 generalize ((((((((((w3.setCell ⟨b, 0, none⟩ (.int .i64 k)).setCell ⟨b, 1, none⟩ (.int .i64 fr)).setCell ⟨b, 2, none⟩ (.int .i64 tn)).setCell ⟨b, 3, none⟩ (.int .i64 op)).setCell ⟨b, 4, none⟩ (.int .i64 fo)).setCell ⟨b, 5, none⟩ (.string key)).setCell ⟨b, 6, none⟩ (.int .i64 bk)).setCell ⟨b, 7, none⟩ (.slice ea e1.length ec)).setCell ⟨b, 8, none⟩ (.slice da g1.length dc)).setCell ⟨b, 9, none⟩ (.slice ma m1.length mc)) = V at C2 O2 ⊢
 clear x0 x1 x2 x3 x4 x5 x6 x7 x8 x9 fz HC1 HO1
 obtain ⟨x0, x1, x2, x3, x4, x5, x6, x7, x8, x9⟩ := celw10 C2
 have HC : Hid _ := C2
 have HO : Hid _ := O2
 have HM : Hid _ := HX.out.off O2
 clear C2 O2 HX
 go_cut [42] from 30 to 42 (fun y wx => y = .bool (decide (k = 3 ∨ k = 2 ∨ k = 5)) ∧ wx = V)
 case first =>
  by_cases h3 : k = 3
  ·have e3 : (k == (3 : Int)) = true := by rw [beq_iff_eq]; exact h3
   have HD1 : Hid (decide (k = 3 ∨ k = 2 ∨ k = 5) = true) := decide_eq_true (.inl h3)
   clear h3
   go_wp2_with fail
   go_meet
   case rel => exact ⟨by rw [HD1.out], rfl⟩
  have e3 : (k == (3 : Int)) = false := by rw [beq_eq_false_iff_ne]; exact h3
  by_cases h5 : k = 5
  ·have e5 : (k == (5 : Int)) = true := by rw [beq_iff_eq]; exact h5
   have HD1 : Hid (decide (k = 3 ∨ k = 2 ∨ k = 5) = true) := decide_eq_true (.inr (.inr h5))
   clear h3 h5
   go_wp2_with fail
   go_meet
   case rel => exact ⟨by rw [HD1.out], rfl⟩
  have e5 : (k == (5 : Int)) = false := by rw [beq_eq_false_iff_ne]; exact h5
  by_cases h2 : k = 2
  ·have e2 : (k == (2 : Int)) = true := by rw [beq_iff_eq]; exact h2
   have HD1 : Hid (decide (k = 3 ∨ k = 2 ∨ k = 5) = true) := decide_eq_true (.inr (.inl h2))
   clear h2 h3 h5
   go_wp2_with fail
   go_meet
   case rel => exact ⟨by rw [HD1.out], rfl⟩
  ·have e2 : (k == (2 : Int)) = false := by rw [beq_eq_false_iff_ne]; exact h2
   have HD1 : Hid (decide (k = 3 ∨ k = 2 ∨ k = 5) = false) := decide_eq_false (fun h => h.elim h3 (fun h => h.elim h2 h5))
   clear h2 h3 h5
   go_wp2_with fail
   go_meet
   case rel => exact ⟨by rw [HD1.out], rfl⟩
 case rest =>
  obtain ⟨rfl, hwc⟩ := hcut
  rw [hwc]
  clear hwc
  go_upto_if 42 with fail
  go_cut [4] from 42 to 42 (fun y wx => y = .int .i64 hi ∧ wx = V)
  case first =>
   by_cases h : k = 3 ∨ k = 2 ∨ k = 5
   ·have e : decide (k = 3 ∨ k = 2 ∨ k = 5) = true := decide_eq_true h
    have HI1 : Hid (hi = 1) := by show _ = _; rw [HHI.out]; exact if_pos h
    clear h
    rw [e]
    clear e
    go_wp2_with fail
    go_meet
    case rel => exact ⟨by rw [HI1.out], rfl⟩
   ·have e : decide (k = 3 ∨ k = 2 ∨ k = 5) = false := decide_eq_false h
    have HI1 : Hid (hi = 256) := by show _ = _; rw [HHI.out]; exact if_neg h
    clear h
    rw [e]
    clear e
    go_wp2_with fail
    go_meet
    case rel => exact ⟨by rw [HI1.out], rfl⟩
  case rest =>
   obtain ⟨rfl, hwc⟩ := hcut
   rw [hwc]
   clear hwc
   go_upto_region 8 with fail
   go_cut [112] from 43 to 112 (fun y wx => ∃ bb : Bool, y = .bool bb ∧ Hid (bb = true ↔ ¬ N) ∧ wx = V)
   case first =>
    obtain ⟨c1, hc1⟩ : ∃ c : Bool, c = decide (op < 0) := ⟨_, rfl⟩
    have Hc1 : Hid (c1 = true ↔ op < 0) := by
     show _ ↔ _
     rw [hc1]
     exact decide_eq_true_iff
    have rc10 : decide (op < 0) = c1 := by
     rw [Bool.eq_iff_iff, Hc1.out]
     first | exact decide_eq_true_iff | (rw [decide_eq_true_iff]; omega) | exact beq_iff_eq | exact bne_iff_ne | (rw [bne_iff_ne]; omega)
    clear hc1
    obtain ⟨c2, hc2⟩ : ∃ c : Bool, c = decide (1099511627776 < op) := ⟨_, rfl⟩
    have Hc2 : Hid (c2 = true ↔ 1099511627776 < op) := by
     show _ ↔ _
     rw [hc2]
     exact decide_eq_true_iff
    have rc20 : decide (1099511627776 < op) = c2 := by
     rw [Bool.eq_iff_iff, Hc2.out]
     first | exact decide_eq_true_iff | (rw [decide_eq_true_iff]; omega) | exact beq_iff_eq | exact bne_iff_ne | (rw [bne_iff_ne]; omega)
    have rc21 : decide (op > 1099511627776) = c2 := by
     rw [Bool.eq_iff_iff, Hc2.out]
     first | exact decide_eq_true_iff | (rw [decide_eq_true_iff]; omega) | exact beq_iff_eq | exact bne_iff_ne | (rw [bne_iff_ne]; omega)
    clear hc2
    obtain ⟨c4, hc4⟩ : ∃ c : Bool, c = decide (32 < key.size) := ⟨_, rfl⟩
    have Hc4 : Hid (c4 = true ↔ 32 < key.size) := by
     show _ ↔ _
     rw [hc4]
     exact decide_eq_true_iff
    have rc40 : decide ((32 : Int) < (key.size : Int)) = c4 := by
     rw [Bool.eq_iff_iff, Hc4.out]
     first | exact decide_eq_true_iff | (rw [decide_eq_true_iff]; omega) | exact beq_iff_eq | exact bne_iff_ne | (rw [bne_iff_ne]; omega)
    have rc41 : decide ((key.size : Int) > 32) = c4 := by
     rw [Bool.eq_iff_iff, Hc4.out]
     first | exact decide_eq_true_iff | (rw [decide_eq_true_iff]; omega) | exact beq_iff_eq | exact bne_iff_ne | (rw [bne_iff_ne]; omega)
    have rc42 : decide (32 < key.size) = c4 := by
     rw [Bool.eq_iff_iff, Hc4.out]
     first | exact decide_eq_true_iff | (rw [decide_eq_true_iff]; omega) | exact beq_iff_eq | exact bne_iff_ne | (rw [bne_iff_ne]; omega)
    clear hc4
    obtain ⟨c5, hc5⟩ : ∃ c : Bool, c = decide (k = 4) := ⟨_, rfl⟩
    have Hc5 : Hid (c5 = true ↔ k = 4) := by
     show _ ↔ _
     rw [hc5]
     exact decide_eq_true_iff
    have rc50 : (k == (4 : Int)) = c5 := by
     rw [Bool.eq_iff_iff, Hc5.out]
     first | exact decide_eq_true_iff | (rw [decide_eq_true_iff]; omega) | exact beq_iff_eq | exact bne_iff_ne | (rw [bne_iff_ne]; omega)
    clear hc5
    obtain ⟨c6, hc6⟩ : ∃ c : Bool, c = decide (key.size = 0) := ⟨_, rfl⟩
    have Hc6 : Hid (c6 = true ↔ key.size = 0) := by
     show _ ↔ _
     rw [hc6]
     exact decide_eq_true_iff
    have rc60 : decide (key.size = 0) = c6 := by
     rw [Bool.eq_iff_iff, Hc6.out]
     first | exact decide_eq_true_iff | (rw [decide_eq_true_iff]; omega) | exact beq_iff_eq | exact bne_iff_ne | (rw [bne_iff_ne]; omega)
    clear hc6
    obtain ⟨c7, hc7⟩ : ∃ c : Bool, c = decide (bk < 0) := ⟨_, rfl⟩
    have Hc7 : Hid (c7 = true ↔ bk < 0) := by
     show _ ↔ _
     rw [hc7]
     exact decide_eq_true_iff
    have rc70 : decide (bk < 0) = c7 := by
     rw [Bool.eq_iff_iff, Hc7.out]
     first | exact decide_eq_true_iff | (rw [decide_eq_true_iff]; omega) | exact beq_iff_eq | exact bne_iff_ne | (rw [bne_iff_ne]; omega)
    clear hc7
    obtain ⟨c8, hc8⟩ : ∃ c : Bool, c = decide (4 ≤ bk) := ⟨_, rfl⟩
    have Hc8 : Hid (c8 = true ↔ 4 ≤ bk) := by
     show _ ↔ _
     rw [hc8]
     exact decide_eq_true_iff
    have rc80 : decide (4 ≤ bk) = c8 := by
     rw [Bool.eq_iff_iff, Hc8.out]
     first | exact decide_eq_true_iff | (rw [decide_eq_true_iff]; omega) | exact beq_iff_eq | exact bne_iff_ne | (rw [bne_iff_ne]; omega)
    have rc81 : decide (bk ≥ 4) = c8 := by
     rw [Bool.eq_iff_iff, Hc8.out]
     first | exact decide_eq_true_iff | (rw [decide_eq_true_iff]; omega) | exact beq_iff_eq | exact bne_iff_ne | (rw [bne_iff_ne]; omega)
    clear hc8
    obtain ⟨c9, hc9⟩ : ∃ c : Bool, c = decide (hi < (e1.length : Int)) := ⟨_, rfl⟩
    have Hc9 : Hid (c9 = true ↔ hi < (e1.length : Int)) := by
     show _ ↔ _
     rw [hc9]
     exact decide_eq_true_iff
    have rc90 : decide (hi < (e1.length : Int)) = c9 := by
     rw [Bool.eq_iff_iff, Hc9.out]
     first | exact decide_eq_true_iff | (rw [decide_eq_true_iff]; omega) | exact beq_iff_eq | exact bne_iff_ne | (rw [bne_iff_ne]; omega)
    have rc91 : decide ((e1.length : Int) > hi) = c9 := by
     rw [Bool.eq_iff_iff, Hc9.out]
     first | exact decide_eq_true_iff | (rw [decide_eq_true_iff]; omega) | exact beq_iff_eq | exact bne_iff_ne | (rw [bne_iff_ne]; omega)
    clear hc9
    obtain ⟨c10, hc10⟩ : ∃ c : Bool, c = decide (k = 3) := ⟨_, rfl⟩
    have Hc10 : Hid (c10 = true ↔ k = 3) := by
     show _ ↔ _
     rw [hc10]
     exact decide_eq_true_iff
    have rc100 : (k == (3 : Int)) = c10 := by
     rw [Bool.eq_iff_iff, Hc10.out]
     first | exact decide_eq_true_iff | (rw [decide_eq_true_iff]; omega) | exact beq_iff_eq | exact bne_iff_ne | (rw [bne_iff_ne]; omega)
    clear hc10
    obtain ⟨c11, hc11⟩ : ∃ c : Bool, c = decide (e1.length ≠ 1) := ⟨_, rfl⟩
    have Hc11 : Hid (c11 = true ↔ e1.length ≠ 1) := by
     show _ ↔ _
     rw [hc11]
     exact decide_eq_true_iff
    have rc110 : ((e1.length : Int) != (1 : Int)) = c11 := by
     rw [Bool.eq_iff_iff, Hc11.out]
     first | exact decide_eq_true_iff | (rw [decide_eq_true_iff]; omega) | exact beq_iff_eq | exact bne_iff_ne | (rw [bne_iff_ne]; omega)
    have rc111 : (e1.length != 1) = c11 := by
     rw [Bool.eq_iff_iff, Hc11.out]
     first | exact decide_eq_true_iff | (rw [decide_eq_true_iff]; omega) | exact beq_iff_eq | exact bne_iff_ne | (rw [bne_iff_ne]; omega)
    clear hc11
    obtain ⟨c12, hc12⟩ : ∃ c : Bool, c = decide (256 < g1.length) := ⟨_, rfl⟩
    have Hc12 : Hid (c12 = true ↔ 256 < g1.length) := by
     show _ ↔ _
     rw [hc12]
     exact decide_eq_true_iff
    have rc120 : decide ((256 : Int) < (g1.length : Int)) = c12 := by
     rw [Bool.eq_iff_iff, Hc12.out]
     first | exact decide_eq_true_iff | (rw [decide_eq_true_iff]; omega) | exact beq_iff_eq | exact bne_iff_ne | (rw [bne_iff_ne]; omega)
    have rc121 : decide ((g1.length : Int) > 256) = c12 := by
     rw [Bool.eq_iff_iff, Hc12.out]
     first | exact decide_eq_true_iff | (rw [decide_eq_true_iff]; omega) | exact beq_iff_eq | exact bne_iff_ne | (rw [bne_iff_ne]; omega)
    have rc122 : decide (256 < g1.length) = c12 := by
     rw [Bool.eq_iff_iff, Hc12.out]
     first | exact decide_eq_true_iff | (rw [decide_eq_true_iff]; omega) | exact beq_iff_eq | exact bne_iff_ne | (rw [bne_iff_ne]; omega)
    clear hc12
    obtain ⟨c13, hc13⟩ : ∃ c : Bool, c = decide (8 < m1.length) := ⟨_, rfl⟩
    have Hc13 : Hid (c13 = true ↔ 8 < m1.length) := by
     show _ ↔ _
     rw [hc13]
     exact decide_eq_true_iff
    have rc130 : decide ((8 : Int) < (m1.length : Int)) = c13 := by
     rw [Bool.eq_iff_iff, Hc13.out]
     first | exact decide_eq_true_iff | (rw [decide_eq_true_iff]; omega) | exact beq_iff_eq | exact bne_iff_ne | (rw [bne_iff_ne]; omega)
    have rc131 : decide ((m1.length : Int) > 8) = c13 := by
     rw [Bool.eq_iff_iff, Hc13.out]
     first | exact decide_eq_true_iff | (rw [decide_eq_true_iff]; omega) | exact beq_iff_eq | exact bne_iff_ne | (rw [bne_iff_ne]; omega)
    have rc132 : decide (8 < m1.length) = c13 := by
     rw [Bool.eq_iff_iff, Hc13.out]
     first | exact decide_eq_true_iff | (rw [decide_eq_true_iff]; omega) | exact beq_iff_eq | exact bne_iff_ne | (rw [bne_iff_ne]; omega)
    clear hc13
    obtain ⟨c3, hc3⟩ : ∃ c, c = ndB fo := ⟨_, rfl⟩
    have HND : Hid (∀ W, Calls Tryz.prog 36 #[.int .i64 fo] W fun e w' => e = .returned (.bool c3) ∧ w' = W) := fun W => by rw [hc3]; exact znode_any fo W
    have Hc3 : Hid (c3 = ndB fo) := hc3
    clear hc3
    obtain ⟨p2, hp2⟩ : ∃ p, p = (c1 || (c2)) := ⟨_, rfl⟩
    have Hp2 : Hid (p2 = (c1 || (c2))) := hp2
    clear hp2
    obtain ⟨p3, hp3⟩ : ∃ p, p = (p2 || (!c3)) := ⟨_, rfl⟩
    have Hp3 : Hid (p3 = (p2 || (!c3))) := hp3
    clear hp3
    obtain ⟨p4, hp4⟩ : ∃ p, p = (p3 || (c4)) := ⟨_, rfl⟩
    have Hp4 : Hid (p4 = (p3 || (c4))) := hp4
    clear hp4
    obtain ⟨p5, hp5⟩ : ∃ p, p = (p4 || (c5 && c6)) := ⟨_, rfl⟩
    have Hp5 : Hid (p5 = (p4 || (c5 && c6))) := hp5
    clear hp5
    obtain ⟨p6, hp6⟩ : ∃ p, p = (p5 || (c7)) := ⟨_, rfl⟩
    have Hp6 : Hid (p6 = (p5 || (c7))) := hp6
    clear hp6
    obtain ⟨p7, hp7⟩ : ∃ p, p = (p6 || (c8)) := ⟨_, rfl⟩
    have Hp7 : Hid (p7 = (p6 || (c8))) := hp7
    clear hp7
    obtain ⟨p8, hp8⟩ : ∃ p, p = (p7 || (c9)) := ⟨_, rfl⟩
    have Hp8 : Hid (p8 = (p7 || (c9))) := hp8
    clear hp8
    obtain ⟨p9, hp9⟩ : ∃ p, p = (p8 || (c10 && c11)) := ⟨_, rfl⟩
    have Hp9 : Hid (p9 = (p8 || (c10 && c11))) := hp9
    clear hp9
    obtain ⟨p10, hp10⟩ : ∃ p, p = (p9 || (c12)) := ⟨_, rfl⟩
    have Hp10 : Hid (p10 = (p9 || (c12))) := hp10
    clear hp10
    obtain ⟨p11, hp11⟩ : ∃ p, p = (p10 || (c13)) := ⟨_, rfl⟩
    have Hp11 : Hid (p11 = (p10 || (c13))) := hp11
    clear hp11
    have hem : key.toList.isEmpty = c6 := by rw [Bool.eq_iff_iff, Hc6.out]; exact empty_iff key
    refine wp_region_lit ?_
    refine wpl_t 43 (v := .pointer (some ⟨b, 3, none⟩)) (by kernel_rfl) rfl (by go_simp) ?_
    simp only [Act.put, lsA, lsZ, lsS]
    refine wpl_t 44 (v := .int .i64 op) (by kernel_rfl) rfl (by go_simp) ?_
    simp only [Act.put, lsA, lsZ, lsS]
    refine wpl_t 45 (v := .bool c1) (by kernel_rfl) rfl (by go_simp) ?_
    simp only [Act.put, lsA, lsZ, lsS]
    refine wpl_t 46 (v := .bool c1) (by kernel_rfl) rfl (by go_simp) ?_
    simp only [Act.put, lsA, lsZ, lsS]
    refine wpl_g 47 (!c1) (v := .pointer (some ⟨b, 3, none⟩)) (by cases c1 <;> kernel_rfl) rfl (fun hg => by
     have hgy : ∀ v, gy (!c1) v = v := fun v => by rw [hg]; rfl
     have hgt : ∀ v, gy true v = v := fun _ => rfl
     go_simp) ?_
    simp only [Act.put, lsA, lsZ, lsS]
    refine wpl_g 48 (!c1) (v := .int .i64 op) (by cases c1 <;> kernel_rfl) rfl (fun hg => by
     have hgy : ∀ v, gy (!c1) v = v := fun v => by rw [hg]; rfl
     have hgt : ∀ v, gy true v = v := fun _ => rfl
     go_simp) ?_
    simp only [Act.put, lsA, lsZ, lsS]
    refine wpl_g 49 (!c1) (v := .bool c2) (by cases c1 <;> kernel_rfl) rfl (fun hg => by
     have hgy : ∀ v, gy (!c1) v = v := fun v => by rw [hg]; rfl
     have hgt : ∀ v, gy true v = v := fun _ => rfl
     go_simp) ?_
    simp only [Act.put, lsA, lsZ, lsS]
    refine wpl_t 50 (v := .bool p2) (by kernel_rfl) rfl (by rw [Hp2.out]; exact exec_por rfl rfl rfl rfl) ?_
    simp only [Act.put, lsA, lsZ, lsS]
    refine wpl_t 51 (v := .bool p2) (by kernel_rfl) rfl (by go_simp) ?_
    simp only [Act.put, lsA, lsZ, lsS]
    refine wpl_g 52 (!p2) (v := .pointer (some ⟨b, 4, none⟩)) (by cases p2 <;> kernel_rfl) rfl (fun hg => by
     have hgy : ∀ v, gy (!p2) v = v := fun v => by rw [hg]; rfl
     have hgt : ∀ v, gy true v = v := fun _ => rfl
     go_simp) ?_
    simp only [Act.put, lsA, lsZ, lsS]
    refine wpl_g 53 (!p2) (v := .int .i64 fo) (by cases p2 <;> kernel_rfl) rfl (fun hg => by
     have hgy : ∀ v, gy (!p2) v = v := fun v => by rw [hg]; rfl
     have hgt : ∀ v, gy true v = v := fun _ => rfl
     go_simp) ?_
    simp only [Act.put, lsA, lsZ, lsS]
    refine wpl_callg 54 (!p2) (v := .bool c3) (by cases p2 <;> kernel_rfl) rfl (fun hg => by
     have hgy : ∀ v, gy (!p2) v = v := fun v => by rw [hg]; rfl
     have hgt : ∀ v, gy true v = v := fun _ => rfl
     go_simp) (HND.out _) ?_
    simp only [Act.put, lsA, lsZ, lsS]
    refine wpl_g 55 (!p2) (v := .bool (!c3)) (by cases p2 <;> kernel_rfl) rfl (fun hg => by
     have hgy : ∀ v, gy (!p2) v = v := fun v => by rw [hg]; rfl
     have hgt : ∀ v, gy true v = v := fun _ => rfl
     go_simp) ?_
    simp only [Act.put, lsA, lsZ, lsS]
    refine wpl_t 56 (v := .bool p3) (by kernel_rfl) rfl (by rw [Hp3.out]; exact exec_por rfl rfl rfl rfl) ?_
    simp only [Act.put, lsA, lsZ, lsS]
    refine wpl_t 57 (v := .bool p3) (by kernel_rfl) rfl (by go_simp) ?_
    simp only [Act.put, lsA, lsZ, lsS]
    refine wpl_g 58 (!p3) (v := .pointer (some ⟨b, 5, none⟩)) (by cases p3 <;> kernel_rfl) rfl (fun hg => by
     have hgy : ∀ v, gy (!p3) v = v := fun v => by rw [hg]; rfl
     have hgt : ∀ v, gy true v = v := fun _ => rfl
     go_simp) ?_
    simp only [Act.put, lsA, lsZ, lsS]
    refine wpl_g 59 (!p3) (v := .string key) (by cases p3 <;> kernel_rfl) rfl (fun hg => by
     have hgy : ∀ v, gy (!p3) v = v := fun v => by rw [hg]; rfl
     have hgt : ∀ v, gy true v = v := fun _ => rfl
     go_simp) ?_
    simp only [Act.put, lsA, lsZ, lsS]
    refine wpl_g 60 (!p3) (v := .int .i64 (key.size : Int)) (by cases p3 <;> kernel_rfl) rfl (fun hg => by
     have hgy : ∀ v, gy (!p3) v = v := fun v => by rw [hg]; rfl
     have hgt : ∀ v, gy true v = v := fun _ => rfl
     go_simp) ?_
    simp only [Act.put, lsA, lsZ, lsS]
    refine wpl_g 61 (!p3) (v := .bool c4) (by cases p3 <;> kernel_rfl) rfl (fun hg => by
     have hgy : ∀ v, gy (!p3) v = v := fun v => by rw [hg]; rfl
     have hgt : ∀ v, gy true v = v := fun _ => rfl
     go_simp) ?_
    simp only [Act.put, lsA, lsZ, lsS]
    refine wpl_t 62 (v := .bool p4) (by kernel_rfl) rfl (by rw [Hp4.out]; exact exec_por rfl rfl rfl rfl) ?_
    simp only [Act.put, lsA, lsZ, lsS]
    refine wpl_t 63 (v := .bool p4) (by kernel_rfl) rfl (by go_simp) ?_
    simp only [Act.put, lsA, lsZ, lsS]
    refine wpl_g 64 (!p4) (v := .pointer (some ⟨b, 0, none⟩)) (by cases p4 <;> kernel_rfl) rfl (fun hg => by
     have hgy : ∀ v, gy (!p4) v = v := fun v => by rw [hg]; rfl
     have hgt : ∀ v, gy true v = v := fun _ => rfl
     go_simp) ?_
    simp only [Act.put, lsA, lsZ, lsS]
    refine wpl_g 65 (!p4) (v := .int .i64 k) (by cases p4 <;> kernel_rfl) rfl (fun hg => by
     have hgy : ∀ v, gy (!p4) v = v := fun v => by rw [hg]; rfl
     have hgt : ∀ v, gy true v = v := fun _ => rfl
     go_simp) ?_
    simp only [Act.put, lsA, lsZ, lsS]
    refine wpl_g 66 (!p4) (v := .bool c5) (by cases p4 <;> kernel_rfl) rfl (fun hg => by
     have hgy : ∀ v, gy (!p4) v = v := fun v => by rw [hg]; rfl
     have hgt : ∀ v, gy true v = v := fun _ => rfl
     go_simp) ?_
    simp only [Act.put, lsA, lsZ, lsS]
    refine wpl_g 67 (!p4) (v := .bool c5) (by cases p4 <;> kernel_rfl) rfl (fun hg => by
     have hgy : ∀ v, gy (!p4) v = v := fun v => by rw [hg]; rfl
     have hgt : ∀ v, gy true v = v := fun _ => rfl
     go_simp) ?_
    simp only [Act.put, lsA, lsZ, lsS]
    refine wpl_g 68 ((!p4) && c5) (v := .pointer (some ⟨b, 5, none⟩)) (by cases p4 <;> cases c5 <;> kernel_rfl) rfl (fun hg => by
     have hgy : ∀ v, gy ((!p4) && c5) v = v := fun v => by rw [hg]; rfl
     have hgt : ∀ v, gy true v = v := fun _ => rfl
     go_simp) ?_
    simp only [Act.put, lsA, lsZ, lsS]
    refine wpl_g 69 ((!p4) && c5) (v := .string key) (by cases p4 <;> cases c5 <;> kernel_rfl) rfl (fun hg => by
     have hgy : ∀ v, gy ((!p4) && c5) v = v := fun v => by rw [hg]; rfl
     have hgt : ∀ v, gy true v = v := fun _ => rfl
     go_simp) ?_
    simp only [Act.put, lsA, lsZ, lsS]
    refine wpl_g 70 ((!p4) && c5) (v := .bool c6) (by cases p4 <;> cases c5 <;> kernel_rfl) rfl (fun hg => by
     have hgy : ∀ v, gy ((!p4) && c5) v = v := fun v => by rw [hg]; rfl
     have hgt : ∀ v, gy true v = v := fun _ => rfl
     go_simp) ?_
    simp only [Act.put, lsA, lsZ, lsS]
    refine wpl_g 71 (!p4) (v := .bool (c5 && c6)) (by cases p4 <;> kernel_rfl) rfl (fun hg => by
     have hgy : ∀ v, gy (!p4) v = v := fun v => by rw [hg]; rfl
     have hgt : ∀ v, gy true v = v := fun _ => rfl
     exact exec_pand hg rfl rfl rfl rfl) ?_
    simp only [Act.put, lsA, lsZ, lsS]
    refine wpl_t 72 (v := .bool p5) (by kernel_rfl) rfl (by rw [Hp5.out]; exact exec_por rfl rfl rfl rfl) ?_
    simp only [Act.put, lsA, lsZ, lsS]
    refine wpl_t 73 (v := .bool p5) (by kernel_rfl) rfl (by go_simp) ?_
    simp only [Act.put, lsA, lsZ, lsS]
    refine wpl_g 74 (!p5) (v := .pointer (some ⟨b, 6, none⟩)) (by cases p5 <;> kernel_rfl) rfl (fun hg => by
     have hgy : ∀ v, gy (!p5) v = v := fun v => by rw [hg]; rfl
     have hgt : ∀ v, gy true v = v := fun _ => rfl
     go_simp) ?_
    simp only [Act.put, lsA, lsZ, lsS]
    refine wpl_g 75 (!p5) (v := .int .i64 bk) (by cases p5 <;> kernel_rfl) rfl (fun hg => by
     have hgy : ∀ v, gy (!p5) v = v := fun v => by rw [hg]; rfl
     have hgt : ∀ v, gy true v = v := fun _ => rfl
     go_simp) ?_
    simp only [Act.put, lsA, lsZ, lsS]
    refine wpl_g 76 (!p5) (v := .bool c7) (by cases p5 <;> kernel_rfl) rfl (fun hg => by
     have hgy : ∀ v, gy (!p5) v = v := fun v => by rw [hg]; rfl
     have hgt : ∀ v, gy true v = v := fun _ => rfl
     go_simp) ?_
    simp only [Act.put, lsA, lsZ, lsS]
    refine wpl_t 77 (v := .bool p6) (by kernel_rfl) rfl (by rw [Hp6.out]; exact exec_por rfl rfl rfl rfl) ?_
    simp only [Act.put, lsA, lsZ, lsS]
    refine wpl_t 78 (v := .bool p6) (by kernel_rfl) rfl (by go_simp) ?_
    simp only [Act.put, lsA, lsZ, lsS]
    refine wpl_g 79 (!p6) (v := .pointer (some ⟨b, 6, none⟩)) (by cases p6 <;> kernel_rfl) rfl (fun hg => by
     have hgy : ∀ v, gy (!p6) v = v := fun v => by rw [hg]; rfl
     have hgt : ∀ v, gy true v = v := fun _ => rfl
     go_simp) ?_
    simp only [Act.put, lsA, lsZ, lsS]
    refine wpl_g 80 (!p6) (v := .int .i64 bk) (by cases p6 <;> kernel_rfl) rfl (fun hg => by
     have hgy : ∀ v, gy (!p6) v = v := fun v => by rw [hg]; rfl
     have hgt : ∀ v, gy true v = v := fun _ => rfl
     go_simp) ?_
    simp only [Act.put, lsA, lsZ, lsS]
    refine wpl_g 81 (!p6) (v := .bool c8) (by cases p6 <;> kernel_rfl) rfl (fun hg => by
     have hgy : ∀ v, gy (!p6) v = v := fun v => by rw [hg]; rfl
     have hgt : ∀ v, gy true v = v := fun _ => rfl
     go_simp) ?_
    simp only [Act.put, lsA, lsZ, lsS]
    refine wpl_t 82 (v := .bool p7) (by kernel_rfl) rfl (by rw [Hp7.out]; exact exec_por rfl rfl rfl rfl) ?_
    simp only [Act.put, lsA, lsZ, lsS]
    refine wpl_t 83 (v := .bool p7) (by kernel_rfl) rfl (by go_simp) ?_
    simp only [Act.put, lsA, lsZ, lsS]
    refine wpl_g 84 (!p7) (v := .pointer (some ⟨b, 7, none⟩)) (by cases p7 <;> kernel_rfl) rfl (fun hg => by
     have hgy : ∀ v, gy (!p7) v = v := fun v => by rw [hg]; rfl
     have hgt : ∀ v, gy true v = v := fun _ => rfl
     go_simp) ?_
    simp only [Act.put, lsA, lsZ, lsS]
    refine wpl_g 85 (!p7) (v := .slice ea e1.length ec) (by cases p7 <;> kernel_rfl) rfl (fun hg => by
     have hgy : ∀ v, gy (!p7) v = v := fun v => by rw [hg]; rfl
     have hgt : ∀ v, gy true v = v := fun _ => rfl
     go_simp) ?_
    simp only [Act.put, lsA, lsZ, lsS]
    refine wpl_g 86 (!p7) (v := .int .i64 (e1.length : Int)) (by cases p7 <;> kernel_rfl) rfl (fun hg => by
     have hgy : ∀ v, gy (!p7) v = v := fun v => by rw [hg]; rfl
     have hgt : ∀ v, gy true v = v := fun _ => rfl
     go_simp) ?_
    simp only [Act.put, lsA, lsZ, lsS]
    refine wpl_g 87 (!p7) (v := .int .i64 hi) (by cases p7 <;> kernel_rfl) rfl (fun hg => by
     have hgy : ∀ v, gy (!p7) v = v := fun v => by rw [hg]; rfl
     have hgt : ∀ v, gy true v = v := fun _ => rfl
     go_simp) ?_
    simp only [Act.put, lsA, lsZ, lsS]
    refine wpl_g 88 (!p7) (v := .bool c9) (by cases p7 <;> kernel_rfl) rfl (fun hg => by
     have hgy : ∀ v, gy (!p7) v = v := fun v => by rw [hg]; rfl
     have hgt : ∀ v, gy true v = v := fun _ => rfl
     go_simp) ?_
    simp only [Act.put, lsA, lsZ, lsS]
    refine wpl_t 89 (v := .bool p8) (by kernel_rfl) rfl (by rw [Hp8.out]; exact exec_por rfl rfl rfl rfl) ?_
    simp only [Act.put, lsA, lsZ, lsS]
    refine wpl_t 90 (v := .bool p8) (by kernel_rfl) rfl (by go_simp) ?_
    simp only [Act.put, lsA, lsZ, lsS]
    refine wpl_g 91 (!p8) (v := .pointer (some ⟨b, 0, none⟩)) (by cases p8 <;> kernel_rfl) rfl (fun hg => by
     have hgy : ∀ v, gy (!p8) v = v := fun v => by rw [hg]; rfl
     have hgt : ∀ v, gy true v = v := fun _ => rfl
     go_simp) ?_
    simp only [Act.put, lsA, lsZ, lsS]
    refine wpl_g 92 (!p8) (v := .int .i64 k) (by cases p8 <;> kernel_rfl) rfl (fun hg => by
     have hgy : ∀ v, gy (!p8) v = v := fun v => by rw [hg]; rfl
     have hgt : ∀ v, gy true v = v := fun _ => rfl
     go_simp) ?_
    simp only [Act.put, lsA, lsZ, lsS]
    refine wpl_g 93 (!p8) (v := .bool c10) (by cases p8 <;> kernel_rfl) rfl (fun hg => by
     have hgy : ∀ v, gy (!p8) v = v := fun v => by rw [hg]; rfl
     have hgt : ∀ v, gy true v = v := fun _ => rfl
     go_simp) ?_
    simp only [Act.put, lsA, lsZ, lsS]
    refine wpl_g 94 (!p8) (v := .bool c10) (by cases p8 <;> kernel_rfl) rfl (fun hg => by
     have hgy : ∀ v, gy (!p8) v = v := fun v => by rw [hg]; rfl
     have hgt : ∀ v, gy true v = v := fun _ => rfl
     go_simp) ?_
    simp only [Act.put, lsA, lsZ, lsS]
    refine wpl_g 95 ((!p8) && c10) (v := .pointer (some ⟨b, 7, none⟩)) (by cases p8 <;> cases c10 <;> kernel_rfl) rfl (fun hg => by
     have hgy : ∀ v, gy ((!p8) && c10) v = v := fun v => by rw [hg]; rfl
     have hgt : ∀ v, gy true v = v := fun _ => rfl
     go_simp) ?_
    simp only [Act.put, lsA, lsZ, lsS]
    refine wpl_g 96 ((!p8) && c10) (v := .slice ea e1.length ec) (by cases p8 <;> cases c10 <;> kernel_rfl) rfl (fun hg => by
     have hgy : ∀ v, gy ((!p8) && c10) v = v := fun v => by rw [hg]; rfl
     have hgt : ∀ v, gy true v = v := fun _ => rfl
     go_simp) ?_
    simp only [Act.put, lsA, lsZ, lsS]
    refine wpl_g 97 ((!p8) && c10) (v := .int .i64 (e1.length : Int)) (by cases p8 <;> cases c10 <;> kernel_rfl) rfl (fun hg => by
     have hgy : ∀ v, gy ((!p8) && c10) v = v := fun v => by rw [hg]; rfl
     have hgt : ∀ v, gy true v = v := fun _ => rfl
     go_simp) ?_
    simp only [Act.put, lsA, lsZ, lsS]
    refine wpl_g 98 ((!p8) && c10) (v := .bool c11) (by cases p8 <;> cases c10 <;> kernel_rfl) rfl (fun hg => by
     have hgy : ∀ v, gy ((!p8) && c10) v = v := fun v => by rw [hg]; rfl
     have hgt : ∀ v, gy true v = v := fun _ => rfl
     go_simp) ?_
    simp only [Act.put, lsA, lsZ, lsS]
    refine wpl_g 99 (!p8) (v := .bool (c10 && c11)) (by cases p8 <;> kernel_rfl) rfl (fun hg => by
     have hgy : ∀ v, gy (!p8) v = v := fun v => by rw [hg]; rfl
     have hgt : ∀ v, gy true v = v := fun _ => rfl
     exact exec_pand hg rfl rfl rfl rfl) ?_
    simp only [Act.put, lsA, lsZ, lsS]
    refine wpl_t 100 (v := .bool p9) (by kernel_rfl) rfl (by rw [Hp9.out]; exact exec_por rfl rfl rfl rfl) ?_
    simp only [Act.put, lsA, lsZ, lsS]
    refine wpl_t 101 (v := .bool p9) (by kernel_rfl) rfl (by go_simp) ?_
    simp only [Act.put, lsA, lsZ, lsS]
    refine wpl_g 102 (!p9) (v := .pointer (some ⟨b, 8, none⟩)) (by cases p9 <;> kernel_rfl) rfl (fun hg => by
     have hgy : ∀ v, gy (!p9) v = v := fun v => by rw [hg]; rfl
     have hgt : ∀ v, gy true v = v := fun _ => rfl
     go_simp) ?_
    simp only [Act.put, lsA, lsZ, lsS]
    refine wpl_g 103 (!p9) (v := .slice da g1.length dc) (by cases p9 <;> kernel_rfl) rfl (fun hg => by
     have hgy : ∀ v, gy (!p9) v = v := fun v => by rw [hg]; rfl
     have hgt : ∀ v, gy true v = v := fun _ => rfl
     go_simp) ?_
    simp only [Act.put, lsA, lsZ, lsS]
    refine wpl_g 104 (!p9) (v := .int .i64 (g1.length : Int)) (by cases p9 <;> kernel_rfl) rfl (fun hg => by
     have hgy : ∀ v, gy (!p9) v = v := fun v => by rw [hg]; rfl
     have hgt : ∀ v, gy true v = v := fun _ => rfl
     go_simp) ?_
    simp only [Act.put, lsA, lsZ, lsS]
    refine wpl_g 105 (!p9) (v := .bool c12) (by cases p9 <;> kernel_rfl) rfl (fun hg => by
     have hgy : ∀ v, gy (!p9) v = v := fun v => by rw [hg]; rfl
     have hgt : ∀ v, gy true v = v := fun _ => rfl
     go_simp) ?_
    simp only [Act.put, lsA, lsZ, lsS]
    refine wpl_t 106 (v := .bool p10) (by kernel_rfl) rfl (by rw [Hp10.out]; exact exec_por rfl rfl rfl rfl) ?_
    simp only [Act.put, lsA, lsZ, lsS]
    refine wpl_t 107 (v := .bool p10) (by kernel_rfl) rfl (by go_simp) ?_
    simp only [Act.put, lsA, lsZ, lsS]
    refine wpl_g 108 (!p10) (v := .pointer (some ⟨b, 9, none⟩)) (by cases p10 <;> kernel_rfl) rfl (fun hg => by
     have hgy : ∀ v, gy (!p10) v = v := fun v => by rw [hg]; rfl
     have hgt : ∀ v, gy true v = v := fun _ => rfl
     go_simp) ?_
    simp only [Act.put, lsA, lsZ, lsS]
    refine wpl_g 109 (!p10) (v := .slice ma m1.length mc) (by cases p10 <;> kernel_rfl) rfl (fun hg => by
     have hgy : ∀ v, gy (!p10) v = v := fun v => by rw [hg]; rfl
     have hgt : ∀ v, gy true v = v := fun _ => rfl
     go_simp) ?_
    simp only [Act.put, lsA, lsZ, lsS]
    refine wpl_g 110 (!p10) (v := .int .i64 (m1.length : Int)) (by cases p10 <;> kernel_rfl) rfl (fun hg => by
     have hgy : ∀ v, gy (!p10) v = v := fun v => by rw [hg]; rfl
     have hgt : ∀ v, gy true v = v := fun _ => rfl
     go_simp) ?_
    simp only [Act.put, lsA, lsZ, lsS]
    refine wpl_g 111 (!p10) (v := .bool c13) (by cases p10 <;> kernel_rfl) rfl (fun hg => by
     have hgy : ∀ v, gy (!p10) v = v := fun v => by rw [hg]; rfl
     have hgt : ∀ v, gy true v = v := fun _ => rfl
     go_simp) ?_
    simp only [Act.put, lsA, lsZ, lsS]
    refine wpl_t 112 (v := .bool p11) (by kernel_rfl) rfl (by rw [Hp11.out]; exact exec_por rfl rfl rfl rfl) ?_
    simp only [Act.put, lsA, lsZ, lsS]
    unfold wpList
    go_wp2_with fail
    go_meet
    case rel =>
     refine ⟨p11, rfl, ?_, rfl⟩
     show _ ↔ _
     have q0 := Hp2.out
     have q1 := Hp3.out
     have q2 := Hp4.out
     have q3 := Hp5.out
     have q4 := Hp6.out
     have q5 := Hp7.out
     have q6 := Hp8.out
     have q7 := Hp9.out
     have q8 := Hp10.out
     have q9 := Hp11.out
     rw [q9, q8, q7, q6, q5, q4, q3, q2, q1, q0, HNN.out]
     simp only [Bool.or_eq_true, Bool.and_eq_true, Bool.not_eq_true', Hc1.out, Hc2.out, Hc4.out, Hc5.out, Hc6.out, Hc7.out, Hc8.out, Hc9.out, Hc10.out, Hc11.out, Hc12.out, Hc13.out]
     rw [Hc3.out, HHI.out]
     exact num_bad
   case rest =>
    obtain ⟨bb, rfl, HBB, hwc⟩ := hcut
    rw [hwc]
    clear hwc
    cases bb with
    | true =>
     have HNO : Hid (¬ N) := HBB.out.1 rfl
     go_wp2_with fail
     go_ret
     exact ⟨.mk' false (by rw [HD.out]; exact ⟨fun h => (by cases h), fun h => absurd h.2.2.2.1 HNO.out⟩), HO.out⟩
    | false =>
     have HNY : Hid N := Classical.byContradiction (fun h => by have := HBB.out.2 h; cases this)
     clear HBB
     have HOL : Hid (Off (fun _ => False) V V) := Off.refl _ V
     have lne : e1.length ≤ 9223372036854775807 := Nat.le_trans HM.out.ens.len HM.out.ens.bound
     have lng : g1.length ≤ 9223372036854775807 := Nat.le_trans HM.out.dgs.len HM.out.dgs.bound
     have lnm : m1.length ≤ 9223372036854775807 := Nat.le_trans HM.out.mbs.len HM.out.mbs.bound
     go_wp2_with fail
     go_loopw [116] (fun y wr => ∃ n : Nat, y = .int .i64 (n : Int) ∧ n ≤ e1.length ∧ (∀ i v, i < n → e1[i]? = some v → (keyB v.key && mayS v.f (cont v.l)) = true) ∧ Off (fun _ => False) V wr) (fun y _ => (e1.length - intOf y).toNat)
     case atStart => exact ⟨0, rfl, by omega, fun i v hi => by omega, HOL.out⟩
     case round =>
      clear x0 x1 x2 x3 x4 x5 x6 x7 x8 x9
      obtain ⟨n, rfl, hn, hg, O⟩ := hrel
      have HG : Hid _ := hg
      have HOR : Hid (Off (fun _ => False) V wr) := O
      clear hg
      by_cases hlt : n < e1.length
      ·have g1b : decide ((n : Int) < (e1.length : Int)) = true := decide_eq_true (by omega)
       have g2b : decide (n < e1.length) = true := decide_eq_true hlt
       obtain ⟨v, hv⟩ : ∃ v, e1[n]? = some v := ⟨_, List.getElem?_eq_getElem hlt⟩
       have hA := (HM.out.off O).ens.at_ n v hv
       obtain ⟨bx, off, rfl, k10, kr⟩ := hA
       obtain ⟨k0, k1, k2, k3, k4, k5, k6, k7, k8, k9⟩ := ent10 k10
       clear k10
       have hix := idx_ents hlt
       have HV : Hid _ := hv
       clear hv O
       go_upto_region 13 with fail
       have CN := Cel.new wr 46 #[.string v.key, .int .i64 (v.f 0), .int .i64 (v.f 1), .int .i64 (v.f 2), .int .i64 (v.f 3), .int .i64 (v.f 4), .int .i64 (v.f 5), .int .i64 (v.f 6), .int .i64 (v.f 7), .slice v.a v.l.length v.cap]
       have ON : Off (fun _ => False) wr (wr.alloc (.cells #[.string v.key, .int .i64 (v.f 0), .int .i64 (v.f 1), .int .i64 (v.f 2), .int .i64 (v.f 3), .int .i64 (v.f 4), .int .i64 (v.f 5), .int .i64 (v.f 6), .int .i64 (v.f 7), .slice v.a v.l.length v.cap] 46)) := (Off.refl _ wr).alloc _
       generalize hvv : wr.alloc (.cells #[.string v.key, .int .i64 (v.f 0), .int .i64 (v.f 1), .int .i64 (v.f 2), .int .i64 (v.f 3), .int .i64 (v.f 4), .int .i64 (v.f 5), .int .i64 (v.f 6), .int .i64 (v.f 7), .slice v.a v.l.length v.cap] 46) = V2 at CN ON ⊢
       generalize hpp : wr.heap.size = pp at CN ⊢
       clear hvv hpp k0 k1 k2 k3 k4 k5 k6 k7 k8 k9 hix
       have HX : Hid _ := kr.off ON
       clear kr
       have HO2 : Hid _ := HOR.out.trans ON (fun _ _ h => h)
       have z0 := CN.cell 0
       have z1 := CN.cell 1
       have z2 := CN.cell 2
       have z3 := CN.cell 3
       have z4 := CN.cell 4
       have z5 := CN.cell 5
       have z6 := CN.cell 6
       have z7 := CN.cell 7
       have z8 := CN.cell 8
       have z9 := CN.cell 9
       simp at z0 z1 z2 z3 z4 z5 z6 z7 z8 z9
       clear CN ON
       go_wp2_with fail
       refine (gmayentry_any v.key v.f v.a v.cap v.l _ HX.out).mono ?_
       rintro e w2 ⟨rfl, o2⟩
       clear z0 z1 z2 z3 z4 z5 z6 z7 z8 z9
       cases hd : (keyB v.key && mayS v.f (cont v.l))
       ·go_wp2_with fail
        go_ret
        exact ⟨.mk' false (by rw [HD.out]; exact ⟨fun h => (by cases h), fun h => absurd (h.2.2.2.2.1 v (List.mem_of_getElem? HV.out)) (by rw [hd]; decide)⟩), HO.out.trans (HO2.out.trans o2 (fun _ _ h => h)) (fun _ _ h => h)⟩
       ·go_wp2_with fail
        go_roundw
        case rel =>
         refine ⟨n + 1, by go_num, by omega, fun i u hi hu => ?_, HO2.out.trans o2 (fun _ _ h => h)⟩
         rcases Nat.lt_or_ge i n with h | h
         ·exact HG.out i u h hu
         ·obtain rfl : i = n := by omega
          rw [HV.out] at hu
          cases hu
          exact hd
        case measure => simp [intOf]; omega
      ·obtain rfl : n = e1.length := by omega
       have g1b : decide ((e1.length : Int) < (e1.length : Int)) = false := decide_eq_false (by omega)
       have g2b : decide (e1.length < e1.length) = false := decide_eq_false (by omega)
       have HALL0 : Hid (∀ v ∈ e1, (keyB v.key && mayS v.f (cont v.l)) = true) := fun v hv => by
        obtain ⟨i, hi⟩ := List.getElem?_of_mem hv
        have hlt : i < e1.length := by
         obtain ⟨h, -⟩ := List.getElem?_eq_some_iff.1 hi
         exact h
        exact HG.out i v hlt hi
       have HOL : Hid _ := HOR.out
       clear HG HOR
       obtain ⟨x0, x1, x2, x3, x4, x5, x6, x7, x8, x9⟩ := celw10 (HC.out.off O (fun h => h))
       clear O
       go_wp2_with fail
       go_loopw [127] (fun y wr => ∃ n : Nat, y = .int .i64 (n : Int) ∧ n ≤ g1.length ∧ (∀ i v, i < n → g1[i]? = some v → (mayD ⟨v.key, v.f, v.ds⟩) = true) ∧ Off (fun _ => False) V wr) (fun y _ => (g1.length - intOf y).toNat)
       case atStart => exact ⟨0, rfl, by omega, fun i v hi => by omega, HOL.out⟩
       case round =>
        clear x0 x1 x2 x3 x4 x5 x6 x7 x8 x9
        obtain ⟨n, rfl, hn, hg, O⟩ := hrel
        have HG : Hid _ := hg
        have HOR : Hid (Off (fun _ => False) V wr) := O
        clear hg
        by_cases hlt : n < g1.length
        ·have g1b : decide ((n : Int) < (g1.length : Int)) = true := decide_eq_true (by omega)
         have g2b : decide (n < g1.length) = true := decide_eq_true hlt
         obtain ⟨v, hv⟩ : ∃ v, g1[n]? = some v := ⟨_, List.getElem?_eq_getElem hlt⟩
         have hA := (HM.out.off O).dgs.at_ n v hv
         obtain ⟨bx, off, rfl, k10, kr⟩ := hA
         obtain ⟨k0, k1, k2, k3, k4, k5, k6, k7, k8, k9⟩ := dg10 k10
         clear k10
         have hix := idx_dgs hlt
         have HV : Hid _ := hv
         clear hv O
         go_upto_region 19 with fail
         have CN := Cel.new wr 49 #[.string v.key, .int .i64 (v.f 0), .int .i64 (v.f 1), .int .i64 (v.f 2), .int .i64 (v.f 3), .int .i64 (v.f 4), .int .i64 (v.f 5), .int .i64 (v.f 6), .int .i64 (v.f 7), .slice v.a v.ds.length v.cap]
         have ON : Off (fun _ => False) wr (wr.alloc (.cells #[.string v.key, .int .i64 (v.f 0), .int .i64 (v.f 1), .int .i64 (v.f 2), .int .i64 (v.f 3), .int .i64 (v.f 4), .int .i64 (v.f 5), .int .i64 (v.f 6), .int .i64 (v.f 7), .slice v.a v.ds.length v.cap] 49)) := (Off.refl _ wr).alloc _
         generalize hvv : wr.alloc (.cells #[.string v.key, .int .i64 (v.f 0), .int .i64 (v.f 1), .int .i64 (v.f 2), .int .i64 (v.f 3), .int .i64 (v.f 4), .int .i64 (v.f 5), .int .i64 (v.f 6), .int .i64 (v.f 7), .slice v.a v.ds.length v.cap] 49) = V2 at CN ON ⊢
         generalize hpp : wr.heap.size = pp at CN ⊢
         clear hvv hpp k0 k1 k2 k3 k4 k5 k6 k7 k8 k9 hix
         have HX : Hid _ := kr.off ON
         clear kr
         have HO2 : Hid _ := HOR.out.trans ON (fun _ _ h => h)
         have z0 := CN.cell 0
         have z1 := CN.cell 1
         have z2 := CN.cell 2
         have z3 := CN.cell 3
         have z4 := CN.cell 4
         have z5 := CN.cell 5
         have z6 := CN.cell 6
         have z7 := CN.cell 7
         have z8 := CN.cell 8
         have z9 := CN.cell 9
         simp at z0 z1 z2 z3 z4 z5 z6 z7 z8 z9
         clear CN ON
         go_wp2_with fail
         refine (gmayd_any v.key v.f v.a v.cap v.ds _ HX.out).mono ?_
         rintro e w2 ⟨rfl, o2⟩
         clear z0 z1 z2 z3 z4 z5 z6 z7 z8 z9
         cases hd : (mayD ⟨v.key, v.f, v.ds⟩)
         ·go_wp2_with fail
          go_ret
          exact ⟨.mk' false (by rw [HD.out]; exact ⟨fun h => (by cases h), fun h => absurd (h.2.2.2.2.2.1 v (List.mem_of_getElem? HV.out)) (by rw [hd]; decide)⟩), HO.out.trans (HO2.out.trans o2 (fun _ _ h => h)) (fun _ _ h => h)⟩
         ·go_wp2_with fail
          go_roundw
          case rel =>
           refine ⟨n + 1, by go_num, by omega, fun i u hi hu => ?_, HO2.out.trans o2 (fun _ _ h => h)⟩
           rcases Nat.lt_or_ge i n with h | h
           ·exact HG.out i u h hu
           ·obtain rfl : i = n := by omega
            rw [HV.out] at hu
            cases hu
            exact hd
          case measure => simp [intOf]; omega
        ·obtain rfl : n = g1.length := by omega
         have g1b : decide ((g1.length : Int) < (g1.length : Int)) = false := decide_eq_false (by omega)
         have g2b : decide (g1.length < g1.length) = false := decide_eq_false (by omega)
         have HALL1 : Hid (∀ v ∈ g1, (mayD ⟨v.key, v.f, v.ds⟩) = true) := fun v hv => by
          obtain ⟨i, hi⟩ := List.getElem?_of_mem hv
          have hlt : i < g1.length := by
           obtain ⟨h, -⟩ := List.getElem?_eq_some_iff.1 hi
           exact h
          exact HG.out i v hlt hi
         have HOL : Hid _ := HOR.out
         clear HG HOR
         obtain ⟨x0, x1, x2, x3, x4, x5, x6, x7, x8, x9⟩ := celw10 (HC.out.off O (fun h => h))
         clear O
         go_wp2_with fail
         go_loopw [138] (fun y wr => ∃ n : Nat, y = .int .i64 (n : Int) ∧ n ≤ m1.length ∧ (∀ i v, i < n → m1[i]? = some v → (mbB v.1 v.2) = true) ∧ Off (fun _ => False) V wr) (fun y _ => (m1.length - intOf y).toNat)
         case atStart => exact ⟨0, rfl, by omega, fun i v hi => by omega, HOL.out⟩
         case round =>
          clear x0 x1 x2 x3 x4 x5 x6 x7 x8 x9
          obtain ⟨n, rfl, hn, hg, O⟩ := hrel
          have HG : Hid _ := hg
          have HOR : Hid (Off (fun _ => False) V wr) := O
          clear hg
          by_cases hlt : n < m1.length
          ·have g1b : decide ((n : Int) < (m1.length : Int)) = true := decide_eq_true (by omega)
           have g2b : decide (n < m1.length) = true := decide_eq_true hlt
           obtain ⟨v, hv⟩ : ∃ v, m1[n]? = some v := ⟨_, List.getElem?_eq_getElem hlt⟩
           have hA := (HM.out.off O).mbs.at_ n v hv
           obtain ⟨bx, off, rfl, k0, k1⟩ := hA
           have hix := idx_mems hlt
           have HV : Hid _ := hv
           clear hv O
           go_upto_region 25 with fail
           have CN := Cel.new wr 60 #[.int .i64 v.1, .int .i64 v.2]
           have ON : Off (fun _ => False) wr (wr.alloc (.cells #[.int .i64 v.1, .int .i64 v.2] 60)) := (Off.refl _ wr).alloc _
           generalize hvv : wr.alloc (.cells #[.int .i64 v.1, .int .i64 v.2] 60) = V2 at CN ON ⊢
           generalize hpp : wr.heap.size = pp at CN ⊢
           clear hvv hpp k0 k1 hix
           have HO2 : Hid _ := HOR.out.trans ON (fun _ _ h => h)
           have z0 := CN.cell 0
           have z1 := CN.cell 1
           simp at z0 z1
           clear CN ON
           go_wp2_with fail
           refine (zmaym_any v.1 v.2 _).mono ?_
           rintro e w2 ⟨rfl, o2⟩
           clear z0 z1
           cases hd : (mbB v.1 v.2)
           ·go_wp2_with fail
            go_ret
            exact ⟨.mk' false (by rw [HD.out]; exact ⟨fun h => (by cases h), fun h => absurd (h.2.2.2.2.2.2 v (List.mem_of_getElem? HV.out)) (by rw [hd]; decide)⟩), HO.out.trans (HO2.out.trans o2 (fun _ _ h => h)) (fun _ _ h => h)⟩
           ·go_wp2_with fail
            go_roundw
            case rel =>
             refine ⟨n + 1, by go_num, by omega, fun i u hi hu => ?_, HO2.out.trans o2 (fun _ _ h => h)⟩
             rcases Nat.lt_or_ge i n with h | h
             ·exact HG.out i u h hu
             ·obtain rfl : i = n := by omega
              rw [HV.out] at hu
              cases hu
              exact hd
            case measure => simp [intOf]; omega
          ·obtain rfl : n = m1.length := by omega
           have g1b : decide ((m1.length : Int) < (m1.length : Int)) = false := decide_eq_false (by omega)
           have g2b : decide (m1.length < m1.length) = false := decide_eq_false (by omega)
           have HALL2 : Hid (∀ v ∈ m1, (mbB v.1 v.2) = true) := fun v hv => by
            obtain ⟨i, hi⟩ := List.getElem?_of_mem hv
            have hlt : i < m1.length := by
             obtain ⟨h, -⟩ := List.getElem?_eq_some_iff.1 hi
             exact h
            exact HG.out i v hlt hi
           have HOL : Hid _ := HOR.out
           clear HG HOR
           clear O
           go_wp2_with fail
           go_ret
           exact ⟨.mk' true (by rw [HD.out]; exact ⟨fun _ => ⟨HK.out, hnfr, hntn, HNY.out, HALL0.out, HALL1.out, HALL2.out⟩, fun _ => rfl⟩), HO.out.trans HOL.out (fun _ _ h => h)⟩
theorem zmay_any (m : Mg) (es : List E) (gs : List G) (ms : List (Int × Int)) (w : World) (h : MsgAt w m es gs ms) :
  Calls Tryz.prog 11 #[(.agg #[.int .i64 m.k, .int .i64 m.fr, .int .i64 m.tn, .int .i64 m.op, .int .i64 m.fo, .string m.key, .int .i64 m.bk, .slice m.ea m.el m.ec, .slice m.da m.dl m.dc, .slice m.ma m.ml m.mc])] w fun e w' => Yes (MayM (mdM m es gs ms)) e ∧ Off (fun _ => False) w w' :=
 zmay_core m (plM (msk m.k) m) _ _ _ w (h.plain (msk m.k)) rfl rfl rfl (fun W => plain_any m W)
end Go.Proofs.YtmbphlkohlggfaaGreat

namespace Go.Proofs.YtmbphlkohlggfaaGreat
set_option maxRecDepth 100000
open Go.RowKit
theorem WqF.off {K : Nat → Prop} {b most : Nat} {st : Option (List Nat)} {w w' : World} (h : Wq FW K b most st w) (o : Off (fun _ => False) w w') : Wq FW K b most st w' := by
 obtain ⟨D, h1, h2⟩ := h.ex
 exact ⟨⟨D, h1.off o (fun _ _ _ h => h), h2⟩, h.fit, fun c hc => Nat.lt_of_lt_of_le (h.bd c hc) o.size⟩
theorem WqF.more {K L : Nat → Prop} {b most : Nat} {st : Option (List Nat)} {w w' : World} (h : Wq FW K b most st w) (o : Off (fun _ => False) w w') (hL : ∀ c, L c → K c ∨ w.heap.size ≤ c ∧ c < w'.heap.size) : Wq FW L b most st w' := by
 obtain ⟨D, h1, h2⟩ := h.ex
 refine ⟨⟨D, h1.off o (fun _ _ _ h => h), fun c hc hl => ?_⟩, h.fit, fun c hc => ?_⟩
 ·rcases hL c hl with h | h
  ·exact h2 c hc h
  ·have := h1.lt c hc
   omega
 ·rcases hL c hc with h5 | h5
  ·exact Nat.lt_of_lt_of_le (h.bd c h5) o.size
  ·exact h5.2
theorem WqF.less {K L : Nat → Prop} {b most : Nat} {st : Option (List Nat)} {w : World} (h : Wq FW K b most st w) (hL : ∀ c, L c → K c) : Wq FW L b most st w := by
 obtain ⟨D, h1, h2⟩ := h.ex
 exact ⟨⟨D, h1, fun c hc hl => h2 c hc (hL c hl)⟩, h.fit, fun c hc => h.bd c (hL c hc)⟩
theorem fq1E {K : Nat → Prop} {b most : Nat} {sn : Option (List Nat)} {w : World} (h : Wq FW K b most sn w) (hm : most ≤ 140737488355328) (v : E) (hok : (keyB v.key && mayS v.f (cont v.l)) = true) (hrow : ∀ w', Off (fun c => ¬ K c) w w' → Row w' v.a v.cap v.l) :
  Calls Tryz.prog 16 #[.pointer (some ⟨b, 0, none⟩), .agg #[.string v.key, .int .i64 (v.f 0), .int .i64 (v.f 1), .int .i64 (v.f 2), .int .i64 (v.f 3), .int .i64 (v.f 4), .int .i64 (v.f 5), .int .i64 (v.f 6), .int .i64 (v.f 7), .slice v.a v.l.length v.cap]] w fun e w' => e = .returned (.tuple #[]) ∧ Wq FW K b most (wrE most sn v.key v.f (cont v.l)) w' ∧ Off (fun c => ¬ K c) w w' := by
 obtain ⟨D, hW, hD⟩ := h.ex
 have hst := h.fit
 have hrow := fun w' (o : Off D w w') => hrow w' (o.mono (fun c _ hc => hD c hc))
 refine (gwriteEntry_any hW hm hst v.key (by have := (may_rng hok).1; omega) v.f (may_rng hok).2 v.a v.cap v.l hrow).mono ?_
 rintro e w' ⟨he, hP⟩
 exact ⟨he, Wq.step h.bd hD hP (wrE_le h.fit _ _ _)⟩
theorem fq1D {K : Nat → Prop} {b most : Nat} {sn : Option (List Nat)} {w : World} (h : Wq FW K b most sn w) (hm : most ≤ 140737488355328) (v : G) (hok : mayD ⟨v.key, v.f, v.ds⟩ = true) (hrow : ∀ w', Off (fun c => ¬ K c) w w' → RowD w' v.a v.cap v.ds) :
  Calls Tryz.prog 17 #[.pointer (some ⟨b, 0, none⟩), .agg #[.string v.key, .int .i64 (v.f 0), .int .i64 (v.f 1), .int .i64 (v.f 2), .int .i64 (v.f 3), .int .i64 (v.f 4), .int .i64 (v.f 5), .int .i64 (v.f 6), .int .i64 (v.f 7), .slice v.a v.ds.length v.cap]] w fun e w' => e = .returned (.tuple #[]) ∧ Wq FW K b most (wrG most sn v.key v.f v.ds) w' ∧ Off (fun c => ¬ K c) w w' := by
 obtain ⟨D, hW, hD⟩ := h.ex
 have hst := h.fit
 have hrow := fun w' (o : Off D w w') => hrow w' (o.mono (fun c _ hc => hD c hc))
 refine (gdwrite_any hW hm hst v.key (by have := (mayD_rng hok).1; omega) v.f (mayD_rng hok).2.1 v.a v.cap v.ds (mayD_rng hok).2.2 hrow).mono ?_
 rintro e w' ⟨he, hP⟩
 exact ⟨he, Wq.step h.bd hD hP (wrG_le h.fit _ _ _)⟩
theorem fqNum {K : Nat → Prop} {b most : Nat} {st : Option (List Nat)} {w : World} (h : Wq FW K b most st w) (hm : most ≤ 140737488355328) (n : Nat) (hn : n < 18446744073709551616) :
  Calls Tryz.prog 13 #[.pointer (some ⟨b, 0, none⟩), .int .u64 (n : Int)] w fun e w' => e = .returned (.tuple #[]) ∧ Wq FW K b most (putS most st (numB n)) w' ∧ Off (fun c => ¬ K c) w w' := by
 obtain ⟨D, hW, hD⟩ := h.ex
 refine (fwnum_any hW n hn (.inr ⟨hm, h.fit⟩)).mono ?_
 rintro e w' ⟨he, hP⟩
 exact ⟨he, Wq.step h.bd hD hP (put_le h.fit _)⟩
theorem fqInt {K : Nat → Prop} {b most : Nat} {st : Option (List Nat)} {w : World} (h : Wq FW K b most st w) (hm : most ≤ 140737488355328) (i : Int) (h0 : -9223372036854775808 ≤ i) (h1 : i ≤ 9223372036854775807) :
  Calls Tryz.prog 14 #[.pointer (some ⟨b, 0, none⟩), .int .i64 i] w fun e w' => e = .returned (.tuple #[]) ∧ Wq FW K b most (putS most st (numB (zig i))) w' ∧ Off (fun c => ¬ K c) w w' := by
 obtain ⟨D, hW, hD⟩ := h.ex
 refine (fwint_any hW i h0 h1 (.inr ⟨hm, h.fit⟩)).mono ?_
 rintro e w' ⟨he, hP⟩
 exact ⟨he, Wq.step h.bd hD hP (put_le h.fit _)⟩
theorem fqText {K : Nat → Prop} {b most : Nat} {st : Option (List Nat)} {w : World} (h : Wq FW K b most st w) (hm : most ≤ 140737488355328) (bt : Option Addr) (bc : Nat) (bb : List Nat) (hb : bb.length ≤ 32) (hs : Src w bt bc bb) :
  Calls Tryz.prog 15 #[.pointer (some ⟨b, 0, none⟩), .slice bt bb.length bc] w fun e w' => e = .returned (.tuple #[]) ∧ Wq FW K b most (putS most st (numB bb.length ++ bb)) w' ∧ Off (fun c => ¬ K c) w w' := by
 obtain ⟨D, hW, hD⟩ := h.ex
 refine (fwtext_any hW bt bc bb hs (.inr ⟨hm, h.fit, by omega⟩)).mono ?_
 rintro e w' ⟨he, hP⟩
 exact ⟨he, Wq.step h.bd hD hP (put_le h.fit _)⟩
theorem bits_k {k : Int} : ∃ v0 v1 v2 v3 v4 v5 v6 : Int, (bits .and .i64 (hsK k) 1 = v0 ∧ (v0 != 0) = (msk k).op) ∧ (bits .and .i64 (hsK k) 2 = v1 ∧ (v1 != 0) = (msk k).fo) ∧ (bits .and .i64 (hsK k) 4 = v2 ∧ (v2 != 0) = (msk k).key) ∧ (bits .and .i64 (hsK k) 8 = v3 ∧ (v3 != 0) = (msk k).bk) ∧ (bits .and .i64 (hsK k) 16 = v4 ∧ (v4 != 0) = (msk k).es) ∧ (bits .and .i64 (hsK k) 32 = v5 ∧ (v5 != 0) = (msk k).gs) ∧ (bits .and .i64 (hsK k) 64 = v6 ∧ (v6 != 0) = (msk k).ms) := by
 by_cases h1 : k = 1
 ·subst h1
  exact ⟨_, _, _, _, _, _, _, ⟨rfl, by kernel_rfl⟩, ⟨rfl, by kernel_rfl⟩, ⟨rfl, by kernel_rfl⟩, ⟨rfl, by kernel_rfl⟩, ⟨rfl, by kernel_rfl⟩, ⟨rfl, by kernel_rfl⟩, ⟨rfl, by kernel_rfl⟩⟩
 by_cases h2 : k = 2
 ·subst h2
  exact ⟨_, _, _, _, _, _, _, ⟨rfl, by kernel_rfl⟩, ⟨rfl, by kernel_rfl⟩, ⟨rfl, by kernel_rfl⟩, ⟨rfl, by kernel_rfl⟩, ⟨rfl, by kernel_rfl⟩, ⟨rfl, by kernel_rfl⟩, ⟨rfl, by kernel_rfl⟩⟩
 by_cases h3 : k = 3
 ·subst h3
  exact ⟨_, _, _, _, _, _, _, ⟨rfl, by kernel_rfl⟩, ⟨rfl, by kernel_rfl⟩, ⟨rfl, by kernel_rfl⟩, ⟨rfl, by kernel_rfl⟩, ⟨rfl, by kernel_rfl⟩, ⟨rfl, by kernel_rfl⟩, ⟨rfl, by kernel_rfl⟩⟩
 by_cases h4 : k = 4
 ·subst h4
  exact ⟨_, _, _, _, _, _, _, ⟨rfl, by kernel_rfl⟩, ⟨rfl, by kernel_rfl⟩, ⟨rfl, by kernel_rfl⟩, ⟨rfl, by kernel_rfl⟩, ⟨rfl, by kernel_rfl⟩, ⟨rfl, by kernel_rfl⟩, ⟨rfl, by kernel_rfl⟩⟩
 by_cases h5 : k = 5
 ·subst h5
  exact ⟨_, _, _, _, _, _, _, ⟨rfl, by kernel_rfl⟩, ⟨rfl, by kernel_rfl⟩, ⟨rfl, by kernel_rfl⟩, ⟨rfl, by kernel_rfl⟩, ⟨rfl, by kernel_rfl⟩, ⟨rfl, by kernel_rfl⟩, ⟨rfl, by kernel_rfl⟩⟩
 by_cases h6 : k = 6
 ·subst h6
  exact ⟨_, _, _, _, _, _, _, ⟨rfl, by kernel_rfl⟩, ⟨rfl, by kernel_rfl⟩, ⟨rfl, by kernel_rfl⟩, ⟨rfl, by kernel_rfl⟩, ⟨rfl, by kernel_rfl⟩, ⟨rfl, by kernel_rfl⟩, ⟨rfl, by kernel_rfl⟩⟩
 by_cases h7 : k = 7
 ·subst h7
  exact ⟨_, _, _, _, _, _, _, ⟨rfl, by kernel_rfl⟩, ⟨rfl, by kernel_rfl⟩, ⟨rfl, by kernel_rfl⟩, ⟨rfl, by kernel_rfl⟩, ⟨rfl, by kernel_rfl⟩, ⟨rfl, by kernel_rfl⟩, ⟨rfl, by kernel_rfl⟩⟩
 by_cases h8 : k = 8
 ·subst h8
  exact ⟨_, _, _, _, _, _, _, ⟨rfl, by kernel_rfl⟩, ⟨rfl, by kernel_rfl⟩, ⟨rfl, by kernel_rfl⟩, ⟨rfl, by kernel_rfl⟩, ⟨rfl, by kernel_rfl⟩, ⟨rfl, by kernel_rfl⟩, ⟨rfl, by kernel_rfl⟩⟩
 by_cases h9 : k = 9
 ·subst h9
  exact ⟨_, _, _, _, _, _, _, ⟨rfl, by kernel_rfl⟩, ⟨rfl, by kernel_rfl⟩, ⟨rfl, by kernel_rfl⟩, ⟨rfl, by kernel_rfl⟩, ⟨rfl, by kernel_rfl⟩, ⟨rfl, by kernel_rfl⟩, ⟨rfl, by kernel_rfl⟩⟩
 have e1 : hsK k = 0 := by unfold hsK; rw [if_neg h1, if_neg h2, if_neg h3, if_neg h4, if_neg h5, if_neg h6, if_neg h7, if_neg h8, if_neg h9]
 have e2 : msk k = ⟨false, false, false, false, false, false, false⟩ := by unfold msk; rw [if_neg h1, if_neg h2, if_neg h3, if_neg h4, if_neg h5, if_neg h6, if_neg h7, if_neg h8, if_neg h9]
 rw [e1, e2]
 exact ⟨_, _, _, _, _, _, _, ⟨rfl, by kernel_rfl⟩, ⟨rfl, by kernel_rfl⟩, ⟨rfl, by kernel_rfl⟩, ⟨rfl, by kernel_rfl⟩, ⟨rfl, by kernel_rfl⟩, ⟨rfl, by kernel_rfl⟩, ⟨rfl, by kernel_rfl⟩⟩
set_option maxHeartbeats 8000000 in
theorem zencode_any (m : Mg) (es : List E) (gs : List G) (ms : List (Int × Int)) (w : World) (h : MsgAt w m es gs ms) :
  Calls Tryz.prog 6 #[(.agg #[.int .i64 m.k, .int .i64 m.fr, .int .i64 m.tn, .int .i64 m.op, .int .i64 m.fo, .string m.key, .int .i64 m.bk, .slice m.ea m.el m.ec, .slice m.da m.dl m.dc, .slice m.ma m.ml m.mc])] w fun e w' => ∃ (t : Option Addr) (c : Nat) (bs : List Nat) (er : Int), e = .returned (.tuple #[.slice t bs.length c, .int .i64 er]) ∧ EncR (mdM m es gs ms) bs er ∧ OwnR w' t c bs ∧ (∀ k, blk t = some k → w.heap.size ≤ k) ∧ Off (fun _ => False) w w' := by
 obtain ⟨k, fr, tn, op, fo, key, bk, ea, el, ec, da, dl, dc, ma, ml, mc⟩ := m
 obtain rfl : el = es.length := h.el
 obtain rfl : dl = gs.length := h.dl
 obtain rfl : ml = ms.length := h.ml
 show Calls Tryz.prog 6 #[.agg #[.int .i64 k, .int .i64 fr, .int .i64 tn, .int .i64 op, .int .i64 fo, .string key, .int .i64 bk, .slice ea es.length ec, .slice da gs.length dc, .slice ma ms.length mc]] w fun e w' => ∃ (t : Option Addr) (c : Nat) (bs : List Nat) (er : Int), e = .returned (.tuple #[.slice t bs.length c, .int .i64 er]) ∧ EncR (mdM (⟨k, fr, tn, op, fo, key, bk, ea, es.length, ec, da, gs.length, dc, ma, ms.length, mc⟩ : Mg) es gs ms) bs er ∧ OwnR w' t c bs ∧ (∀ k, blk t = some k → w.heap.size ≤ k) ∧ Off (fun _ => False) w w'
 have HLN4 : Hid (es.length ≤ 9223372036854775807) := Nat.le_trans h.ens.len h.ens.bound
 have HLN5 : Hid (gs.length ≤ 9223372036854775807) := Nat.le_trans h.dgs.len h.dgs.bound
 have HLN6 : Hid (ms.length ≤ 9223372036854775807) := Nat.le_trans h.mbs.len h.mbs.bound
 obtain ⟨d, hd⟩ : ∃ d, d = mdM (⟨k, fr, tn, op, fo, key, bk, ea, es.length, ec, da, gs.length, dc, ma, ms.length, mc⟩ : Mg) es gs ms := ⟨_, rfl⟩
 have HD : Hid (d = mdM (⟨k, fr, tn, op, fo, key, bk, ea, es.length, ec, da, gs.length, dc, ma, ms.length, mc⟩ : Mg) es gs ms) := hd
 rw [← hd]
 clear hd
 have C0 := Cel.new w 26 #[.int .i64 k, .int .i64 fr, .int .i64 tn, .int .i64 op, .int .i64 fo, .string key, .int .i64 bk, .slice ea es.length ec, .slice da gs.length dc, .slice ma ms.length mc]
 have O0 : Off (fun _ => False) w (w.alloc (.cells #[.int .i64 k, .int .i64 fr, .int .i64 tn, .int .i64 op, .int .i64 fo, .string key, .int .i64 bk, .slice ea es.length ec, .slice da gs.length dc, .slice ma ms.length mc] 26)) := (Off.refl _ w).alloc _
 have HX : Hid _ := h
 clear h
 go_enter Tryz.func6, Tryz.ntmps6
 go_upto_region 1 with fail
 generalize hv : w.alloc (.cells #[.int .i64 k, .int .i64 fr, .int .i64 tn, .int .i64 op, .int .i64 fo, .string key, .int .i64 bk, .slice ea es.length ec, .slice da gs.length dc, .slice ma ms.length mc] 26) = V0 at C0 O0 ⊢
 generalize hp : w.heap.size = p at C0 ⊢
 have HP : Hid (w.heap.size = p) := hp
 clear hv hp
 obtain ⟨x0, x1, x2, x3, x4, x5, x6, x7, x8, x9⟩ := celw10 C0
 have HC : Hid _ := C0
 have HO0 : Hid _ := O0
 clear C0 O0
 go_wp2_with fail
 refine (zmay_any (⟨k, fr, tn, op, fo, key, bk, ea, es.length, ec, da, gs.length, dc, ma, ms.length, mc⟩ : Mg) es gs ms _ (HX.out.off HO0.out)).mono ?_
 rintro e w1 ⟨⟨b, rfl, hb⟩, o1⟩
 rw [← HD.out] at hb
 have HB : Hid (b = true ↔ MayM d) := hb
 clear x0 x1 x2 x3 x4 x5 x6 x7 x8 x9 hb
 have HC1 : Hid _ := HC.out.off o1 (fun h => h)
 have HO1 : Hid _ := HO0.out.trans o1 (fun _ _ h => h)
 clear o1 HC HO0
 cases b with
 | false =>
  go_wp2_with fail
  refine bodyPost_ret (results_tmp2 rfl _ _ _) rfl ?_
  exact ⟨none, 0, [], 1, rfl, ⟨.inl ⟨fun h => (by have := HB.out.2 h; cases this), rfl, rfl⟩⟩, OwnR.nil _, fun k hk => by simp [blk] at hk, HO1.out⟩
 | true =>
  have HMAY : Hid (MayM d) := HB.out.1 rfl
  clear HB
  obtain ⟨x0, x1, x2, x3, x4, x5, x6, x7, x8, x9⟩ := celw10 HC1.out
  obtain ⟨hh, hhh⟩ : ∃ hh, hh = hsK k := ⟨_, rfl⟩
  have HHS : Hid (∀ W, Calls Tryz.prog 12 #[.int .i64 k] W fun e w' => e = .returned (.int .i64 hh) ∧ w' = W) := fun W => by rw [hhh]; exact has_any k W
  obtain ⟨v0, v1, v2, v3, v4, v5, v6, ⟨a0, q0⟩, ⟨a1, q1⟩, ⟨a2, q2⟩, ⟨a3, q3⟩, ⟨a4, q4⟩, ⟨a5, q5⟩, a6, q6⟩ := bits_k (k := k)
  rw [← hhh] at a0 a1 a2 a3 a4 a5 a6
  have HR0 := may_parts (m := (⟨k, fr, tn, op, fo, key, bk, ea, es.length, ec, da, gs.length, dc, ma, ms.length, mc⟩ : Mg)) (es := es) (gs := gs) (ms := ms) (by rw [← HD.out]; exact HMAY.out)
  have HDK : Hid (d.k = k) := by show d.k = k; rw [HD.out]; rfl
  have HWP : Hid (wrMsg 60000 (some []) (msk d.k) d = wrMsg 60000 (some []) (msk k) (mdOf (⟨k, fr, tn, op, fo, key, bk, ea, es.length, ec, da, gs.length, dc, ma, ms.length, mc⟩ : Mg) es gs ms)) := by show _ = _; rw [HDK.out, HD.out]; exact wr_plain 60000 (some []) (msk k) (⟨k, fr, tn, op, fo, key, bk, ea, es.length, ec, da, gs.length, dc, ma, ms.length, mc⟩ : Mg) es gs ms
  have HR0 : ((msk k).op = true → 0 ≤ op ∧ op ≤ 1099511627776) ∧ ((msk k).key = true → key.size ≤ 32) ∧ ((msk k).es = true → ∀ x ∈ es, (keyB x.key && mayS x.f (cont x.l)) = true) ∧ ((msk k).gs = true → ∀ x ∈ gs, mayD ⟨x.key, x.f, x.ds⟩ = true) ∧ ((msk k).ms = true → ∀ x ∈ ms, mbB x.1 x.2 = true) := HR0
  generalize msk k = s at HR0 HWP q0 q1 q2 q3 q4 q5 q6
  obtain ⟨so, sf, sk, sb, se, sg, sn⟩ := s
  have HR : Hid _ := HR0
  have HV0 : Hid (bits .and .i64 hh 1 = v0 ∧ (v0 != 0) = so) := ⟨a0, q0⟩
  have HV1 : Hid (bits .and .i64 hh 2 = v1 ∧ (v1 != 0) = sf) := ⟨a1, q1⟩
  have HV2 : Hid (bits .and .i64 hh 4 = v2 ∧ (v2 != 0) = sk) := ⟨a2, q2⟩
  have HV3 : Hid (bits .and .i64 hh 8 = v3 ∧ (v3 != 0) = sb) := ⟨a3, q3⟩
  have HV4 : Hid (bits .and .i64 hh 16 = v4 ∧ (v4 != 0) = se) := ⟨a4, q4⟩
  have HV5 : Hid (bits .and .i64 hh 32 = v5 ∧ (v5 != 0) = sg) := ⟨a5, q5⟩
  have HV6 : Hid (bits .and .i64 hh 64 = v6 ∧ (v6 != 0) = sn) := ⟨a6, q6⟩
  clear hhh HR0 a0 a1 a2 a3 a4 a5 a6 q0 q1 q2 q3 q4 q5 q6
  go_wp2_with fail
  refine (HHS.out _).mono ?_
  rintro e w' ⟨rfl, hw⟩
  rw [hw]
  clear hw w' HHS
  go_upto_region 5 with fail
  have CW := Cel.new w1 53 #[.slice none 0 0, .int .i64 60000, .bool false]
  have OW : Off (fun _ => False) w1 (w1.alloc (.cells #[.slice none 0 0, .int .i64 60000, .bool false] 53)) := (Off.refl _ w1).alloc _
  generalize hv : w1.alloc (.cells #[.slice none 0 0, .int .i64 60000, .bool false] 53) = V at CW OW ⊢
  obtain ⟨q, hq⟩ : ∃ q, q = w1.heap.size := ⟨_, rfl⟩
  rw [← hq] at CW ⊢
  obtain ⟨N, hN⟩ : ∃ N, N = w1.heap.size := ⟨_, rfl⟩
  have HQ : Hid (Wq FW (fun c => c < N) q 60000 (some []) V) := ⟨⟨fun c => c = q, ⟨rfl, fun c h => by have := CW.lt; have h : c = q := h; omega, by decide, .inr ⟨[], none, 0, rfl, CW, OwnR.nil _, fun k hk => by simp [blk] at hk⟩⟩, fun c hc h => by have hc : c = q := hc; have h : c < N := h; omega⟩, by simp, fun c hc => Nat.lt_of_lt_of_le (show c < N from hc) (by have := OW.size; omega)⟩
  have HMB : Hid _ := HC1.out.off OW (fun h => h)
  have HPN : Hid (p < N) := by show _ < _; rw [hN]; exact HC1.out.lt
  have HE : Hid (∀ w', Off (fun c => ¬ c < N) V w' → MsgAt w' (⟨k, fr, tn, op, fo, key, bk, ea, es.length, ec, da, gs.length, dc, ma, ms.length, mc⟩ : Mg) es gs ms) := fun w' o => HX.out.off (HO1.out.trans ((OW.mono (fun _ _ h => h.elim)).trans o (fun c hc h => h (by omega))) (fun c hc h => h))
  have HOV : Hid (Off (fun _ => False) w V) := HO1.out.trans OW (fun _ _ h => h)
  have HNW : Hid (w.heap.size ≤ N) := by show _ ≤ _; rw [hN]; exact HO1.out.size
  have HO : Hid (Off (fun c => ¬ c < N) V V) := Off.refl _ V
  clear hv hq hN CW OW x0 x1 x2 x3 x4 x5 x6 x7 x8 x9 HC1 HO1 HX
  obtain ⟨x0, x1, x2, x3, x4, x5, x6, x7, x8, x9⟩ := celw10 HMB.out
  have hu0 := u64_wrap k
  have hu1 := u64_wrap fr
  have hu2 := u64_wrap tn
  go_wp2_with fail
  refine (fqNum HQ.out (by decide) (u64N k) (u64N_lt k)).mono ?_
  rintro e w5 ⟨rfl, hq, o5⟩
  clear x0 x1 x2 x3 x4 x5 x6 x7 x8 x9
  have HO5 : Hid _ := HO.out.trans o5 (fun _ _ h => h)
  clear HQ HO
  have HQ : Hid _ := hq
  have HO : Hid _ := HO5.out
  clear hq o5 HO5
  obtain ⟨x0, x1, x2, x3, x4, x5, x6, x7, x8, x9⟩ := celw10 (HMB.out.off HO.out (fun e => e HPN.out))
  go_wp2_with fail
  refine (fqNum HQ.out (by decide) (u64N fr) (u64N_lt fr)).mono ?_
  rintro e w5 ⟨rfl, hq, o5⟩
  clear x0 x1 x2 x3 x4 x5 x6 x7 x8 x9
  have HO5 : Hid _ := HO.out.trans o5 (fun _ _ h => h)
  clear HQ HO
  have HQ : Hid _ := hq
  have HO : Hid _ := HO5.out
  clear hq o5 HO5
  obtain ⟨x0, x1, x2, x3, x4, x5, x6, x7, x8, x9⟩ := celw10 (HMB.out.off HO.out (fun e => e HPN.out))
  go_wp2_with fail
  refine (fqNum HQ.out (by decide) (u64N tn) (u64N_lt tn)).mono ?_
  rintro e w5 ⟨rfl, hq, o5⟩
  clear x0 x1 x2 x3 x4 x5 x6 x7 x8 x9
  have HO5 : Hid _ := HO.out.trans o5 (fun _ _ h => h)
  clear HQ HO
  have HQ : Hid _ := hq
  have HO : Hid _ := HO5.out
  clear hq o5 HO5
  obtain ⟨x0, x1, x2, x3, x4, x5, x6, x7, x8, x9⟩ := celw10 (HMB.out.off HO.out (fun e => e HPN.out))
  clear hu0 hu1 hu2
  obtain ⟨s3, hs⟩ : ∃ x, x = wr3 60000 (some []) (mdOf (⟨k, fr, tn, op, fo, key, bk, ea, es.length, ec, da, gs.length, dc, ma, ms.length, mc⟩ : Mg) es gs ms) := ⟨_, rfl⟩
  have HS3 : Hid (s3 = wr3 60000 (some []) (mdOf (⟨k, fr, tn, op, fo, key, bk, ea, es.length, ec, da, gs.length, dc, ma, ms.length, mc⟩ : Mg) es gs ms)) := hs
  have HQ' : Hid (Wq FW (fun c => c < N) q 60000 s3 w5) := by show Wq _ _ _ _ _ _; rw [hs]; exact HQ.out
  clear HQ hs x0 x1 x2 x3 x4 x5 x6 x7 x8 x9
  have HQ := HQ'
  clear HQ'
  have bt := HV0.out.1
  have bn := HV0.out.2
  obtain ⟨s4, hs⟩ : ∃ x, x = wrOp 60000 so (mdOf (⟨k, fr, tn, op, fo, key, bk, ea, es.length, ec, da, gs.length, dc, ma, ms.length, mc⟩ : Mg) es gs ms) s3 := ⟨_, rfl⟩
  have HS4 : Hid (s4 = wrOp 60000 so (mdOf (⟨k, fr, tn, op, fo, key, bk, ea, es.length, ec, da, gs.length, dc, ma, ms.length, mc⟩ : Mg) es gs ms) s3) := hs
  clear hs
  go_upto_if 37 with fail
  clear bt bn
  go_cut [] from 37 to 41 (fun wx => Hid (Wq FW (fun c => c < N) q 60000 s4 wx) ∧ Hid (Off (fun c => ¬ c < N) V wx))
  case first =>
   have HS := HS4
   have m0 := (HMB.out.off HO.out (fun e => e HPN.out)).cell 3
   simp at m0
   cases so
   ·go_wp2_with fail
    go_meet
    case rel => exact ⟨by rw [show s4 = _ from HS.out]; exact HQ.out, HO.out⟩
   ·go_wp2_with fail
    refine (fqInt HQ.out (by decide) op (by have := (HR.out.1 (by simp)); omega) (by have := (HR.out.1 (by simp)); omega)).mono ?_
    rintro e w5 ⟨rfl, hq, o5⟩
    have HQ5 : Hid _ := hq
    have HO5 : Hid _ := HO.out.trans o5 (fun _ _ h => h)
    clear hq o5
    go_wp2_with fail
    go_meet
    case rel => exact ⟨by rw [show s4 = _ from HS.out]; exact HQ5.out, HO5.out⟩
  case rest =>
   clear HQ HO
   obtain ⟨HQ, HO⟩ := hcut
   have bt := HV1.out.1
   have bn := HV1.out.2
   obtain ⟨s5, hs⟩ : ∃ x, x = wrFo 60000 sf (mdOf (⟨k, fr, tn, op, fo, key, bk, ea, es.length, ec, da, gs.length, dc, ma, ms.length, mc⟩ : Mg) es gs ms) s4 := ⟨_, rfl⟩
   have HS5 : Hid (s5 = wrFo 60000 sf (mdOf (⟨k, fr, tn, op, fo, key, bk, ea, es.length, ec, da, gs.length, dc, ma, ms.length, mc⟩ : Mg) es gs ms) s4) := hs
   clear hs
   go_upto_if 44 with fail
   clear bt bn
   go_cut [] from 44 to 49 (fun wx => Hid (Wq FW (fun c => c < N) q 60000 s5 wx) ∧ Hid (Off (fun c => ¬ c < N) V wx))
   case first =>
    have HS := HS5
    have m1 := (HMB.out.off HO.out (fun e => e HPN.out)).cell 4
    simp at m1
    have hu := u64_wrap fo
    cases sf
    ·go_wp2_with fail
     go_meet
     case rel => exact ⟨by rw [show s5 = _ from HS.out]; exact HQ.out, HO.out⟩
    ·go_wp2_with fail
     refine (fqNum HQ.out (by decide) (u64N fo) (u64N_lt fo)).mono ?_
     rintro e w5 ⟨rfl, hq, o5⟩
     have HQ5 : Hid _ := hq
     have HO5 : Hid _ := HO.out.trans o5 (fun _ _ h => h)
     clear hq o5
     go_wp2_with fail
     go_meet
     case rel => exact ⟨by rw [show s5 = _ from HS.out]; exact HQ5.out, HO5.out⟩
   case rest =>
    clear HQ HO
    obtain ⟨HQ, HO⟩ := hcut
    have bt := HV2.out.1
    have bn := HV2.out.2
    obtain ⟨s6, hs⟩ : ∃ x, x = wrKey 60000 sk (mdOf (⟨k, fr, tn, op, fo, key, bk, ea, es.length, ec, da, gs.length, dc, ma, ms.length, mc⟩ : Mg) es gs ms) s5 := ⟨_, rfl⟩
    have HS6 : Hid (s6 = wrKey 60000 sk (mdOf (⟨k, fr, tn, op, fo, key, bk, ea, es.length, ec, da, gs.length, dc, ma, ms.length, mc⟩ : Mg) es gs ms) s5) := hs
    clear hs
    go_upto_if 52 with fail
    clear bt bn
    go_cut [] from 52 to 57 (fun wx => Hid (Wq FW (fun c => c < N) q 60000 s6 wx) ∧ Hid (Off (fun c => ¬ c < N) V wx))
    case first =>
     have HS := HS6
     have m2 := (HMB.out.off HO.out (fun e => e HPN.out)).cell 5
     simp at m2
     obtain ⟨cap, W', hcv, hsrc, hof, -⟩ := conv_key2 key wc
     have HSR : Hid _ := hsrc
     have HOF : Hid _ := hof
     clear hsrc hof
     cases sk
     ·go_wp2_with fail
      go_meet
      case rel => exact ⟨by rw [show s6 = _ from HS.out]; exact HQ.out, HO.out⟩
     ·go_wp2_with fail
      refine (fqText (WqF.off HQ.out HOF.out) (by decide) _ cap (keyL key) (by rw [keyL_len]; exact HR.out.2.1 (by simp)) HSR.out).mono ?_
      rintro e w5 ⟨rfl, hq, o5⟩
      have HQ5 : Hid _ := hq
      have HO5 : Hid _ := (HO.out.trans HOF.out (fun _ _ h => h.elim)).trans o5 (fun _ _ h => h)
      clear hq o5
      go_wp2_with fail
      go_meet
      case rel => exact ⟨by rw [show s6 = _ from HS.out]; exact HQ5.out, HO5.out⟩
    case rest =>
     clear HQ HO
     obtain ⟨HQ, HO⟩ := hcut
     have bt := HV3.out.1
     have bn := HV3.out.2
     obtain ⟨s7, hs⟩ : ∃ x, x = wrBk 60000 sb (mdOf (⟨k, fr, tn, op, fo, key, bk, ea, es.length, ec, da, gs.length, dc, ma, ms.length, mc⟩ : Mg) es gs ms) s6 := ⟨_, rfl⟩
     have HS7 : Hid (s7 = wrBk 60000 sb (mdOf (⟨k, fr, tn, op, fo, key, bk, ea, es.length, ec, da, gs.length, dc, ma, ms.length, mc⟩ : Mg) es gs ms) s6) := hs
     clear hs
     go_upto_if 60 with fail
     clear bt bn
     go_cut [] from 60 to 65 (fun wx => Hid (Wq FW (fun c => c < N) q 60000 s7 wx) ∧ Hid (Off (fun c => ¬ c < N) V wx))
     case first =>
      have HS := HS7
      have m3 := (HMB.out.off HO.out (fun e => e HPN.out)).cell 6
      simp at m3
      have hu := u64_wrap bk
      cases sb
      ·go_wp2_with fail
       go_meet
       case rel => exact ⟨by rw [show s7 = _ from HS.out]; exact HQ.out, HO.out⟩
      ·go_wp2_with fail
       refine (fqNum HQ.out (by decide) (u64N bk) (u64N_lt bk)).mono ?_
       rintro e w5 ⟨rfl, hq, o5⟩
       have HQ5 : Hid _ := hq
       have HO5 : Hid _ := HO.out.trans o5 (fun _ _ h => h)
       clear hq o5
       go_wp2_with fail
       go_meet
       case rel => exact ⟨by rw [show s7 = _ from HS.out]; exact HQ5.out, HO5.out⟩
     case rest =>
      clear HQ HO
      obtain ⟨HQ, HO⟩ := hcut
      have bt := HV4.out.1
      have bn := HV4.out.2
      obtain ⟨s8, hs⟩ : ∃ x, x = wrES 60000 se (mdOf (⟨k, fr, tn, op, fo, key, bk, ea, es.length, ec, da, gs.length, dc, ma, ms.length, mc⟩ : Mg) es gs ms) s7 := ⟨_, rfl⟩
      have HS8 : Hid (s8 = wrES 60000 se (mdOf (⟨k, fr, tn, op, fo, key, bk, ea, es.length, ec, da, gs.length, dc, ma, ms.length, mc⟩ : Mg) es gs ms) s7) := hs
      clear hs
      go_upto_if 68 with fail
      clear bt bn
      go_cut [] from 68 to 85 (fun wx => Hid (Wq FW (fun c => c < N) q 60000 s8 wx) ∧ Hid (Off (fun c => ¬ c < N) V wx))
      case first =>
       have HS := HS8
       have m4 := (HMB.out.off HO.out (fun e => e HPN.out)).cell 7
       simp at m4
       have hwl := len_wrap es HLN4.out
       have hlq : es.length ≤ 9223372036854775807 := HLN4.out
       cases se
       ·go_wp2_with fail
        go_meet
        case rel => exact ⟨by rw [show s8 = _ from HS.out]; exact HQ.out, HO.out⟩
       ·go_wp2_with fail
        refine (fqNum HQ.out (by decide) es.length (by omega)).mono ?_
        rintro e w5 ⟨rfl, hq, o5⟩
        have HQ5 : Hid _ := hq
        have HO5 : Hid _ := HO.out.trans o5 (fun _ _ h => h)
        clear hq o5 m4 hwl
        have m4 := (HMB.out.off HO5.out (fun e => e HPN.out)).cell 7
        simp at m4
        go_wp2_with fail
        go_loopw [78] (fun y wr => ∃ n : Nat, y = .int .i64 (n : Int) ∧ n ≤ es.length ∧ Hid (Wq FW (fun c => c < N) q 60000 (wrEs 60000 (putS 60000 s7 (numB es.length)) ((es.take n).map E.abs)) wr) ∧ Hid (Off (fun c => ¬ c < N) V wr)) (fun y _ => (es.length - intOf y).toNat)
        case atStart => exact ⟨0, rfl, by omega, HQ5.out, HO5.out⟩
        case round =>
         clear HQ5 HO5 HQ HO m4
         obtain ⟨n, rfl, hn, HQ, HO⟩ := hrel
         by_cases hlt : n < es.length
         ·have g1b : decide ((n : Int) < (es.length : Int)) = true := decide_eq_true (by omega)
          have g2b : decide (n < es.length) = true := decide_eq_true hlt
          obtain ⟨v, hv⟩ : ∃ v, es[n]? = some v := ⟨_, List.getElem?_eq_getElem hlt⟩
          have hA := (HE.out wr HO.out).ens.at_ n v hv
          obtain ⟨bx, off, ea', k10, kr⟩ := hA
          have HRW : Hid (∀ w', Off (fun c => ¬ c < N) wr w' → Row w' v.a v.cap v.l) := fun w' o => by
           obtain ⟨_, _, _, _, r⟩ := (HE.out w' (HO.out.trans o (fun _ _ h => h))).ens.at_ n v hv
           exact r
          clear kr
          have ea'' : ea = some ⟨bx, off, none⟩ := ea'
          clear ea'
          subst ea''
          obtain ⟨k0, k1, k2, k3, k4, k5, k6, k7, k8, k9⟩ := ent10 k10
          clear k10
          have hix := idx_ents hlt
          have HV : Hid _ := hv
          have HV2 : Hid _ := HR.out.2.2.1 (by simp) v (List.mem_of_getElem? hv)
          clear hv
          go_upto_region 21 with fail
          have CN := Cel.new wr 46 #[.string v.key, .int .i64 (v.f 0), .int .i64 (v.f 1), .int .i64 (v.f 2), .int .i64 (v.f 3), .int .i64 (v.f 4), .int .i64 (v.f 5), .int .i64 (v.f 6), .int .i64 (v.f 7), .slice v.a v.l.length v.cap]
          have ON : Off (fun _ => False) wr (wr.alloc (.cells #[.string v.key, .int .i64 (v.f 0), .int .i64 (v.f 1), .int .i64 (v.f 2), .int .i64 (v.f 3), .int .i64 (v.f 4), .int .i64 (v.f 5), .int .i64 (v.f 6), .int .i64 (v.f 7), .slice v.a v.l.length v.cap] 46)) := (Off.refl _ wr).alloc _
          generalize hvv : wr.alloc (.cells #[.string v.key, .int .i64 (v.f 0), .int .i64 (v.f 1), .int .i64 (v.f 2), .int .i64 (v.f 3), .int .i64 (v.f 4), .int .i64 (v.f 5), .int .i64 (v.f 6), .int .i64 (v.f 7), .slice v.a v.l.length v.cap] 46) = v1 at CN ON ⊢
          obtain ⟨pb, hpp⟩ : ∃ pb, pb = wr.heap.size := ⟨_, rfl⟩
          rw [← hpp] at CN ⊢
          have z0 := CN.cell 0
          have z1 := CN.cell 1
          have z2 := CN.cell 2
          have z3 := CN.cell 3
          have z4 := CN.cell 4
          have z5 := CN.cell 5
          have z6 := CN.cell 6
          have z7 := CN.cell 7
          have z8 := CN.cell 8
          have z9 := CN.cell 9
          simp at z0 z1 z2 z3 z4 z5 z6 z7 z8 z9
          have HQ1 : Hid _ := WqF.off HQ.out ON
          have HON : Hid (Off (fun c => ¬ c < N) wr v1) := ON.mono (fun _ _ h => h.elim)
          clear hvv hpp k0 k1 k2 k3 k4 k5 k6 k7 k8 k9 hix CN ON
          go_wp2_with fail
          refine (fq1E HQ1.out (by decide) v HV2.out (fun w1 o1 => HRW.out w1 (HON.out.trans o1 (fun _ _ h => h)))).mono ?_
          rintro e w2 ⟨rfl, hq, o2⟩
          clear z0 z1 z2 z3 z4 z5 z6 z7 z8 z9
          have HQ2 : Hid _ := hq
          have HO2 : Hid _ := (HO.out.trans HON.out (fun _ _ h => h)).trans o2 (fun _ _ h => h)
          clear hq o2 HQ1
          go_wp2_with fail
          go_roundw
          case rel => exact ⟨n + 1, by go_num, by omega, by rw [wrEs_step HV.out]; exact HQ2.out, HO2.out⟩
          case measure => simp [intOf]; omega
         ·obtain rfl : n = es.length := by omega
          have g1b : decide ((es.length : Int) < (es.length : Int)) = false := decide_eq_false (by omega)
          have g2b : decide (es.length < es.length) = false := decide_eq_false (by omega)
          rw [List.take_length] at HQ
          go_wp2_with fail
          go_meet
          case rel => exact ⟨by rw [show s8 = _ from HS.out]; show Wq _ _ _ _ (wrEs 60000 (putS 60000 s7 (numB ((es.map E.abs)).length)) _) _; rw [List.length_map]; exact HQ.out, HO.out⟩
      case rest =>
       clear HQ HO
       obtain ⟨HQ, HO⟩ := hcut
       have bt := HV5.out.1
       have bn := HV5.out.2
       obtain ⟨s9, hs⟩ : ∃ x, x = wrGS 60000 sg (mdOf (⟨k, fr, tn, op, fo, key, bk, ea, es.length, ec, da, gs.length, dc, ma, ms.length, mc⟩ : Mg) es gs ms) s8 := ⟨_, rfl⟩
       have HS9 : Hid (s9 = wrGS 60000 sg (mdOf (⟨k, fr, tn, op, fo, key, bk, ea, es.length, ec, da, gs.length, dc, ma, ms.length, mc⟩ : Mg) es gs ms) s8) := hs
       clear hs
       go_upto_if 88 with fail
       clear bt bn
       go_cut [] from 88 to 105 (fun wx => Hid (Wq FW (fun c => c < N) q 60000 s9 wx) ∧ Hid (Off (fun c => ¬ c < N) V wx))
       case first =>
        have HS := HS9
        have m5 := (HMB.out.off HO.out (fun e => e HPN.out)).cell 8
        simp at m5
        have hwl := len_wrap gs HLN5.out
        have hlq : gs.length ≤ 9223372036854775807 := HLN5.out
        cases sg
        ·go_wp2_with fail
         go_meet
         case rel => exact ⟨by rw [show s9 = _ from HS.out]; exact HQ.out, HO.out⟩
        ·go_wp2_with fail
         refine (fqNum HQ.out (by decide) gs.length (by omega)).mono ?_
         rintro e w5 ⟨rfl, hq, o5⟩
         have HQ5 : Hid _ := hq
         have HO5 : Hid _ := HO.out.trans o5 (fun _ _ h => h)
         clear hq o5 m5 hwl
         have m5 := (HMB.out.off HO5.out (fun e => e HPN.out)).cell 8
         simp at m5
         go_wp2_with fail
         go_loopw [98] (fun y wr => ∃ n : Nat, y = .int .i64 (n : Int) ∧ n ≤ gs.length ∧ Hid (Wq FW (fun c => c < N) q 60000 (wrGs 60000 (putS 60000 s8 (numB gs.length)) ((gs.take n).map G.abs)) wr) ∧ Hid (Off (fun c => ¬ c < N) V wr)) (fun y _ => (gs.length - intOf y).toNat)
         case atStart => exact ⟨0, rfl, by omega, HQ5.out, HO5.out⟩
         case round =>
          clear HQ5 HO5 HQ HO m5
          obtain ⟨n, rfl, hn, HQ, HO⟩ := hrel
          by_cases hlt : n < gs.length
          ·have g1b : decide ((n : Int) < (gs.length : Int)) = true := decide_eq_true (by omega)
           have g2b : decide (n < gs.length) = true := decide_eq_true hlt
           obtain ⟨v, hv⟩ : ∃ v, gs[n]? = some v := ⟨_, List.getElem?_eq_getElem hlt⟩
           have hA := (HE.out wr HO.out).dgs.at_ n v hv
           obtain ⟨bx, off, ea', k10, kr⟩ := hA
           have HRW : Hid (∀ w', Off (fun c => ¬ c < N) wr w' → RowD w' v.a v.cap v.ds) := fun w' o => by
            obtain ⟨_, _, _, _, r⟩ := (HE.out w' (HO.out.trans o (fun _ _ h => h))).dgs.at_ n v hv
            exact r
           clear kr
           have ea'' : da = some ⟨bx, off, none⟩ := ea'
           clear ea'
           subst ea''
           obtain ⟨k0, k1, k2, k3, k4, k5, k6, k7, k8, k9⟩ := dg10 k10
           clear k10
           have hix := idx_dgs hlt
           have HV : Hid _ := hv
           have HV2 : Hid _ := HR.out.2.2.2.1 (by simp) v (List.mem_of_getElem? hv)
           clear hv
           go_upto_region 28 with fail
           have CN := Cel.new wr 49 #[.string v.key, .int .i64 (v.f 0), .int .i64 (v.f 1), .int .i64 (v.f 2), .int .i64 (v.f 3), .int .i64 (v.f 4), .int .i64 (v.f 5), .int .i64 (v.f 6), .int .i64 (v.f 7), .slice v.a v.ds.length v.cap]
           have ON : Off (fun _ => False) wr (wr.alloc (.cells #[.string v.key, .int .i64 (v.f 0), .int .i64 (v.f 1), .int .i64 (v.f 2), .int .i64 (v.f 3), .int .i64 (v.f 4), .int .i64 (v.f 5), .int .i64 (v.f 6), .int .i64 (v.f 7), .slice v.a v.ds.length v.cap] 49)) := (Off.refl _ wr).alloc _
           generalize hvv : wr.alloc (.cells #[.string v.key, .int .i64 (v.f 0), .int .i64 (v.f 1), .int .i64 (v.f 2), .int .i64 (v.f 3), .int .i64 (v.f 4), .int .i64 (v.f 5), .int .i64 (v.f 6), .int .i64 (v.f 7), .slice v.a v.ds.length v.cap] 49) = v1 at CN ON ⊢
           obtain ⟨pb, hpp⟩ : ∃ pb, pb = wr.heap.size := ⟨_, rfl⟩
           rw [← hpp] at CN ⊢
           have z0 := CN.cell 0
           have z1 := CN.cell 1
           have z2 := CN.cell 2
           have z3 := CN.cell 3
           have z4 := CN.cell 4
           have z5 := CN.cell 5
           have z6 := CN.cell 6
           have z7 := CN.cell 7
           have z8 := CN.cell 8
           have z9 := CN.cell 9
           simp at z0 z1 z2 z3 z4 z5 z6 z7 z8 z9
           have HQ1 : Hid _ := WqF.off HQ.out ON
           have HON : Hid (Off (fun c => ¬ c < N) wr v1) := ON.mono (fun _ _ h => h.elim)
           clear hvv hpp k0 k1 k2 k3 k4 k5 k6 k7 k8 k9 hix CN ON
           go_wp2_with fail
           refine (fq1D HQ1.out (by decide) v HV2.out (fun w1 o1 => HRW.out w1 (HON.out.trans o1 (fun _ _ h => h)))).mono ?_
           rintro e w2 ⟨rfl, hq, o2⟩
           clear z0 z1 z2 z3 z4 z5 z6 z7 z8 z9
           have HQ2 : Hid _ := hq
           have HO2 : Hid _ := (HO.out.trans HON.out (fun _ _ h => h)).trans o2 (fun _ _ h => h)
           clear hq o2 HQ1
           go_wp2_with fail
           go_roundw
           case rel => exact ⟨n + 1, by go_num, by omega, by rw [wrGs_step HV.out]; exact HQ2.out, HO2.out⟩
           case measure => simp [intOf]; omega
          ·obtain rfl : n = gs.length := by omega
           have g1b : decide ((gs.length : Int) < (gs.length : Int)) = false := decide_eq_false (by omega)
           have g2b : decide (gs.length < gs.length) = false := decide_eq_false (by omega)
           rw [List.take_length] at HQ
           go_wp2_with fail
           go_meet
           case rel => exact ⟨by rw [show s9 = _ from HS.out]; show Wq _ _ _ _ (wrGs 60000 (putS 60000 s8 (numB ((gs.map G.abs)).length)) _) _; rw [List.length_map]; exact HQ.out, HO.out⟩
       case rest =>
        clear HQ HO
        obtain ⟨HQ, HO⟩ := hcut
        have bt := HV6.out.1
        have bn := HV6.out.2
        obtain ⟨s10, hs⟩ : ∃ x, x = wrMS 60000 sn (mdOf (⟨k, fr, tn, op, fo, key, bk, ea, es.length, ec, da, gs.length, dc, ma, ms.length, mc⟩ : Mg) es gs ms) s9 := ⟨_, rfl⟩
        have HS10 : Hid (s10 = wrMS 60000 sn (mdOf (⟨k, fr, tn, op, fo, key, bk, ea, es.length, ec, da, gs.length, dc, ma, ms.length, mc⟩ : Mg) es gs ms) s9) := hs
        clear hs
        go_upto_if 108 with fail
        clear bt bn
        go_cut [] from 108 to 131 (fun wx => Hid (Wq FW (fun c => c < N) q 60000 s10 wx) ∧ Hid (Off (fun c => ¬ c < N) V wx))
        case first =>
         have HS := HS10
         have m6 := (HMB.out.off HO.out (fun e => e HPN.out)).cell 9
         simp at m6
         have hwl := len_wrap ms HLN6.out
         have hlq : ms.length ≤ 9223372036854775807 := HLN6.out
         cases sn
         ·go_wp2_with fail
          go_meet
          case rel => exact ⟨by rw [show s10 = _ from HS.out]; exact HQ.out, HO.out⟩
         ·go_wp2_with fail
          refine (fqNum HQ.out (by decide) ms.length (by omega)).mono ?_
          rintro e w5 ⟨rfl, hq, o5⟩
          have HQ5 : Hid _ := hq
          have HO5 : Hid _ := HO.out.trans o5 (fun _ _ h => h)
          clear hq o5 m6 hwl
          have m6 := (HMB.out.off HO5.out (fun e => e HPN.out)).cell 9
          simp at m6
          go_wp2_with fail
          go_loopw [118] (fun y wr => ∃ n : Nat, y = .int .i64 (n : Int) ∧ n ≤ ms.length ∧ Hid (Wq FW (fun c => c < N) q 60000 (wrMs 60000 (putS 60000 s9 (numB ms.length)) (ms.take n)) wr) ∧ Hid (Off (fun c => ¬ c < N) V wr)) (fun y _ => (ms.length - intOf y).toNat)
          case atStart => exact ⟨0, rfl, by omega, HQ5.out, HO5.out⟩
          case round =>
           clear HQ5 HO5 HQ HO m6
           obtain ⟨n, rfl, hn, HQ, HO⟩ := hrel
           by_cases hlt : n < ms.length
           ·have g1b : decide ((n : Int) < (ms.length : Int)) = true := decide_eq_true (by omega)
            have g2b : decide (n < ms.length) = true := decide_eq_true hlt
            obtain ⟨v, hv⟩ : ∃ v, ms[n]? = some v := ⟨_, List.getElem?_eq_getElem hlt⟩
            have hA := (HE.out wr HO.out).mbs.at_ n v hv
            obtain ⟨bx, off, ea', k0, k1⟩ := hA
            have ea'' : ma = some ⟨bx, off, none⟩ := ea'
            clear ea'
            subst ea''
            have hix := idx_mems hlt
            have HV : Hid _ := hv
            have HV2 : Hid _ := HR.out.2.2.2.2 (by simp) v (List.mem_of_getElem? hv)
            clear hv
            go_upto_region 35 with fail
            have CN := Cel.new wr 60 #[.int .i64 v.1, .int .i64 v.2]
            have ON : Off (fun _ => False) wr (wr.alloc (.cells #[.int .i64 v.1, .int .i64 v.2] 60)) := (Off.refl _ wr).alloc _
            generalize hvv : wr.alloc (.cells #[.int .i64 v.1, .int .i64 v.2] 60) = v1 at CN ON ⊢
            obtain ⟨pb, hpp⟩ : ∃ pb, pb = wr.heap.size := ⟨_, rfl⟩
            rw [← hpp] at CN ⊢
            have z0 := CN.cell 0
            have z1 := CN.cell 1
            simp at z0 z1
            have HQ1 : Hid (Wq FW (fun c => c < N ∨ c = pb) q 60000 _ v1) := WqF.more HQ.out ON (fun c hc => hc.imp id (fun e => ⟨by omega, by rw [e]; exact CN.lt⟩))
            have HON : Hid (Off (fun c => ¬ c < N) wr v1) := ON.mono (fun _ _ h => h.elim)
            have HCN : Hid _ := CN
            clear hvv hpp k0 k1 hix CN ON
            have hu := u64_wrap v.1
            go_wp2_with fail
            refine (fqNum HQ1.out (by decide) (u64N v.1) (u64N_lt v.1)).mono ?_
            rintro e w2 ⟨rfl, hq, o2⟩
            clear z0 z1 hu
            have HQ2 : Hid _ := hq
            have HCN2 := HCN.out.off o2 (fun e => e (.inr rfl))
            have HO2 : Hid (Off (fun c => ¬ c < N) wr w2) := HON.out.trans o2 (fun c _ h h2 => h (.inl h2))
            have z1 := HCN2.cell 1
            simp at z1
            clear hq o2 HQ1 HCN2
            go_wp2_with fail
            refine (fqInt HQ2.out (by decide) v.2 (by have := mb_of HV2.out; omega) (by have := mb_of HV2.out; omega)).mono ?_
            rintro e w3 ⟨rfl, hq, o3⟩
            clear z1
            have HQ2' : Hid _ := WqF.less hq (fun c h => .inl h)
            have HO2' : Hid _ := HO.out.trans (HO2.out.trans o3 (fun c _ h h2 => h (.inl h2))) (fun _ _ h => h)
            clear hq o3 HQ2 HO2
            have HQ2 : Hid _ := HQ2'.out
            have HO2 : Hid _ := HO2'.out
            clear HQ2' HO2'
            go_wp2_with fail
            go_roundw
            case rel => exact ⟨n + 1, by go_num, by omega, by rw [wrMs_step HV.out]; exact HQ2.out, HO2.out⟩
            case measure => simp [intOf]; omega
           ·obtain rfl : n = ms.length := by omega
            have g1b : decide ((ms.length : Int) < (ms.length : Int)) = false := decide_eq_false (by omega)
            have g2b : decide (ms.length < ms.length) = false := decide_eq_false (by omega)
            rw [List.take_length] at HQ
            go_wp2_with fail
            go_meet
            case rel => exact ⟨by rw [show s10 = _ from HS.out]; exact HQ.out, HO.out⟩
        case rest =>
         clear HQ HO
         obtain ⟨HQ, HO⟩ := hcut
         have HST : Hid (s10 = wrMsg 60000 (some []) (msk d.k) d) := by
          show s10 = _
          rw [HWP.out, show s10 = _ from HS10.out, show s9 = _ from HS9.out, show s8 = _ from HS8.out, show s7 = _ from HS7.out, show s6 = _ from HS6.out, show s5 = _ from HS5.out, show s4 = _ from HS4.out, show s3 = _ from HS3.out]
          rfl
         have HOF : Hid (Off (fun _ => False) w wc) := HOV.out.trans HO.out (fun c hc h => h (by have := HNW.out; omega))
         obtain ⟨D, hF, hD⟩ := HQ.out.ex
         rcases hF.is with ⟨e, t9, n9, c9, c0⟩ | ⟨bs, tad, cap, e, c0, own, hb⟩
         ·have y2 := c0.cell 2
          simp at y2
          have HE0 : Hid (s10 = none) := e
          clear e c0 hF hD
          go_wp2_with fail
          refine bodyPost_ret (results_tmp2 rfl _ _ _) rfl ?_
          exact ⟨none, 0, [], 4, rfl, ⟨.inr ⟨HMAY.out, by rw [← HST.out, HE0.out]; rfl, by rw [← HST.out, HE0.out]; rfl⟩⟩, OwnR.nil _, fun k hk => by simp [blk] at hk, HOF.out⟩
         ·have y2 := c0.cell 2
          have y0 := c0.cell 0
          simp at y0 y2
          have HE0 : Hid (s10 = some bs) := e
          have HW9 : Hid _ := own
          have HLO : Hid (∀ k, blk tad = some k → w.heap.size ≤ k) := fun k hk => by have := hD k (hb k hk).1; have := HNW.out; omega
          clear e c0 hF hD own hb
          go_wp2_with fail
          refine bodyPost_ret (results_tmp2 rfl _ _ _) rfl ?_
          exact ⟨tad, cap, bs, 0, rfl, ⟨.inr ⟨HMAY.out, by rw [← HST.out, HE0.out]; rfl, by rw [← HST.out, HE0.out]; rfl⟩⟩, HW9.out, HLO.out, HOF.out⟩
end Go.Proofs.YtmbphlkohlggfaaGreat
