/- Items of several texts. -/
import Derived.Test.YtmbphlkohlggfaaDMay20
import Derived.Test.YtmbphlkohlggfaaDWs20
namespace Go.Proofs.Ytmbphlkohlggfaa
set_option maxRecDepth 100000
open Go.RowKit
theorem znode_any (n : Int) (w : World) : Calls Try.prog 38 #[.int .i64 n] w fun e w' => e = .returned (.bool (ndB n)) ∧ w' = w := by
 by_cases h1 : 0 ≤ n
 ·have e1 : decide (0 ≤ n) = true := decide_eq_true h1
  have HE : Hid (ndB n = decide (n < 8)) := by show _ = _; unfold ndB; rw [e1]; rfl
  go_enter Try.func38, Try.ntmps38
  go_wp2_with fail
  go_ret
  exact ⟨by rw [HE.out]; rfl, rfl⟩
 ·have e1 : decide (0 ≤ n) = false := decide_eq_false h1
  have HE : Hid (ndB n = false) := by show _ = _; unfold ndB; rw [e1]; rfl
  go_enter Try.func38, Try.ntmps38
  go_wp2_with fail
  go_ret
  exact ⟨by rw [HE.out]; rfl, rfl⟩
theorem hsK_zero {k : Int} : hsK k = 0 ↔ ¬ (1 ≤ k ∧ k ≤ 9) := by
 unfold hsK
 repeat' split
 all_goals omega
structure NumM (k op fo : Int) (key : ByteArray) (bk : Int) (ne ng nm : Nat) : Prop where
 op : 0 ≤ op ∧ op ≤ 1099511627776
 fo : ndB fo = true
 key : cond (decide (k = 4)) (keyB key) (decide (key.size ≤ 32)) = true
 bk : 0 ≤ bk ∧ bk < 4
 lo : eLo k ≤ (ne : Int)
 hi : (ne : Int) ≤ eHi k
 gl : ng ≤ 256
 ml : nm ≤ 8
theorem empty_iff (s : ByteArray) : s.toList.isEmpty = true ↔ s.size = 0 := by
 rw [List.isEmpty_iff, toL]
 obtain ⟨⟨l⟩⟩ := s
 simp [ByteArray.size]
theorem num_bad {k op fo bk : Int} {key : ByteArray} {ne ng nm : Nat} : ((((((((((op < 0 ∨ 1099511627776 < op) ∨ ndB fo = false) ∨ 32 < key.size) ∨ k = 4 ∧ key.size = 0) ∨ bk < 0) ∨ 4 ≤ bk) ∨ eHi k < (ne : Int)) ∨ k = 3 ∧ ne ≠ 1) ∨ 256 < ng) ∨ 8 < nm) ↔ ¬ NumM k op fo key bk ne ng nm := by
 have hk : cond (decide (k = 4)) (keyB key) (decide (key.size ≤ 32)) = true ↔ key.size ≤ 32 ∧ (k = 4 → 1 ≤ key.size) := by
  by_cases h : k = 4
  ·rw [decide_eq_true h]
   simp [keyB, h]
   omega
  ·rw [decide_eq_false h]
   simp [h]
 have hh : k = 3 → eHi k = 1 := fun h => by unfold eHi; rw [if_pos (.inl h)]
 have hl : eLo k ≤ (ne : Int) ↔ (k = 3 → 1 ≤ ne) := by
  unfold eLo
  split <;> omega
 constructor
 ·intro h hn
  have h3 := hk.1 hn.key
  have h4 := hl.1 hn.lo
  have h5 := hn.hi
  have h6 := hn.op
  have h7 := hn.fo
  have h8 := hn.bk
  have h9 := hn.gl
  have h10 := hn.ml
  rw [h7] at h
  rcases h with (((((((((h | h) | h) | h) | h) | h) | h) | h) | h) | h) | h
  all_goals first | omega | (have := hh h.1; omega) | (cases h)
 ·intro h
  refine Classical.byContradiction (fun hc => h ?_)
  simp only [not_or, not_and] at hc
  obtain ⟨⟨⟨⟨⟨⟨⟨⟨⟨⟨h1, h2⟩, h3⟩, h4⟩, h5⟩, h6⟩, h7⟩, h8⟩, h9⟩, h10⟩, h11⟩ := hc
  refine ⟨by omega, by simpa using h3, hk.2 ⟨by omega, fun e => by have := h5 e; omega⟩, by omega, hl.2 (fun e => by have := h9 e; omega), by omega, by omega, by omega⟩
theorem may_num {k fr tn op fo : Int} {key : ByteArray} {bk : Int} {ea da ma : Option Addr} {ec dc mc : Nat} {e1 : List E} {g1 : List G} {m1 : List (Int × Int)} :
  MayM (mdOf (⟨k, fr, tn, op, fo, key, bk, ea, e1.length, ec, da, g1.length, dc, ma, m1.length, mc⟩ : Mg) e1 g1 m1) ↔ (1 ≤ k ∧ k ≤ 9) ∧ ndB fr = true ∧ ndB tn = true ∧ NumM k op fo key bk e1.length g1.length m1.length ∧ (∀ v ∈ e1, (keyB v.key && mayS v.f (cont v.l)) = true) ∧ (∀ v ∈ g1, mayD ⟨v.key, v.f, v.ds⟩ = true) ∧ ∀ v ∈ m1, mbB v.1 v.2 = true := by
 have le : (mdOf (⟨k, fr, tn, op, fo, key, bk, ea, e1.length, ec, da, g1.length, dc, ma, m1.length, mc⟩ : Mg) e1 g1 m1).es.length = e1.length := List.length_map ..
 have lg : (mdOf (⟨k, fr, tn, op, fo, key, bk, ea, e1.length, ec, da, g1.length, dc, ma, m1.length, mc⟩ : Mg) e1 g1 m1).gs.length = g1.length := List.length_map ..
 constructor
 ·intro h
  exact ⟨h.k, h.fr, h.tn, ⟨h.op, h.fo, h.key, h.bk, by have := h.lo; rwa [le] at this, by have := h.hi; rwa [le] at this, by have := h.gl; rwa [lg] at this, h.ml⟩, allE_iff.1 h.es, allG_iff.1 h.gs, h.ms⟩
 ·rintro ⟨h1, h2, h3, h4, h5, h6, h7⟩
  exact ⟨h1, h2, h3, h4.op, h4.fo, h4.key, h4.bk, by rw [le]; exact h4.lo, by rw [le]; exact h4.hi, allE_iff.2 h5, by rw [lg]; exact h4.gl, allG_iff.2 h6, h4.ml, h7⟩
set_option maxHeartbeats 8000000 in
theorem zmay_core (m X : Mg) (e1 : List E) (g1 : List G) (m1 : List (Int × Int)) (w : World) (hx : MsgAt w X e1 g1 m1) (hk : X.k = m.k) (hf : X.fr = m.fr) (ht : X.tn = m.tn) (hb : ∀ W, Calls Try.prog 11 #[(.agg #[.int .i64 m.k, .int .i64 m.fr, .int .i64 m.tn, .int .i64 m.op, .int .i64 m.fo, .string m.key, .int .i64 m.bk, .slice m.ea m.el m.ec, .slice m.da m.dl m.dc, .slice m.ma m.ml m.mc])] W fun e w' => e = .returned ((.agg #[.int .i64 X.k, .int .i64 X.fr, .int .i64 X.tn, .int .i64 X.op, .int .i64 X.fo, .string X.key, .int .i64 X.bk, .slice X.ea X.el X.ec, .slice X.da X.dl X.dc, .slice X.ma X.ml X.mc])) ∧ Off (fun _ => False) W w') :
  Calls Try.prog 13 #[(.agg #[.int .i64 m.k, .int .i64 m.fr, .int .i64 m.tn, .int .i64 m.op, .int .i64 m.fo, .string m.key, .int .i64 m.bk, .slice m.ea m.el m.ec, .slice m.da m.dl m.dc, .slice m.ma m.ml m.mc])] w fun e w' => Yes (MayM (mdOf X e1 g1 m1)) e ∧ Off (fun _ => False) w w' := by
 have HB : Hid (∀ W, Calls Try.prog 11 #[(.agg #[.int .i64 m.k, .int .i64 m.fr, .int .i64 m.tn, .int .i64 m.op, .int .i64 m.fo, .string m.key, .int .i64 m.bk, .slice m.ea m.el m.ec, .slice m.da m.dl m.dc, .slice m.ma m.ml m.mc])] W fun e w' => e = .returned ((.agg #[.int .i64 X.k, .int .i64 X.fr, .int .i64 X.tn, .int .i64 X.op, .int .i64 X.fo, .string X.key, .int .i64 X.bk, .slice X.ea X.el X.ec, .slice X.da X.dl X.dc, .slice X.ma X.ml X.mc])) ∧ Off (fun _ => False) W w') := hb
 have HMK : Hid (m.k = X.k ∧ m.fr = X.fr ∧ m.tn = X.tn) := ⟨hk.symm, hf.symm, ht.symm⟩
 clear hk hf ht hb
 obtain ⟨k, fr, tn, op, fo, key, bk, ea, el, ec, da, dl, dc, ma, ml, mc⟩ := X
 obtain rfl : el = e1.length := hx.el
 obtain rfl : dl = g1.length := hx.dl
 obtain rfl : ml = m1.length := hx.ml
 obtain ⟨hmk, hmf, hmt⟩ : m.k = k ∧ m.fr = fr ∧ m.tn = tn := HMK.out
 clear HMK
 show Calls Try.prog 13 #[(.agg #[.int .i64 m.k, .int .i64 m.fr, .int .i64 m.tn, .int .i64 m.op, .int .i64 m.fo, .string m.key, .int .i64 m.bk, .slice m.ea m.el m.ec, .slice m.da m.dl m.dc, .slice m.ma m.ml m.mc])] w fun e w' => Yes (MayM (mdOf (⟨k, fr, tn, op, fo, key, bk, ea, e1.length, ec, da, g1.length, dc, ma, m1.length, mc⟩ : Mg) e1 g1 m1)) e ∧ Off (fun _ => False) w w'
 obtain ⟨d, hd⟩ : ∃ d, d = mdOf (⟨k, fr, tn, op, fo, key, bk, ea, e1.length, ec, da, g1.length, dc, ma, m1.length, mc⟩ : Mg) e1 g1 m1 := ⟨_, rfl⟩
 rw [← hd]
 obtain ⟨N, hN⟩ : ∃ N : Prop, N = NumM k op fo key bk e1.length g1.length m1.length := ⟨_, rfl⟩
 have HD : Hid (MayM d ↔ (1 ≤ k ∧ k ≤ 9) ∧ ndB fr = true ∧ ndB tn = true ∧ N ∧ (∀ v ∈ e1, (keyB v.key && mayS v.f (cont v.l)) = true) ∧ (∀ v ∈ g1, mayD ⟨v.key, v.f, v.ds⟩ = true) ∧ ∀ v ∈ m1, mbB v.1 v.2 = true) := by
  show _ ↔ _
  rw [hd, hN]
  exact may_num
 have HNN : Hid (N = NumM k op fo key bk e1.length g1.length m1.length) := hN
 generalize hP : MayM d = P at HD
 have HP : Hid (MayM d = P) := hP
 clear hP hd hN
 obtain ⟨hi, hhi⟩ : ∃ hi, hi = eHi k := ⟨_, rfl⟩
 have HHI : Hid (hi = eHi k) := hhi
 obtain ⟨hh, hhh⟩ : ∃ hh, hh = hsK k := ⟨_, rfl⟩
 have HHH : Hid (hh = hsK k) := hhh
 have HHS : Hid (∀ W, Calls Try.prog 28 #[.int .i64 k] W fun e w' => e = .returned (.int .i64 hh) ∧ w' = W) := fun W => by rw [hhh]; exact has_any k W
 clear hhi hhh
 have CM : (#[.int .i64 m.k, .int .i64 m.fr, .int .i64 m.tn, .int .i64 m.op, .int .i64 m.fo, .string m.key, .int .i64 m.bk, .slice m.ea m.el m.ec, .slice m.da m.dl m.dc, .slice m.ma m.ml m.mc] : Array Value) = #[.int .i64 k, .int .i64 fr, .int .i64 tn, .int .i64 m.op, .int .i64 m.fo, .string m.key, .int .i64 m.bk, .slice m.ea m.el m.ec, .slice m.da m.dl m.dc, .slice m.ma m.ml m.mc] := by rw [hmk, hmf, hmt]
 rw [show (Value.agg #[.int .i64 m.k, .int .i64 m.fr, .int .i64 m.tn, .int .i64 m.op, .int .i64 m.fo, .string m.key, .int .i64 m.bk, .slice m.ea m.el m.ec, .slice m.da m.dl m.dc, .slice m.ma m.ml m.mc]) = .agg #[.int .i64 k, .int .i64 fr, .int .i64 tn, .int .i64 m.op, .int .i64 m.fo, .string m.key, .int .i64 m.bk, .slice m.ea m.el m.ec, .slice m.da m.dl m.dc, .slice m.ma m.ml m.mc] from by rw [CM]] at HB ⊢
 clear CM hmk hmf hmt
 have C0 := Cel.new w 26 #[.int .i64 k, .int .i64 fr, .int .i64 tn, .int .i64 m.op, .int .i64 m.fo, .string m.key, .int .i64 m.bk, .slice m.ea m.el m.ec, .slice m.da m.dl m.dc, .slice m.ma m.ml m.mc]
 have O0 : Off (fun _ => False) w (w.alloc (.cells #[.int .i64 k, .int .i64 fr, .int .i64 tn, .int .i64 m.op, .int .i64 m.fo, .string m.key, .int .i64 m.bk, .slice m.ea m.el m.ec, .slice m.da m.dl m.dc, .slice m.ma m.ml m.mc] 26)) := (Off.refl _ w).alloc _
 have HX : Hid _ := hx
 clear hx
 go_enter Try.func13, Try.ntmps13
 go_upto_region 1 with fail
 generalize hv : w.alloc (.cells #[.int .i64 k, .int .i64 fr, .int .i64 tn, .int .i64 m.op, .int .i64 m.fo, .string m.key, .int .i64 m.bk, .slice m.ea m.el m.ec, .slice m.da m.dl m.dc, .slice m.ma m.ml m.mc] 26) = W at C0 O0 ⊢
 obtain ⟨b, hb⟩ : ∃ b, b = w.heap.size := ⟨_, rfl⟩
 rw [← hb] at C0 ⊢
 have HBW : Hid (w.heap.size ≤ b) := by show _ ≤ _; omega
 clear hv hb
 obtain ⟨x0, x1, x2, x3, x4, x5, x6, x7, x8, x9⟩ := celw10 C0
 have HC0 : Hid _ := C0
 have HO : Hid _ := O0
 clear C0 O0
 go_wp2_with fail
 refine (HHS.out _).mono ?_
 rintro e w1 ⟨rfl, hw⟩
 rw [hw]
 clear hw w1
 by_cases h0 : hh = 0
 ·have d0 : (hh == (0 : Int)) = true := by rw [h0]; rfl
  have HZ : Hid (¬ (1 ≤ k ∧ k ≤ 9)) := hsK_zero.1 (by rw [← HHH.out]; exact h0)
  clear h0
  go_wp2_with fail
  go_ret
  exact ⟨.mk' false (by rw [HD.out]; exact ⟨fun h => (by cases h), fun h => absurd h.1 HZ.out⟩), HO.out⟩
 have d0 : (hh == (0 : Int)) = false := by rw [beq_eq_false_iff_ne]; exact h0
 have HK : Hid (1 ≤ k ∧ k ≤ 9) := Classical.byContradiction (fun h => h0 (by rw [HHH.out]; exact hsK_zero.2 h))
 clear h0
 go_wp2_with fail
 refine (znode_any fr _).mono ?_
 rintro e w2 ⟨rfl, hw⟩
 rw [hw]
 clear hw w2
 cases hnfr : ndB fr
 ·go_wp2_with fail
  go_ret
  exact ⟨.mk' false (by rw [HD.out]; exact ⟨fun h => (by cases h), fun h => absurd h.2.1 (by rw [hnfr]; decide)⟩), HO.out⟩
 go_wp2_with fail
 refine (znode_any tn _).mono ?_
 rintro e w2 ⟨rfl, hw⟩
 rw [hw]
 clear hw w2
 cases hntn : ndB tn
 ·go_wp2_with fail
  go_ret
  exact ⟨.mk' false (by rw [HD.out]; exact ⟨fun h => (by cases h), fun h => absurd h.2.2.1 (by rw [hntn]; decide)⟩), HO.out⟩
 go_wp2_with fail
 refine (HB.out _).mono ?_
 rintro e w3 ⟨rfl, o3⟩
 clear x0 x1 x2 x3 x4 x5 x6 x7 x8 x9 d0 HB
 have C1 := HC0.out.off o3 (fun h => h)
 obtain ⟨x0, x1, x2, x3, x4, x5, x6, x7, x8, x9⟩ := celw10 C1
 have fz := C1.free
 have HC1 : Hid _ := C1
 have HO1 : Hid _ := HO.out.trans o3 (fun _ _ h => h)
 clear C1 o3 HC0 HO
 go_upto_region 6 with fail
 have C2 : Cel b 26 #[.int .i64 k, .int .i64 fr, .int .i64 tn, .int .i64 op, .int .i64 fo, .string key, .int .i64 bk, .slice ea e1.length ec, .slice da g1.length dc, .slice ma m1.length mc] ((((((((((w3.setCell ⟨b, 0, none⟩ (.int .i64 k)).setCell ⟨b, 1, none⟩ (.int .i64 fr)).setCell ⟨b, 2, none⟩ (.int .i64 tn)).setCell ⟨b, 3, none⟩ (.int .i64 op)).setCell ⟨b, 4, none⟩ (.int .i64 fo)).setCell ⟨b, 5, none⟩ (.string key)).setCell ⟨b, 6, none⟩ (.int .i64 bk)).setCell ⟨b, 7, none⟩ (.slice ea e1.length ec)).setCell ⟨b, 8, none⟩ (.slice da g1.length dc)).setCell ⟨b, 9, none⟩ (.slice ma m1.length mc)) := HC1.out.wrwAll (vs := [.int .i64 k, .int .i64 fr, .int .i64 tn, .int .i64 op, .int .i64 fo, .string key, .int .i64 bk, .slice ea e1.length ec, .slice da g1.length dc, .slice ma m1.length mc]) rfl
 have O2 : Off (fun _ => False) w ((((((((((w3.setCell ⟨b, 0, none⟩ (.int .i64 k)).setCell ⟨b, 1, none⟩ (.int .i64 fr)).setCell ⟨b, 2, none⟩ (.int .i64 tn)).setCell ⟨b, 3, none⟩ (.int .i64 op)).setCell ⟨b, 4, none⟩ (.int .i64 fo)).setCell ⟨b, 5, none⟩ (.string key)).setCell ⟨b, 6, none⟩ (.int .i64 bk)).setCell ⟨b, 7, none⟩ (.slice ea e1.length ec)).setCell ⟨b, 8, none⟩ (.slice da g1.length dc)).setCell ⟨b, 9, none⟩ (.slice ma m1.length mc)) := off_wrw (g := b) (us := [.int .i64 k, .int .i64 fr, .int .i64 tn, .int .i64 op, .int .i64 fo, .string key, .int .i64 bk, .slice ea e1.length ec, .slice da g1.length dc, .slice ma m1.length mc]) HO1.out (.inr HBW.out)
 generalize ((((((((((w3.setCell ⟨b, 0, none⟩ (.int .i64 k)).setCell ⟨b, 1, none⟩ (.int .i64 fr)).setCell ⟨b, 2, none⟩ (.int .i64 tn)).setCell ⟨b, 3, none⟩ (.int .i64 op)).setCell ⟨b, 4, none⟩ (.int .i64 fo)).setCell ⟨b, 5, none⟩ (.string key)).setCell ⟨b, 6, none⟩ (.int .i64 bk)).setCell ⟨b, 7, none⟩ (.slice ea e1.length ec)).setCell ⟨b, 8, none⟩ (.slice da g1.length dc)).setCell ⟨b, 9, none⟩ (.slice ma m1.length mc)) = V at C2 O2 ⊢
 clear x0 x1 x2 x3 x4 x5 x6 x7 x8 x9 fz HC1 HO1
 obtain ⟨x0, x1, x2, x3, x4, x5, x6, x7, x8, x9⟩ := celw10 C2
 have HC : Hid _ := C2
 have HO : Hid _ := O2
 have HM : Hid _ := HX.out.off O2
 clear C2 O2 HX
 go_cut [42] from 30 to 42 (fun y wx => y = .bool (decide (k = 3 ∨ k = 2 ∨ k = 5)) ∧ wx = V)
 case first =>
  by_cases h3 : k = 3
  ·have e3 : (k == (3 : Int)) = true := by rw [beq_iff_eq]; exact h3
   have HD1 : Hid (decide (k = 3 ∨ k = 2 ∨ k = 5) = true) := decide_eq_true (.inl h3)
   clear h3
   go_wp2_with fail
   go_meet
   case rel => exact ⟨by rw [HD1.out], rfl⟩
  have e3 : (k == (3 : Int)) = false := by rw [beq_eq_false_iff_ne]; exact h3
  by_cases h5 : k = 5
  ·have e5 : (k == (5 : Int)) = true := by rw [beq_iff_eq]; exact h5
   have HD1 : Hid (decide (k = 3 ∨ k = 2 ∨ k = 5) = true) := decide_eq_true (.inr (.inr h5))
   clear h3 h5
   go_wp2_with fail
   go_meet
   case rel => exact ⟨by rw [HD1.out], rfl⟩
  have e5 : (k == (5 : Int)) = false := by rw [beq_eq_false_iff_ne]; exact h5
  by_cases h2 : k = 2
  ·have e2 : (k == (2 : Int)) = true := by rw [beq_iff_eq]; exact h2
   have HD1 : Hid (decide (k = 3 ∨ k = 2 ∨ k = 5) = true) := decide_eq_true (.inr (.inl h2))
   clear h2 h3 h5
   go_wp2_with fail
   go_meet
   case rel => exact ⟨by rw [HD1.out], rfl⟩
  ·have e2 : (k == (2 : Int)) = false := by rw [beq_eq_false_iff_ne]; exact h2
   have HD1 : Hid (decide (k = 3 ∨ k = 2 ∨ k = 5) = false) := decide_eq_false (fun h => h.elim h3 (fun h => h.elim h2 h5))
   clear h2 h3 h5
   go_wp2_with fail
   go_meet
   case rel => exact ⟨by rw [HD1.out], rfl⟩
 case rest =>
  obtain ⟨rfl, hwc⟩ := hcut
  rw [hwc]
  clear hwc
  go_upto_if 42 with fail
  go_cut [4] from 42 to 42 (fun y wx => y = .int .i64 hi ∧ wx = V)
  case first =>
   by_cases h : k = 3 ∨ k = 2 ∨ k = 5
   ·have e : decide (k = 3 ∨ k = 2 ∨ k = 5) = true := decide_eq_true h
    have HI1 : Hid (hi = 1) := by show _ = _; rw [HHI.out]; exact if_pos h
    clear h
    rw [e]
    clear e
    go_wp2_with fail
    go_meet
    case rel => exact ⟨by rw [HI1.out], rfl⟩
   ·have e : decide (k = 3 ∨ k = 2 ∨ k = 5) = false := decide_eq_false h
    have HI1 : Hid (hi = 256) := by show _ = _; rw [HHI.out]; exact if_neg h
    clear h
    rw [e]
    clear e
    go_wp2_with fail
    go_meet
    case rel => exact ⟨by rw [HI1.out], rfl⟩
  case rest =>
   obtain ⟨rfl, hwc⟩ := hcut
   rw [hwc]
   clear hwc
   go_upto_region 8 with fail
   go_cut [112] from 43 to 112 (fun y wx => ∃ bb : Bool, y = .bool bb ∧ Hid (bb = true ↔ ¬ N) ∧ wx = V)
   case first =>
    obtain ⟨c1, hc1⟩ : ∃ c : Bool, c = decide (op < 0) := ⟨_, rfl⟩
    have Hc1 : Hid (c1 = true ↔ op < 0) := by
     show _ ↔ _
     rw [hc1]
     exact decide_eq_true_iff
    have rc10 : decide (op < 0) = c1 := by
     rw [Bool.eq_iff_iff, Hc1.out]
     first | exact decide_eq_true_iff | (rw [decide_eq_true_iff]; omega) | exact beq_iff_eq | exact bne_iff_ne | (rw [bne_iff_ne]; omega)
    clear hc1
    obtain ⟨c2, hc2⟩ : ∃ c : Bool, c = decide (1099511627776 < op) := ⟨_, rfl⟩
    have Hc2 : Hid (c2 = true ↔ 1099511627776 < op) := by
     show _ ↔ _
     rw [hc2]
     exact decide_eq_true_iff
    have rc20 : decide (1099511627776 < op) = c2 := by
     rw [Bool.eq_iff_iff, Hc2.out]
     first | exact decide_eq_true_iff | (rw [decide_eq_true_iff]; omega) | exact beq_iff_eq | exact bne_iff_ne | (rw [bne_iff_ne]; omega)
    have rc21 : decide (op > 1099511627776) = c2 := by
     rw [Bool.eq_iff_iff, Hc2.out]
     first | exact decide_eq_true_iff | (rw [decide_eq_true_iff]; omega) | exact beq_iff_eq | exact bne_iff_ne | (rw [bne_iff_ne]; omega)
    clear hc2
    obtain ⟨c4, hc4⟩ : ∃ c : Bool, c = decide (32 < key.size) := ⟨_, rfl⟩
    have Hc4 : Hid (c4 = true ↔ 32 < key.size) := by
     show _ ↔ _
     rw [hc4]
     exact decide_eq_true_iff
    have rc40 : decide ((32 : Int) < (key.size : Int)) = c4 := by
     rw [Bool.eq_iff_iff, Hc4.out]
     first | exact decide_eq_true_iff | (rw [decide_eq_true_iff]; omega) | exact beq_iff_eq | exact bne_iff_ne | (rw [bne_iff_ne]; omega)
    have rc41 : decide ((key.size : Int) > 32) = c4 := by
     rw [Bool.eq_iff_iff, Hc4.out]
     first | exact decide_eq_true_iff | (rw [decide_eq_true_iff]; omega) | exact beq_iff_eq | exact bne_iff_ne | (rw [bne_iff_ne]; omega)
    have rc42 : decide (32 < key.size) = c4 := by
     rw [Bool.eq_iff_iff, Hc4.out]
     first | exact decide_eq_true_iff | (rw [decide_eq_true_iff]; omega) | exact beq_iff_eq | exact bne_iff_ne | (rw [bne_iff_ne]; omega)
    clear hc4
    obtain ⟨c5, hc5⟩ : ∃ c : Bool, c = decide (k = 4) := ⟨_, rfl⟩
    have Hc5 : Hid (c5 = true ↔ k = 4) := by
     show _ ↔ _
     rw [hc5]
     exact decide_eq_true_iff
    have rc50 : (k == (4 : Int)) = c5 := by
     rw [Bool.eq_iff_iff, Hc5.out]
     first | exact decide_eq_true_iff | (rw [decide_eq_true_iff]; omega) | exact beq_iff_eq | exact bne_iff_ne | (rw [bne_iff_ne]; omega)
    clear hc5
    obtain ⟨c6, hc6⟩ : ∃ c : Bool, c = decide (key.size = 0) := ⟨_, rfl⟩
    have Hc6 : Hid (c6 = true ↔ key.size = 0) := by
     show _ ↔ _
     rw [hc6]
     exact decide_eq_true_iff
    have rc60 : decide (key.size = 0) = c6 := by
     rw [Bool.eq_iff_iff, Hc6.out]
     first | exact decide_eq_true_iff | (rw [decide_eq_true_iff]; omega) | exact beq_iff_eq | exact bne_iff_ne | (rw [bne_iff_ne]; omega)
    clear hc6
    obtain ⟨c7, hc7⟩ : ∃ c : Bool, c = decide (bk < 0) := ⟨_, rfl⟩
    have Hc7 : Hid (c7 = true ↔ bk < 0) := by
     show _ ↔ _
     rw [hc7]
     exact decide_eq_true_iff
    have rc70 : decide (bk < 0) = c7 := by
     rw [Bool.eq_iff_iff, Hc7.out]
     first | exact decide_eq_true_iff | (rw [decide_eq_true_iff]; omega) | exact beq_iff_eq | exact bne_iff_ne | (rw [bne_iff_ne]; omega)
    clear hc7
    obtain ⟨c8, hc8⟩ : ∃ c : Bool, c = decide (4 ≤ bk) := ⟨_, rfl⟩
    have Hc8 : Hid (c8 = true ↔ 4 ≤ bk) := by
     show _ ↔ _
     rw [hc8]
     exact decide_eq_true_iff
    have rc80 : decide (4 ≤ bk) = c8 := by
     rw [Bool.eq_iff_iff, Hc8.out]
     first | exact decide_eq_true_iff | (rw [decide_eq_true_iff]; omega) | exact beq_iff_eq | exact bne_iff_ne | (rw [bne_iff_ne]; omega)
    have rc81 : decide (bk ≥ 4) = c8 := by
     rw [Bool.eq_iff_iff, Hc8.out]
     first | exact decide_eq_true_iff | (rw [decide_eq_true_iff]; omega) | exact beq_iff_eq | exact bne_iff_ne | (rw [bne_iff_ne]; omega)
    clear hc8
    obtain ⟨c9, hc9⟩ : ∃ c : Bool, c = decide (hi < (e1.length : Int)) := ⟨_, rfl⟩
    have Hc9 : Hid (c9 = true ↔ hi < (e1.length : Int)) := by
     show _ ↔ _
     rw [hc9]
     exact decide_eq_true_iff
    have rc90 : decide (hi < (e1.length : Int)) = c9 := by
     rw [Bool.eq_iff_iff, Hc9.out]
     first | exact decide_eq_true_iff | (rw [decide_eq_true_iff]; omega) | exact beq_iff_eq | exact bne_iff_ne | (rw [bne_iff_ne]; omega)
    have rc91 : decide ((e1.length : Int) > hi) = c9 := by
     rw [Bool.eq_iff_iff, Hc9.out]
     first | exact decide_eq_true_iff | (rw [decide_eq_true_iff]; omega) | exact beq_iff_eq | exact bne_iff_ne | (rw [bne_iff_ne]; omega)
    clear hc9
    obtain ⟨c10, hc10⟩ : ∃ c : Bool, c = decide (k = 3) := ⟨_, rfl⟩
    have Hc10 : Hid (c10 = true ↔ k = 3) := by
     show _ ↔ _
     rw [hc10]
     exact decide_eq_true_iff
    have rc100 : (k == (3 : Int)) = c10 := by
     rw [Bool.eq_iff_iff, Hc10.out]
     first | exact decide_eq_true_iff | (rw [decide_eq_true_iff]; omega) | exact beq_iff_eq | exact bne_iff_ne | (rw [bne_iff_ne]; omega)
    clear hc10
    obtain ⟨c11, hc11⟩ : ∃ c : Bool, c = decide (e1.length ≠ 1) := ⟨_, rfl⟩
    have Hc11 : Hid (c11 = true ↔ e1.length ≠ 1) := by
     show _ ↔ _
     rw [hc11]
     exact decide_eq_true_iff
    have rc110 : ((e1.length : Int) != (1 : Int)) = c11 := by
     rw [Bool.eq_iff_iff, Hc11.out]
     first | exact decide_eq_true_iff | (rw [decide_eq_true_iff]; omega) | exact beq_iff_eq | exact bne_iff_ne | (rw [bne_iff_ne]; omega)
    have rc111 : (e1.length != 1) = c11 := by
     rw [Bool.eq_iff_iff, Hc11.out]
     first | exact decide_eq_true_iff | (rw [decide_eq_true_iff]; omega) | exact beq_iff_eq | exact bne_iff_ne | (rw [bne_iff_ne]; omega)
    clear hc11
    obtain ⟨c12, hc12⟩ : ∃ c : Bool, c = decide (256 < g1.length) := ⟨_, rfl⟩
    have Hc12 : Hid (c12 = true ↔ 256 < g1.length) := by
     show _ ↔ _
     rw [hc12]
     exact decide_eq_true_iff
    have rc120 : decide ((256 : Int) < (g1.length : Int)) = c12 := by
     rw [Bool.eq_iff_iff, Hc12.out]
     first | exact decide_eq_true_iff | (rw [decide_eq_true_iff]; omega) | exact beq_iff_eq | exact bne_iff_ne | (rw [bne_iff_ne]; omega)
    have rc121 : decide ((g1.length : Int) > 256) = c12 := by
     rw [Bool.eq_iff_iff, Hc12.out]
     first | exact decide_eq_true_iff | (rw [decide_eq_true_iff]; omega) | exact beq_iff_eq | exact bne_iff_ne | (rw [bne_iff_ne]; omega)
    have rc122 : decide (256 < g1.length) = c12 := by
     rw [Bool.eq_iff_iff, Hc12.out]
     first | exact decide_eq_true_iff | (rw [decide_eq_true_iff]; omega) | exact beq_iff_eq | exact bne_iff_ne | (rw [bne_iff_ne]; omega)
    clear hc12
    obtain ⟨c13, hc13⟩ : ∃ c : Bool, c = decide (8 < m1.length) := ⟨_, rfl⟩
    have Hc13 : Hid (c13 = true ↔ 8 < m1.length) := by
     show _ ↔ _
     rw [hc13]
     exact decide_eq_true_iff
    have rc130 : decide ((8 : Int) < (m1.length : Int)) = c13 := by
     rw [Bool.eq_iff_iff, Hc13.out]
     first | exact decide_eq_true_iff | (rw [decide_eq_true_iff]; omega) | exact beq_iff_eq | exact bne_iff_ne | (rw [bne_iff_ne]; omega)
    have rc131 : decide ((m1.length : Int) > 8) = c13 := by
     rw [Bool.eq_iff_iff, Hc13.out]
     first | exact decide_eq_true_iff | (rw [decide_eq_true_iff]; omega) | exact beq_iff_eq | exact bne_iff_ne | (rw [bne_iff_ne]; omega)
    have rc132 : decide (8 < m1.length) = c13 := by
     rw [Bool.eq_iff_iff, Hc13.out]
     first | exact decide_eq_true_iff | (rw [decide_eq_true_iff]; omega) | exact beq_iff_eq | exact bne_iff_ne | (rw [bne_iff_ne]; omega)
    clear hc13
    obtain ⟨c3, hc3⟩ : ∃ c, c = ndB fo := ⟨_, rfl⟩
    have HND : Hid (∀ W, Calls Try.prog 38 #[.int .i64 fo] W fun e w' => e = .returned (.bool c3) ∧ w' = W) := fun W => by rw [hc3]; exact znode_any fo W
    have Hc3 : Hid (c3 = ndB fo) := hc3
    clear hc3
    obtain ⟨p2, hp2⟩ : ∃ p, p = (c1 || (c2)) := ⟨_, rfl⟩
    have Hp2 : Hid (p2 = (c1 || (c2))) := hp2
    clear hp2
    obtain ⟨p3, hp3⟩ : ∃ p, p = (p2 || (!c3)) := ⟨_, rfl⟩
    have Hp3 : Hid (p3 = (p2 || (!c3))) := hp3
    clear hp3
    obtain ⟨p4, hp4⟩ : ∃ p, p = (p3 || (c4)) := ⟨_, rfl⟩
    have Hp4 : Hid (p4 = (p3 || (c4))) := hp4
    clear hp4
    obtain ⟨p5, hp5⟩ : ∃ p, p = (p4 || (c5 && c6)) := ⟨_, rfl⟩
    have Hp5 : Hid (p5 = (p4 || (c5 && c6))) := hp5
    clear hp5
    obtain ⟨p6, hp6⟩ : ∃ p, p = (p5 || (c7)) := ⟨_, rfl⟩
    have Hp6 : Hid (p6 = (p5 || (c7))) := hp6
    clear hp6
    obtain ⟨p7, hp7⟩ : ∃ p, p = (p6 || (c8)) := ⟨_, rfl⟩
    have Hp7 : Hid (p7 = (p6 || (c8))) := hp7
    clear hp7
    obtain ⟨p8, hp8⟩ : ∃ p, p = (p7 || (c9)) := ⟨_, rfl⟩
    have Hp8 : Hid (p8 = (p7 || (c9))) := hp8
    clear hp8
    obtain ⟨p9, hp9⟩ : ∃ p, p = (p8 || (c10 && c11)) := ⟨_, rfl⟩
    have Hp9 : Hid (p9 = (p8 || (c10 && c11))) := hp9
    clear hp9
    obtain ⟨p10, hp10⟩ : ∃ p, p = (p9 || (c12)) := ⟨_, rfl⟩
    have Hp10 : Hid (p10 = (p9 || (c12))) := hp10
    clear hp10
    obtain ⟨p11, hp11⟩ : ∃ p, p = (p10 || (c13)) := ⟨_, rfl⟩
    have Hp11 : Hid (p11 = (p10 || (c13))) := hp11
    clear hp11
    have hem : key.toList.isEmpty = c6 := by rw [Bool.eq_iff_iff, Hc6.out]; exact empty_iff key
    refine wp_region_lit ?_
    refine wpl_t 43 (v := .pointer (some ⟨b, 3, none⟩)) (by kernel_rfl) rfl (by go_simp) ?_
    simp only [Act.put, lsA, lsZ, lsS]
    refine wpl_t 44 (v := .int .i64 op) (by kernel_rfl) rfl (by go_simp) ?_
    simp only [Act.put, lsA, lsZ, lsS]
    refine wpl_t 45 (v := .bool c1) (by kernel_rfl) rfl (by go_simp) ?_
    simp only [Act.put, lsA, lsZ, lsS]
    refine wpl_t 46 (v := .bool c1) (by kernel_rfl) rfl (by go_simp) ?_
    simp only [Act.put, lsA, lsZ, lsS]
    refine wpl_g 47 (!c1) (v := .pointer (some ⟨b, 3, none⟩)) (by cases c1 <;> kernel_rfl) rfl (fun hg => by
     have hgy : ∀ v, gy (!c1) v = v := fun v => by rw [hg]; rfl
     have hgt : ∀ v, gy true v = v := fun _ => rfl
     go_simp) ?_
    simp only [Act.put, lsA, lsZ, lsS]
    refine wpl_g 48 (!c1) (v := .int .i64 op) (by cases c1 <;> kernel_rfl) rfl (fun hg => by
     have hgy : ∀ v, gy (!c1) v = v := fun v => by rw [hg]; rfl
     have hgt : ∀ v, gy true v = v := fun _ => rfl
     go_simp) ?_
    simp only [Act.put, lsA, lsZ, lsS]
    refine wpl_g 49 (!c1) (v := .bool c2) (by cases c1 <;> kernel_rfl) rfl (fun hg => by
     have hgy : ∀ v, gy (!c1) v = v := fun v => by rw [hg]; rfl
     have hgt : ∀ v, gy true v = v := fun _ => rfl
     go_simp) ?_
    simp only [Act.put, lsA, lsZ, lsS]
    refine wpl_t 50 (v := .bool p2) (by kernel_rfl) rfl (by rw [Hp2.out]; exact exec_por rfl rfl rfl rfl) ?_
    simp only [Act.put, lsA, lsZ, lsS]
    refine wpl_t 51 (v := .bool p2) (by kernel_rfl) rfl (by go_simp) ?_
    simp only [Act.put, lsA, lsZ, lsS]
    refine wpl_g 52 (!p2) (v := .pointer (some ⟨b, 4, none⟩)) (by cases p2 <;> kernel_rfl) rfl (fun hg => by
     have hgy : ∀ v, gy (!p2) v = v := fun v => by rw [hg]; rfl
     have hgt : ∀ v, gy true v = v := fun _ => rfl
     go_simp) ?_
    simp only [Act.put, lsA, lsZ, lsS]
    refine wpl_g 53 (!p2) (v := .int .i64 fo) (by cases p2 <;> kernel_rfl) rfl (fun hg => by
     have hgy : ∀ v, gy (!p2) v = v := fun v => by rw [hg]; rfl
     have hgt : ∀ v, gy true v = v := fun _ => rfl
     go_simp) ?_
    simp only [Act.put, lsA, lsZ, lsS]
    refine wpl_callg 54 (!p2) (v := .bool c3) (by cases p2 <;> kernel_rfl) rfl (fun hg => by
     have hgy : ∀ v, gy (!p2) v = v := fun v => by rw [hg]; rfl
     have hgt : ∀ v, gy true v = v := fun _ => rfl
     go_simp) (HND.out _) ?_
    simp only [Act.put, lsA, lsZ, lsS]
    refine wpl_g 55 (!p2) (v := .bool (!c3)) (by cases p2 <;> kernel_rfl) rfl (fun hg => by
     have hgy : ∀ v, gy (!p2) v = v := fun v => by rw [hg]; rfl
     have hgt : ∀ v, gy true v = v := fun _ => rfl
     go_simp) ?_
    simp only [Act.put, lsA, lsZ, lsS]
    refine wpl_t 56 (v := .bool p3) (by kernel_rfl) rfl (by rw [Hp3.out]; exact exec_por rfl rfl rfl rfl) ?_
    simp only [Act.put, lsA, lsZ, lsS]
    refine wpl_t 57 (v := .bool p3) (by kernel_rfl) rfl (by go_simp) ?_
    simp only [Act.put, lsA, lsZ, lsS]
    refine wpl_g 58 (!p3) (v := .pointer (some ⟨b, 5, none⟩)) (by cases p3 <;> kernel_rfl) rfl (fun hg => by
     have hgy : ∀ v, gy (!p3) v = v := fun v => by rw [hg]; rfl
     have hgt : ∀ v, gy true v = v := fun _ => rfl
     go_simp) ?_
    simp only [Act.put, lsA, lsZ, lsS]
    refine wpl_g 59 (!p3) (v := .string key) (by cases p3 <;> kernel_rfl) rfl (fun hg => by
     have hgy : ∀ v, gy (!p3) v = v := fun v => by rw [hg]; rfl
     have hgt : ∀ v, gy true v = v := fun _ => rfl
     go_simp) ?_
    simp only [Act.put, lsA, lsZ, lsS]
    refine wpl_g 60 (!p3) (v := .int .i64 (key.size : Int)) (by cases p3 <;> kernel_rfl) rfl (fun hg => by
     have hgy : ∀ v, gy (!p3) v = v := fun v => by rw [hg]; rfl
     have hgt : ∀ v, gy true v = v := fun _ => rfl
     go_simp) ?_
    simp only [Act.put, lsA, lsZ, lsS]
    refine wpl_g 61 (!p3) (v := .bool c4) (by cases p3 <;> kernel_rfl) rfl (fun hg => by
     have hgy : ∀ v, gy (!p3) v = v := fun v => by rw [hg]; rfl
     have hgt : ∀ v, gy true v = v := fun _ => rfl
     go_simp) ?_
    simp only [Act.put, lsA, lsZ, lsS]
    refine wpl_t 62 (v := .bool p4) (by kernel_rfl) rfl (by rw [Hp4.out]; exact exec_por rfl rfl rfl rfl) ?_
    simp only [Act.put, lsA, lsZ, lsS]
    refine wpl_t 63 (v := .bool p4) (by kernel_rfl) rfl (by go_simp) ?_
    simp only [Act.put, lsA, lsZ, lsS]
    refine wpl_g 64 (!p4) (v := .pointer (some ⟨b, 0, none⟩)) (by cases p4 <;> kernel_rfl) rfl (fun hg => by
     have hgy : ∀ v, gy (!p4) v = v := fun v => by rw [hg]; rfl
     have hgt : ∀ v, gy true v = v := fun _ => rfl
     go_simp) ?_
    simp only [Act.put, lsA, lsZ, lsS]
    refine wpl_g 65 (!p4) (v := .int .i64 k) (by cases p4 <;> kernel_rfl) rfl (fun hg => by
     have hgy : ∀ v, gy (!p4) v = v := fun v => by rw [hg]; rfl
     have hgt : ∀ v, gy true v = v := fun _ => rfl
     go_simp) ?_
    simp only [Act.put, lsA, lsZ, lsS]
    refine wpl_g 66 (!p4) (v := .bool c5) (by cases p4 <;> kernel_rfl) rfl (fun hg => by
     have hgy : ∀ v, gy (!p4) v = v := fun v => by rw [hg]; rfl
     have hgt : ∀ v, gy true v = v := fun _ => rfl
     go_simp) ?_
    simp only [Act.put, lsA, lsZ, lsS]
    refine wpl_g 67 (!p4) (v := .bool c5) (by cases p4 <;> kernel_rfl) rfl (fun hg => by
     have hgy : ∀ v, gy (!p4) v = v := fun v => by rw [hg]; rfl
     have hgt : ∀ v, gy true v = v := fun _ => rfl
     go_simp) ?_
    simp only [Act.put, lsA, lsZ, lsS]
    refine wpl_g 68 ((!p4) && c5) (v := .pointer (some ⟨b, 5, none⟩)) (by cases p4 <;> cases c5 <;> kernel_rfl) rfl (fun hg => by
     have hgy : ∀ v, gy ((!p4) && c5) v = v := fun v => by rw [hg]; rfl
     have hgt : ∀ v, gy true v = v := fun _ => rfl
     go_simp) ?_
    simp only [Act.put, lsA, lsZ, lsS]
    refine wpl_g 69 ((!p4) && c5) (v := .string key) (by cases p4 <;> cases c5 <;> kernel_rfl) rfl (fun hg => by
     have hgy : ∀ v, gy ((!p4) && c5) v = v := fun v => by rw [hg]; rfl
     have hgt : ∀ v, gy true v = v := fun _ => rfl
     go_simp) ?_
    simp only [Act.put, lsA, lsZ, lsS]
    refine wpl_g 70 ((!p4) && c5) (v := .bool c6) (by cases p4 <;> cases c5 <;> kernel_rfl) rfl (fun hg => by
     have hgy : ∀ v, gy ((!p4) && c5) v = v := fun v => by rw [hg]; rfl
     have hgt : ∀ v, gy true v = v := fun _ => rfl
     go_simp) ?_
    simp only [Act.put, lsA, lsZ, lsS]
    refine wpl_g 71 (!p4) (v := .bool (c5 && c6)) (by cases p4 <;> kernel_rfl) rfl (fun hg => by
     have hgy : ∀ v, gy (!p4) v = v := fun v => by rw [hg]; rfl
     have hgt : ∀ v, gy true v = v := fun _ => rfl
     exact exec_pand hg rfl rfl rfl rfl) ?_
    simp only [Act.put, lsA, lsZ, lsS]
    refine wpl_t 72 (v := .bool p5) (by kernel_rfl) rfl (by rw [Hp5.out]; exact exec_por rfl rfl rfl rfl) ?_
    simp only [Act.put, lsA, lsZ, lsS]
    refine wpl_t 73 (v := .bool p5) (by kernel_rfl) rfl (by go_simp) ?_
    simp only [Act.put, lsA, lsZ, lsS]
    refine wpl_g 74 (!p5) (v := .pointer (some ⟨b, 6, none⟩)) (by cases p5 <;> kernel_rfl) rfl (fun hg => by
     have hgy : ∀ v, gy (!p5) v = v := fun v => by rw [hg]; rfl
     have hgt : ∀ v, gy true v = v := fun _ => rfl
     go_simp) ?_
    simp only [Act.put, lsA, lsZ, lsS]
    refine wpl_g 75 (!p5) (v := .int .i64 bk) (by cases p5 <;> kernel_rfl) rfl (fun hg => by
     have hgy : ∀ v, gy (!p5) v = v := fun v => by rw [hg]; rfl
     have hgt : ∀ v, gy true v = v := fun _ => rfl
     go_simp) ?_
    simp only [Act.put, lsA, lsZ, lsS]
    refine wpl_g 76 (!p5) (v := .bool c7) (by cases p5 <;> kernel_rfl) rfl (fun hg => by
     have hgy : ∀ v, gy (!p5) v = v := fun v => by rw [hg]; rfl
     have hgt : ∀ v, gy true v = v := fun _ => rfl
     go_simp) ?_
    simp only [Act.put, lsA, lsZ, lsS]
    refine wpl_t 77 (v := .bool p6) (by kernel_rfl) rfl (by rw [Hp6.out]; exact exec_por rfl rfl rfl rfl) ?_
    simp only [Act.put, lsA, lsZ, lsS]
    refine wpl_t 78 (v := .bool p6) (by kernel_rfl) rfl (by go_simp) ?_
    simp only [Act.put, lsA, lsZ, lsS]
    refine wpl_g 79 (!p6) (v := .pointer (some ⟨b, 6, none⟩)) (by cases p6 <;> kernel_rfl) rfl (fun hg => by
     have hgy : ∀ v, gy (!p6) v = v := fun v => by rw [hg]; rfl
     have hgt : ∀ v, gy true v = v := fun _ => rfl
     go_simp) ?_
    simp only [Act.put, lsA, lsZ, lsS]
    refine wpl_g 80 (!p6) (v := .int .i64 bk) (by cases p6 <;> kernel_rfl) rfl (fun hg => by
     have hgy : ∀ v, gy (!p6) v = v := fun v => by rw [hg]; rfl
     have hgt : ∀ v, gy true v = v := fun _ => rfl
     go_simp) ?_
    simp only [Act.put, lsA, lsZ, lsS]
    refine wpl_g 81 (!p6) (v := .bool c8) (by cases p6 <;> kernel_rfl) rfl (fun hg => by
     have hgy : ∀ v, gy (!p6) v = v := fun v => by rw [hg]; rfl
     have hgt : ∀ v, gy true v = v := fun _ => rfl
     go_simp) ?_
    simp only [Act.put, lsA, lsZ, lsS]
    refine wpl_t 82 (v := .bool p7) (by kernel_rfl) rfl (by rw [Hp7.out]; exact exec_por rfl rfl rfl rfl) ?_
    simp only [Act.put, lsA, lsZ, lsS]
    refine wpl_t 83 (v := .bool p7) (by kernel_rfl) rfl (by go_simp) ?_
    simp only [Act.put, lsA, lsZ, lsS]
    refine wpl_g 84 (!p7) (v := .pointer (some ⟨b, 7, none⟩)) (by cases p7 <;> kernel_rfl) rfl (fun hg => by
     have hgy : ∀ v, gy (!p7) v = v := fun v => by rw [hg]; rfl
     have hgt : ∀ v, gy true v = v := fun _ => rfl
     go_simp) ?_
    simp only [Act.put, lsA, lsZ, lsS]
    refine wpl_g 85 (!p7) (v := .slice ea e1.length ec) (by cases p7 <;> kernel_rfl) rfl (fun hg => by
     have hgy : ∀ v, gy (!p7) v = v := fun v => by rw [hg]; rfl
     have hgt : ∀ v, gy true v = v := fun _ => rfl
     go_simp) ?_
    simp only [Act.put, lsA, lsZ, lsS]
    refine wpl_g 86 (!p7) (v := .int .i64 (e1.length : Int)) (by cases p7 <;> kernel_rfl) rfl (fun hg => by
     have hgy : ∀ v, gy (!p7) v = v := fun v => by rw [hg]; rfl
     have hgt : ∀ v, gy true v = v := fun _ => rfl
     go_simp) ?_
    simp only [Act.put, lsA, lsZ, lsS]
    refine wpl_g 87 (!p7) (v := .int .i64 hi) (by cases p7 <;> kernel_rfl) rfl (fun hg => by
     have hgy : ∀ v, gy (!p7) v = v := fun v => by rw [hg]; rfl
     have hgt : ∀ v, gy true v = v := fun _ => rfl
     go_simp) ?_
    simp only [Act.put, lsA, lsZ, lsS]
    refine wpl_g 88 (!p7) (v := .bool c9) (by cases p7 <;> kernel_rfl) rfl (fun hg => by
     have hgy : ∀ v, gy (!p7) v = v := fun v => by rw [hg]; rfl
     have hgt : ∀ v, gy true v = v := fun _ => rfl
     go_simp) ?_
    simp only [Act.put, lsA, lsZ, lsS]
    refine wpl_t 89 (v := .bool p8) (by kernel_rfl) rfl (by rw [Hp8.out]; exact exec_por rfl rfl rfl rfl) ?_
    simp only [Act.put, lsA, lsZ, lsS]
    refine wpl_t 90 (v := .bool p8) (by kernel_rfl) rfl (by go_simp) ?_
    simp only [Act.put, lsA, lsZ, lsS]
    refine wpl_g 91 (!p8) (v := .pointer (some ⟨b, 0, none⟩)) (by cases p8 <;> kernel_rfl) rfl (fun hg => by
     have hgy : ∀ v, gy (!p8) v = v := fun v => by rw [hg]; rfl
     have hgt : ∀ v, gy true v = v := fun _ => rfl
     go_simp) ?_
    simp only [Act.put, lsA, lsZ, lsS]
    refine wpl_g 92 (!p8) (v := .int .i64 k) (by cases p8 <;> kernel_rfl) rfl (fun hg => by
     have hgy : ∀ v, gy (!p8) v = v := fun v => by rw [hg]; rfl
     have hgt : ∀ v, gy true v = v := fun _ => rfl
     go_simp) ?_
    simp only [Act.put, lsA, lsZ, lsS]
    refine wpl_g 93 (!p8) (v := .bool c10) (by cases p8 <;> kernel_rfl) rfl (fun hg => by
     have hgy : ∀ v, gy (!p8) v = v := fun v => by rw [hg]; rfl
     have hgt : ∀ v, gy true v = v := fun _ => rfl
     go_simp) ?_
    simp only [Act.put, lsA, lsZ, lsS]
    refine wpl_g 94 (!p8) (v := .bool c10) (by cases p8 <;> kernel_rfl) rfl (fun hg => by
     have hgy : ∀ v, gy (!p8) v = v := fun v => by rw [hg]; rfl
     have hgt : ∀ v, gy true v = v := fun _ => rfl
     go_simp) ?_
    simp only [Act.put, lsA, lsZ, lsS]
    refine wpl_g 95 ((!p8) && c10) (v := .pointer (some ⟨b, 7, none⟩)) (by cases p8 <;> cases c10 <;> kernel_rfl) rfl (fun hg => by
     have hgy : ∀ v, gy ((!p8) && c10) v = v := fun v => by rw [hg]; rfl
     have hgt : ∀ v, gy true v = v := fun _ => rfl
     go_simp) ?_
    simp only [Act.put, lsA, lsZ, lsS]
    refine wpl_g 96 ((!p8) && c10) (v := .slice ea e1.length ec) (by cases p8 <;> cases c10 <;> kernel_rfl) rfl (fun hg => by
     have hgy : ∀ v, gy ((!p8) && c10) v = v := fun v => by rw [hg]; rfl
     have hgt : ∀ v, gy true v = v := fun _ => rfl
     go_simp) ?_
    simp only [Act.put, lsA, lsZ, lsS]
    refine wpl_g 97 ((!p8) && c10) (v := .int .i64 (e1.length : Int)) (by cases p8 <;> cases c10 <;> kernel_rfl) rfl (fun hg => by
     have hgy : ∀ v, gy ((!p8) && c10) v = v := fun v => by rw [hg]; rfl
     have hgt : ∀ v, gy true v = v := fun _ => rfl
     go_simp) ?_
    simp only [Act.put, lsA, lsZ, lsS]
    refine wpl_g 98 ((!p8) && c10) (v := .bool c11) (by cases p8 <;> cases c10 <;> kernel_rfl) rfl (fun hg => by
     have hgy : ∀ v, gy ((!p8) && c10) v = v := fun v => by rw [hg]; rfl
     have hgt : ∀ v, gy true v = v := fun _ => rfl
     go_simp) ?_
    simp only [Act.put, lsA, lsZ, lsS]
    refine wpl_g 99 (!p8) (v := .bool (c10 && c11)) (by cases p8 <;> kernel_rfl) rfl (fun hg => by
     have hgy : ∀ v, gy (!p8) v = v := fun v => by rw [hg]; rfl
     have hgt : ∀ v, gy true v = v := fun _ => rfl
     exact exec_pand hg rfl rfl rfl rfl) ?_
    simp only [Act.put, lsA, lsZ, lsS]
    refine wpl_t 100 (v := .bool p9) (by kernel_rfl) rfl (by rw [Hp9.out]; exact exec_por rfl rfl rfl rfl) ?_
    simp only [Act.put, lsA, lsZ, lsS]
    refine wpl_t 101 (v := .bool p9) (by kernel_rfl) rfl (by go_simp) ?_
    simp only [Act.put, lsA, lsZ, lsS]
    refine wpl_g 102 (!p9) (v := .pointer (some ⟨b, 8, none⟩)) (by cases p9 <;> kernel_rfl) rfl (fun hg => by
     have hgy : ∀ v, gy (!p9) v = v := fun v => by rw [hg]; rfl
     have hgt : ∀ v, gy true v = v := fun _ => rfl
     go_simp) ?_
    simp only [Act.put, lsA, lsZ, lsS]
    refine wpl_g 103 (!p9) (v := .slice da g1.length dc) (by cases p9 <;> kernel_rfl) rfl (fun hg => by
     have hgy : ∀ v, gy (!p9) v = v := fun v => by rw [hg]; rfl
     have hgt : ∀ v, gy true v = v := fun _ => rfl
     go_simp) ?_
    simp only [Act.put, lsA, lsZ, lsS]
    refine wpl_g 104 (!p9) (v := .int .i64 (g1.length : Int)) (by cases p9 <;> kernel_rfl) rfl (fun hg => by
     have hgy : ∀ v, gy (!p9) v = v := fun v => by rw [hg]; rfl
     have hgt : ∀ v, gy true v = v := fun _ => rfl
     go_simp) ?_
    simp only [Act.put, lsA, lsZ, lsS]
    refine wpl_g 105 (!p9) (v := .bool c12) (by cases p9 <;> kernel_rfl) rfl (fun hg => by
     have hgy : ∀ v, gy (!p9) v = v := fun v => by rw [hg]; rfl
     have hgt : ∀ v, gy true v = v := fun _ => rfl
     go_simp) ?_
    simp only [Act.put, lsA, lsZ, lsS]
    refine wpl_t 106 (v := .bool p10) (by kernel_rfl) rfl (by rw [Hp10.out]; exact exec_por rfl rfl rfl rfl) ?_
    simp only [Act.put, lsA, lsZ, lsS]
    refine wpl_t 107 (v := .bool p10) (by kernel_rfl) rfl (by go_simp) ?_
    simp only [Act.put, lsA, lsZ, lsS]
    refine wpl_g 108 (!p10) (v := .pointer (some ⟨b, 9, none⟩)) (by cases p10 <;> kernel_rfl) rfl (fun hg => by
     have hgy : ∀ v, gy (!p10) v = v := fun v => by rw [hg]; rfl
     have hgt : ∀ v, gy true v = v := fun _ => rfl
     go_simp) ?_
    simp only [Act.put, lsA, lsZ, lsS]
    refine wpl_g 109 (!p10) (v := .slice ma m1.length mc) (by cases p10 <;> kernel_rfl) rfl (fun hg => by
     have hgy : ∀ v, gy (!p10) v = v := fun v => by rw [hg]; rfl
     have hgt : ∀ v, gy true v = v := fun _ => rfl
     go_simp) ?_
    simp only [Act.put, lsA, lsZ, lsS]
    refine wpl_g 110 (!p10) (v := .int .i64 (m1.length : Int)) (by cases p10 <;> kernel_rfl) rfl (fun hg => by
     have hgy : ∀ v, gy (!p10) v = v := fun v => by rw [hg]; rfl
     have hgt : ∀ v, gy true v = v := fun _ => rfl
     go_simp) ?_
    simp only [Act.put, lsA, lsZ, lsS]
    refine wpl_g 111 (!p10) (v := .bool c13) (by cases p10 <;> kernel_rfl) rfl (fun hg => by
     have hgy : ∀ v, gy (!p10) v = v := fun v => by rw [hg]; rfl
     have hgt : ∀ v, gy true v = v := fun _ => rfl
     go_simp) ?_
    simp only [Act.put, lsA, lsZ, lsS]
    refine wpl_t 112 (v := .bool p11) (by kernel_rfl) rfl (by rw [Hp11.out]; exact exec_por rfl rfl rfl rfl) ?_
    simp only [Act.put, lsA, lsZ, lsS]
    unfold wpList
    go_wp2_with fail
    go_meet
    case rel =>
     refine ⟨p11, rfl, ?_, rfl⟩
     show _ ↔ _
     have q0 := Hp2.out
     have q1 := Hp3.out
     have q2 := Hp4.out
     have q3 := Hp5.out
     have q4 := Hp6.out
     have q5 := Hp7.out
     have q6 := Hp8.out
     have q7 := Hp9.out
     have q8 := Hp10.out
     have q9 := Hp11.out
     rw [q9, q8, q7, q6, q5, q4, q3, q2, q1, q0, HNN.out]
     simp only [Bool.or_eq_true, Bool.and_eq_true, Bool.not_eq_true', Hc1.out, Hc2.out, Hc4.out, Hc5.out, Hc6.out, Hc7.out, Hc8.out, Hc9.out, Hc10.out, Hc11.out, Hc12.out, Hc13.out]
     rw [Hc3.out, HHI.out]
     exact num_bad
   case rest =>
    obtain ⟨bb, rfl, HBB, hwc⟩ := hcut
    rw [hwc]
    clear hwc
    cases bb with
    | true =>
     have HNO : Hid (¬ N) := HBB.out.1 rfl
     go_wp2_with fail
     go_ret
     exact ⟨.mk' false (by rw [HD.out]; exact ⟨fun h => (by cases h), fun h => absurd h.2.2.2.1 HNO.out⟩), HO.out⟩
    | false =>
     have HNY : Hid N := Classical.byContradiction (fun h => by have := HBB.out.2 h; cases this)
     clear HBB
     have HOL : Hid (Off (fun _ => False) V V) := Off.refl _ V
     have lne : e1.length ≤ 9223372036854775807 := Nat.le_trans HM.out.ens.len HM.out.ens.bound
     have lng : g1.length ≤ 9223372036854775807 := Nat.le_trans HM.out.dgs.len HM.out.dgs.bound
     have lnm : m1.length ≤ 9223372036854775807 := Nat.le_trans HM.out.mbs.len HM.out.mbs.bound
     go_wp2_with fail
     go_loopw [116] (fun y wr => ∃ n : Nat, y = .int .i64 (n : Int) ∧ n ≤ e1.length ∧ (∀ i v, i < n → e1[i]? = some v → (keyB v.key && mayS v.f (cont v.l)) = true) ∧ Off (fun _ => False) V wr) (fun y _ => (e1.length - intOf y).toNat)
     case atStart => exact ⟨0, rfl, by omega, fun i v hi => by omega, HOL.out⟩
     case round =>
      clear x0 x1 x2 x3 x4 x5 x6 x7 x8 x9
      obtain ⟨n, rfl, hn, hg, O⟩ := hrel
      have HG : Hid _ := hg
      have HOR : Hid (Off (fun _ => False) V wr) := O
      clear hg
      by_cases hlt : n < e1.length
      ·have g1b : decide ((n : Int) < (e1.length : Int)) = true := decide_eq_true (by omega)
       have g2b : decide (n < e1.length) = true := decide_eq_true hlt
       obtain ⟨v, hv⟩ : ∃ v, e1[n]? = some v := ⟨_, List.getElem?_eq_getElem hlt⟩
       have hA := (HM.out.off O).ens.at_ n v hv
       obtain ⟨bx, off, rfl, k10, kr⟩ := hA
       obtain ⟨k0, k1, k2, k3, k4, k5, k6, k7, k8, k9⟩ := ent10 k10
       clear k10
       have hix := idx_ents hlt
       have HV : Hid _ := hv
       clear hv O
       go_upto_region 13 with fail
       have CN := Cel.new wr 46 #[.string v.key, .int .i64 (v.f 0), .int .i64 (v.f 1), .int .i64 (v.f 2), .int .i64 (v.f 3), .int .i64 (v.f 4), .int .i64 (v.f 5), .int .i64 (v.f 6), .int .i64 (v.f 7), .slice v.a v.l.length v.cap]
       have ON : Off (fun _ => False) wr (wr.alloc (.cells #[.string v.key, .int .i64 (v.f 0), .int .i64 (v.f 1), .int .i64 (v.f 2), .int .i64 (v.f 3), .int .i64 (v.f 4), .int .i64 (v.f 5), .int .i64 (v.f 6), .int .i64 (v.f 7), .slice v.a v.l.length v.cap] 46)) := (Off.refl _ wr).alloc _
       generalize hvv : wr.alloc (.cells #[.string v.key, .int .i64 (v.f 0), .int .i64 (v.f 1), .int .i64 (v.f 2), .int .i64 (v.f 3), .int .i64 (v.f 4), .int .i64 (v.f 5), .int .i64 (v.f 6), .int .i64 (v.f 7), .slice v.a v.l.length v.cap] 46) = V2 at CN ON ⊢
       generalize hpp : wr.heap.size = pp at CN ⊢
       clear hvv hpp k0 k1 k2 k3 k4 k5 k6 k7 k8 k9 hix
       have HX : Hid _ := kr.off ON
       clear kr
       have HO2 : Hid _ := HOR.out.trans ON (fun _ _ h => h)
       have z0 := CN.cell 0
       have z1 := CN.cell 1
       have z2 := CN.cell 2
       have z3 := CN.cell 3
       have z4 := CN.cell 4
       have z5 := CN.cell 5
       have z6 := CN.cell 6
       have z7 := CN.cell 7
       have z8 := CN.cell 8
       have z9 := CN.cell 9
       simp at z0 z1 z2 z3 z4 z5 z6 z7 z8 z9
       clear CN ON
       go_wp2_with fail
       refine (gmayentry_any v.key v.f v.a v.cap v.l _ HX.out).mono ?_
       rintro e w2 ⟨rfl, o2⟩
       clear z0 z1 z2 z3 z4 z5 z6 z7 z8 z9
       cases hd : (keyB v.key && mayS v.f (cont v.l))
       ·go_wp2_with fail
        go_ret
        exact ⟨.mk' false (by rw [HD.out]; exact ⟨fun h => (by cases h), fun h => absurd (h.2.2.2.2.1 v (List.mem_of_getElem? HV.out)) (by rw [hd]; decide)⟩), HO.out.trans (HO2.out.trans o2 (fun _ _ h => h)) (fun _ _ h => h)⟩
       ·go_wp2_with fail
        go_roundw
        case rel =>
         refine ⟨n + 1, by go_num, by omega, fun i u hi hu => ?_, HO2.out.trans o2 (fun _ _ h => h)⟩
         rcases Nat.lt_or_ge i n with h | h
         ·exact HG.out i u h hu
         ·obtain rfl : i = n := by omega
          rw [HV.out] at hu
          cases hu
          exact hd
        case measure => simp [intOf]; omega
      ·obtain rfl : n = e1.length := by omega
       have g1b : decide ((e1.length : Int) < (e1.length : Int)) = false := decide_eq_false (by omega)
       have g2b : decide (e1.length < e1.length) = false := decide_eq_false (by omega)
       have HALL0 : Hid (∀ v ∈ e1, (keyB v.key && mayS v.f (cont v.l)) = true) := fun v hv => by
        obtain ⟨i, hi⟩ := List.getElem?_of_mem hv
        have hlt : i < e1.length := by
         obtain ⟨h, -⟩ := List.getElem?_eq_some_iff.1 hi
         exact h
        exact HG.out i v hlt hi
       have HOL : Hid _ := HOR.out
       clear HG HOR
       obtain ⟨x0, x1, x2, x3, x4, x5, x6, x7, x8, x9⟩ := celw10 (HC.out.off O (fun h => h))
       clear O
       go_wp2_with fail
       go_loopw [127] (fun y wr => ∃ n : Nat, y = .int .i64 (n : Int) ∧ n ≤ g1.length ∧ (∀ i v, i < n → g1[i]? = some v → (mayD ⟨v.key, v.f, v.ds⟩) = true) ∧ Off (fun _ => False) V wr) (fun y _ => (g1.length - intOf y).toNat)
       case atStart => exact ⟨0, rfl, by omega, fun i v hi => by omega, HOL.out⟩
       case round =>
        clear x0 x1 x2 x3 x4 x5 x6 x7 x8 x9
        obtain ⟨n, rfl, hn, hg, O⟩ := hrel
        have HG : Hid _ := hg
        have HOR : Hid (Off (fun _ => False) V wr) := O
        clear hg
        by_cases hlt : n < g1.length
        ·have g1b : decide ((n : Int) < (g1.length : Int)) = true := decide_eq_true (by omega)
         have g2b : decide (n < g1.length) = true := decide_eq_true hlt
         obtain ⟨v, hv⟩ : ∃ v, g1[n]? = some v := ⟨_, List.getElem?_eq_getElem hlt⟩
         have hA := (HM.out.off O).dgs.at_ n v hv
         obtain ⟨bx, off, rfl, k10, kr⟩ := hA
         obtain ⟨k0, k1, k2, k3, k4, k5, k6, k7, k8, k9⟩ := dg10 k10
         clear k10
         have hix := idx_dgs hlt
         have HV : Hid _ := hv
         clear hv O
         go_upto_region 19 with fail
         have CN := Cel.new wr 53 #[.string v.key, .int .i64 (v.f 0), .int .i64 (v.f 1), .int .i64 (v.f 2), .int .i64 (v.f 3), .int .i64 (v.f 4), .int .i64 (v.f 5), .int .i64 (v.f 6), .int .i64 (v.f 7), .slice v.a v.ds.length v.cap]
         have ON : Off (fun _ => False) wr (wr.alloc (.cells #[.string v.key, .int .i64 (v.f 0), .int .i64 (v.f 1), .int .i64 (v.f 2), .int .i64 (v.f 3), .int .i64 (v.f 4), .int .i64 (v.f 5), .int .i64 (v.f 6), .int .i64 (v.f 7), .slice v.a v.ds.length v.cap] 53)) := (Off.refl _ wr).alloc _
         generalize hvv : wr.alloc (.cells #[.string v.key, .int .i64 (v.f 0), .int .i64 (v.f 1), .int .i64 (v.f 2), .int .i64 (v.f 3), .int .i64 (v.f 4), .int .i64 (v.f 5), .int .i64 (v.f 6), .int .i64 (v.f 7), .slice v.a v.ds.length v.cap] 53) = V2 at CN ON ⊢
         generalize hpp : wr.heap.size = pp at CN ⊢
         clear hvv hpp k0 k1 k2 k3 k4 k5 k6 k7 k8 k9 hix
         have HX : Hid _ := kr.off ON
         clear kr
         have HO2 : Hid _ := HOR.out.trans ON (fun _ _ h => h)
         have z0 := CN.cell 0
         have z1 := CN.cell 1
         have z2 := CN.cell 2
         have z3 := CN.cell 3
         have z4 := CN.cell 4
         have z5 := CN.cell 5
         have z6 := CN.cell 6
         have z7 := CN.cell 7
         have z8 := CN.cell 8
         have z9 := CN.cell 9
         simp at z0 z1 z2 z3 z4 z5 z6 z7 z8 z9
         clear CN ON
         go_wp2_with fail
         refine (gmayd_any v.key v.f v.a v.cap v.ds _ HX.out).mono ?_
         rintro e w2 ⟨rfl, o2⟩
         clear z0 z1 z2 z3 z4 z5 z6 z7 z8 z9
         cases hd : (mayD ⟨v.key, v.f, v.ds⟩)
         ·go_wp2_with fail
          go_ret
          exact ⟨.mk' false (by rw [HD.out]; exact ⟨fun h => (by cases h), fun h => absurd (h.2.2.2.2.2.1 v (List.mem_of_getElem? HV.out)) (by rw [hd]; decide)⟩), HO.out.trans (HO2.out.trans o2 (fun _ _ h => h)) (fun _ _ h => h)⟩
         ·go_wp2_with fail
          go_roundw
          case rel =>
           refine ⟨n + 1, by go_num, by omega, fun i u hi hu => ?_, HO2.out.trans o2 (fun _ _ h => h)⟩
           rcases Nat.lt_or_ge i n with h | h
           ·exact HG.out i u h hu
           ·obtain rfl : i = n := by omega
            rw [HV.out] at hu
            cases hu
            exact hd
          case measure => simp [intOf]; omega
        ·obtain rfl : n = g1.length := by omega
         have g1b : decide ((g1.length : Int) < (g1.length : Int)) = false := decide_eq_false (by omega)
         have g2b : decide (g1.length < g1.length) = false := decide_eq_false (by omega)
         have HALL1 : Hid (∀ v ∈ g1, (mayD ⟨v.key, v.f, v.ds⟩) = true) := fun v hv => by
          obtain ⟨i, hi⟩ := List.getElem?_of_mem hv
          have hlt : i < g1.length := by
           obtain ⟨h, -⟩ := List.getElem?_eq_some_iff.1 hi
           exact h
          exact HG.out i v hlt hi
         have HOL : Hid _ := HOR.out
         clear HG HOR
         obtain ⟨x0, x1, x2, x3, x4, x5, x6, x7, x8, x9⟩ := celw10 (HC.out.off O (fun h => h))
         clear O
         go_wp2_with fail
         go_loopw [138] (fun y wr => ∃ n : Nat, y = .int .i64 (n : Int) ∧ n ≤ m1.length ∧ (∀ i v, i < n → m1[i]? = some v → (mbB v.1 v.2) = true) ∧ Off (fun _ => False) V wr) (fun y _ => (m1.length - intOf y).toNat)
         case atStart => exact ⟨0, rfl, by omega, fun i v hi => by omega, HOL.out⟩
         case round =>
          clear x0 x1 x2 x3 x4 x5 x6 x7 x8 x9
          obtain ⟨n, rfl, hn, hg, O⟩ := hrel
          have HG : Hid _ := hg
          have HOR : Hid (Off (fun _ => False) V wr) := O
          clear hg
          by_cases hlt : n < m1.length
          ·have g1b : decide ((n : Int) < (m1.length : Int)) = true := decide_eq_true (by omega)
           have g2b : decide (n < m1.length) = true := decide_eq_true hlt
           obtain ⟨v, hv⟩ : ∃ v, m1[n]? = some v := ⟨_, List.getElem?_eq_getElem hlt⟩
           have hA := (HM.out.off O).mbs.at_ n v hv
           obtain ⟨bx, off, rfl, k0, k1⟩ := hA
           have hix := idx_mems hlt
           have HV : Hid _ := hv
           clear hv O
           go_upto_region 25 with fail
           have CN := Cel.new wr 63 #[.int .i64 v.1, .int .i64 v.2]
           have ON : Off (fun _ => False) wr (wr.alloc (.cells #[.int .i64 v.1, .int .i64 v.2] 63)) := (Off.refl _ wr).alloc _
           generalize hvv : wr.alloc (.cells #[.int .i64 v.1, .int .i64 v.2] 63) = V2 at CN ON ⊢
           generalize hpp : wr.heap.size = pp at CN ⊢
           clear hvv hpp k0 k1 hix
           have HO2 : Hid _ := HOR.out.trans ON (fun _ _ h => h)
           have z0 := CN.cell 0
           have z1 := CN.cell 1
           simp at z0 z1
           clear CN ON
           go_wp2_with fail
           refine (zmaym_any v.1 v.2 _).mono ?_
           rintro e w2 ⟨rfl, o2⟩
           clear z0 z1
           cases hd : (mbB v.1 v.2)
           ·go_wp2_with fail
            go_ret
            exact ⟨.mk' false (by rw [HD.out]; exact ⟨fun h => (by cases h), fun h => absurd (h.2.2.2.2.2.2 v (List.mem_of_getElem? HV.out)) (by rw [hd]; decide)⟩), HO.out.trans (HO2.out.trans o2 (fun _ _ h => h)) (fun _ _ h => h)⟩
           ·go_wp2_with fail
            go_roundw
            case rel =>
             refine ⟨n + 1, by go_num, by omega, fun i u hi hu => ?_, HO2.out.trans o2 (fun _ _ h => h)⟩
             rcases Nat.lt_or_ge i n with h | h
             ·exact HG.out i u h hu
             ·obtain rfl : i = n := by omega
              rw [HV.out] at hu
              cases hu
              exact hd
            case measure => simp [intOf]; omega
          ·obtain rfl : n = m1.length := by omega
           have g1b : decide ((m1.length : Int) < (m1.length : Int)) = false := decide_eq_false (by omega)
           have g2b : decide (m1.length < m1.length) = false := decide_eq_false (by omega)
           have HALL2 : Hid (∀ v ∈ m1, (mbB v.1 v.2) = true) := fun v hv => by
            obtain ⟨i, hi⟩ := List.getElem?_of_mem hv
            have hlt : i < m1.length := by
             obtain ⟨h, -⟩ := List.getElem?_eq_some_iff.1 hi
             exact h
            exact HG.out i v hlt hi
           have HOL : Hid _ := HOR.out
           clear HG HOR
           clear O
           go_wp2_with fail
           go_ret
           exact ⟨.mk' true (by rw [HD.out]; exact ⟨fun _ => ⟨HK.out, hnfr, hntn, HNY.out, HALL0.out, HALL1.out, HALL2.out⟩, fun _ => rfl⟩), HO.out.trans HOL.out (fun _ _ h => h)⟩
theorem zmay_any (m : Mg) (es : List E) (gs : List G) (ms : List (Int × Int)) (w : World) (h : MsgAt w m es gs ms) :
  Calls Try.prog 13 #[(.agg #[.int .i64 m.k, .int .i64 m.fr, .int .i64 m.tn, .int .i64 m.op, .int .i64 m.fo, .string m.key, .int .i64 m.bk, .slice m.ea m.el m.ec, .slice m.da m.dl m.dc, .slice m.ma m.ml m.mc])] w fun e w' => Yes (MayM (mdM m es gs ms)) e ∧ Off (fun _ => False) w w' :=
 zmay_core m (plM (msk m.k) m) _ _ _ w (h.plain (msk m.k)) rfl rfl rfl (fun W => plain_any m W)
end Go.Proofs.Ytmbphlkohlggfaa
