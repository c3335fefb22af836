/- Items of several texts. -/
import Derived.Test.YtmbphlkohlggfaaDQz18
import Derived.Test.YtmbphlkohlggfaaDArg13
import Derived.Test.YtmbphlkohlggfaaDAmy20
namespace Go.Proofs.Ytmbphlkohlggfaa
set_option maxRecDepth 100000
open Go.RowKit
structure MD where
 k : Int
 fr : Int
 tn : Int
 op : Int
 fo : Int
 key : ByteArray
 bk : Int
 es : List K
 gs : List GK
 ms : List (Int × Int)
def mdOf (X : Mg) (es : List E) (gs : List G) (ms : List (Int × Int)) : MD := ⟨X.k, X.fr, X.tn, X.op, X.fo, X.key, X.bk, es.map E.abs, gs.map G.abs, ms⟩
def mayK (k : K) : Bool := keyB k.key && mayS k.f k.l
structure MayM (d : MD) : Prop where
 k : 1 ≤ d.k ∧ d.k ≤ 9
 fr : ndB d.fr = true
 tn : ndB d.tn = true
 op : 0 ≤ d.op ∧ d.op ≤ 1099511627776
 fo : ndB d.fo = true
 key : cond (decide (d.k = 4)) (keyB d.key) (decide (d.key.size ≤ 32)) = true
 bk : 0 ≤ d.bk ∧ d.bk < 4
 lo : eLo d.k ≤ (d.es.length : Int)
 hi : (d.es.length : Int) ≤ eHi d.k
 es : ∀ x ∈ d.es, mayK x = true
 gl : d.gs.length ≤ 256
 gs : ∀ g ∈ d.gs, mayD g = true
 ml : d.ms.length ≤ 8
 ms : ∀ x ∈ d.ms, mbB x.1 x.2 = true
theorem allE_iff {es : List E} : (∀ x ∈ es.map E.abs, mayK x = true) ↔ ∀ x ∈ es, (keyB x.key && mayS x.f (cont x.l)) = true := by
 constructor
 ·intro h x hx
  exact h x.abs (List.mem_map.2 ⟨x, hx, rfl⟩)
 ·intro h x hx
  obtain ⟨y, hy, rfl⟩ := List.mem_map.1 hx
  exact h y hy
theorem allG_iff {gs : List G} : (∀ x ∈ gs.map G.abs, mayD x = true) ↔ ∀ x ∈ gs, mayD ⟨x.key, x.f, x.ds⟩ = true := by
 constructor
 ·intro h x hx
  exact h x.abs (List.mem_map.2 ⟨x, hx, rfl⟩)
 ·intro h x hx
  obtain ⟨y, hy, rfl⟩ := List.mem_map.1 hx
  exact h y hy
set_option maxHeartbeats 4000000 in
theorem xmay_core (m X : Mg) (e1 : List E) (g1 : List G) (m1 : List (Int × Int)) (w : World) (hx : MsgAt w X e1 g1 m1) (hb : ∀ W, Calls Try.prog 19 #[(.agg #[.int .i64 m.k, .int .i64 m.fr, .int .i64 m.tn, .int .i64 m.op, .int .i64 m.fo, .string m.key, .int .i64 m.bk, .slice m.ea m.el m.ec, .slice m.da m.dl m.dc, .slice m.ma m.ml m.mc])] W fun e w' => e = .returned ((.agg #[.int .i64 X.k, .int .i64 X.fr, .int .i64 X.tn, .int .i64 X.op, .int .i64 X.fo, .string X.key, .int .i64 X.bk, .slice X.ea X.el X.ec, .slice X.da X.dl X.dc, .slice X.ma X.ml X.mc])) ∧ Off (fun _ => False) W w') :
  Calls Try.prog 12 #[(.agg #[.int .i64 m.k, .int .i64 m.fr, .int .i64 m.tn, .int .i64 m.op, .int .i64 m.fo, .string m.key, .int .i64 m.bk, .slice m.ea m.el m.ec, .slice m.da m.dl m.dc, .slice m.ma m.ml m.mc])] w fun e w' => Yes (MayM (mdOf X e1 g1 m1)) e ∧ Off (fun _ => False) w w' := by
 have HB : Hid (∀ W, Calls Try.prog 19 #[(.agg #[.int .i64 m.k, .int .i64 m.fr, .int .i64 m.tn, .int .i64 m.op, .int .i64 m.fo, .string m.key, .int .i64 m.bk, .slice m.ea m.el m.ec, .slice m.da m.dl m.dc, .slice m.ma m.ml m.mc])] W fun e w' => e = .returned ((.agg #[.int .i64 X.k, .int .i64 X.fr, .int .i64 X.tn, .int .i64 X.op, .int .i64 X.fo, .string X.key, .int .i64 X.bk, .slice X.ea X.el X.ec, .slice X.da X.dl X.dc, .slice X.ma X.ml X.mc])) ∧ Off (fun _ => False) W w') := hb
 obtain ⟨k, fr, tn, op, fo, key, bk, ea, el, ec, da, dl, dc, ma, ml, mc⟩ := X
 obtain rfl : el = e1.length := hx.el
 obtain rfl : dl = g1.length := hx.dl
 obtain rfl : ml = m1.length := hx.ml
 show Calls Try.prog 12 #[(.agg #[.int .i64 m.k, .int .i64 m.fr, .int .i64 m.tn, .int .i64 m.op, .int .i64 m.fo, .string m.key, .int .i64 m.bk, .slice m.ea m.el m.ec, .slice m.da m.dl m.dc, .slice m.ma m.ml m.mc])] w fun e w' => Yes (MayM (mdOf (⟨k, fr, tn, op, fo, key, bk, ea, e1.length, ec, da, g1.length, dc, ma, m1.length, mc⟩ : Mg) e1 g1 m1)) e ∧ Off (fun _ => False) w w'
 obtain ⟨d, hd⟩ : ∃ d, d = mdOf (⟨k, fr, tn, op, fo, key, bk, ea, e1.length, ec, da, g1.length, dc, ma, m1.length, mc⟩ : Mg) e1 g1 m1 := ⟨_, rfl⟩
 rw [← hd]
 generalize hP : MayM d = P
 have HP : Hid _ := hP
 obtain ⟨hi, hhi⟩ : ∃ hi, hi = eHi k := ⟨_, rfl⟩
 obtain ⟨lo, hlo⟩ : ∃ lo, lo = eLo k := ⟨_, rfl⟩
 obtain ⟨ky, hky⟩ : ∃ ky, ky = cond (decide (k = 4)) (keyB key) (decide (key.size ≤ 32)) := ⟨_, rfl⟩
 have HF : Hid (d.k = k ∧ d.fr = fr ∧ d.tn = tn ∧ d.op = op ∧ d.fo = fo ∧ cond (decide (d.k = 4)) (keyB d.key) (decide (d.key.size ≤ 32)) = ky ∧ d.bk = bk ∧ eLo d.k = lo ∧ eHi d.k = hi) := by
  show _ ∧ _
  rw [hd, hky, hlo, hhi]
  exact ⟨rfl, rfl, rfl, rfl, rfl, rfl, rfl, rfl, rfl⟩
 have HLE : Hid (d.es.length = e1.length ∧ d.gs.length = g1.length ∧ d.ms = m1) := by
  show _ ∧ _
  rw [hd]
  exact ⟨List.length_map .., List.length_map .., rfl⟩
 have HAE : Hid ((∀ x ∈ d.es, mayK x = true) ↔ ∀ x ∈ e1, (keyB x.key && mayS x.f (cont x.l)) = true) := by
  show _ ↔ _
  rw [hd]
  exact allE_iff
 have HAG : Hid ((∀ x ∈ d.gs, mayD x = true) ↔ ∀ x ∈ g1, mayD ⟨x.key, x.f, x.ds⟩ = true) := by
  show _ ↔ _
  rw [hd]
  exact allG_iff
 have HKY : Hid (∀ W, Calls Try.prog 30 #[.agg #[.int .i64 k, .int .i64 fr, .int .i64 tn, .int .i64 op, .int .i64 fo, .string key, .int .i64 bk, .slice ea e1.length ec, .slice da g1.length dc, .slice ma m1.length mc]] W fun e w' => e = .returned (.bool ky) ∧ Off (fun _ => False) W w') := fun W => by rw [hky]; exact xmayKey_any (⟨k, fr, tn, op, fo, key, bk, ea, e1.length, ec, da, g1.length, dc, ma, m1.length, mc⟩ : Mg) W
 have HEN : Hid (∀ W, Calls Try.prog 31 #[.int .i64 k] W fun e w' => e = .returned (.tuple #[.int .i64 lo, .int .i64 hi]) ∧ w' = W) := fun W => by rw [hlo, hhi]; exact xentriesOf_any k W
 clear hP hd hlo hhi hky hb
 have C0 := Cel.new w 26 #[.int .i64 m.k, .int .i64 m.fr, .int .i64 m.tn, .int .i64 m.op, .int .i64 m.fo, .string m.key, .int .i64 m.bk, .slice m.ea m.el m.ec, .slice m.da m.dl m.dc, .slice m.ma m.ml m.mc]
 have O0 : Off (fun _ => False) w (w.alloc (.cells #[.int .i64 m.k, .int .i64 m.fr, .int .i64 m.tn, .int .i64 m.op, .int .i64 m.fo, .string m.key, .int .i64 m.bk, .slice m.ea m.el m.ec, .slice m.da m.dl m.dc, .slice m.ma m.ml m.mc] 26)) := (Off.refl _ w).alloc _
 have HX : Hid _ := hx
 clear hx
 go_enter Try.func12, Try.ntmps12
 go_upto_region 1 with fail
 generalize hv : w.alloc (.cells #[.int .i64 m.k, .int .i64 m.fr, .int .i64 m.tn, .int .i64 m.op, .int .i64 m.fo, .string m.key, .int .i64 m.bk, .slice m.ea m.el m.ec, .slice m.da m.dl m.dc, .slice m.ma m.ml m.mc] 26) = W at C0 O0 ⊢
 obtain ⟨b, hb⟩ : ∃ b, b = w.heap.size := ⟨_, rfl⟩
 rw [← hb] at C0 ⊢
 have HBW : Hid (w.heap.size ≤ b) := by show _ ≤ _; omega
 clear hv hb
 obtain ⟨x0, x1, x2, x3, x4, x5, x6, x7, x8, x9⟩ := celw10 C0
 have HC0 : Hid _ := C0
 have HO0 : Hid _ := O0
 clear C0 O0
 go_wp2_with fail
 refine (HB.out _).mono ?_
 rintro e w1 ⟨rfl, o1⟩
 clear x0 x1 x2 x3 x4 x5 x6 x7 x8 x9 HB
 have C1 := HC0.out.off o1 (fun h => h)
 obtain ⟨x0, x1, x2, x3, x4, x5, x6, x7, x8, x9⟩ := celw10 C1
 have fz := C1.free
 have HC1 : Hid _ := C1
 have HO1 : Hid _ := HO0.out.trans o1 (fun _ _ h => h)
 clear C1 o1 HC0 HO0
 go_upto_region 2 with fail
 have C2 : Cel b 26 #[.int .i64 k, .int .i64 fr, .int .i64 tn, .int .i64 op, .int .i64 fo, .string key, .int .i64 bk, .slice ea e1.length ec, .slice da g1.length dc, .slice ma m1.length mc] ((((((((((w1.setCell ⟨b, 0, none⟩ (.int .i64 k)).setCell ⟨b, 1, none⟩ (.int .i64 fr)).setCell ⟨b, 2, none⟩ (.int .i64 tn)).setCell ⟨b, 3, none⟩ (.int .i64 op)).setCell ⟨b, 4, none⟩ (.int .i64 fo)).setCell ⟨b, 5, none⟩ (.string key)).setCell ⟨b, 6, none⟩ (.int .i64 bk)).setCell ⟨b, 7, none⟩ (.slice ea e1.length ec)).setCell ⟨b, 8, none⟩ (.slice da g1.length dc)).setCell ⟨b, 9, none⟩ (.slice ma m1.length mc)) := HC1.out.wrwAll (vs := [.int .i64 k, .int .i64 fr, .int .i64 tn, .int .i64 op, .int .i64 fo, .string key, .int .i64 bk, .slice ea e1.length ec, .slice da g1.length dc, .slice ma m1.length mc]) rfl
 have O2 : Off (fun _ => False) w ((((((((((w1.setCell ⟨b, 0, none⟩ (.int .i64 k)).setCell ⟨b, 1, none⟩ (.int .i64 fr)).setCell ⟨b, 2, none⟩ (.int .i64 tn)).setCell ⟨b, 3, none⟩ (.int .i64 op)).setCell ⟨b, 4, none⟩ (.int .i64 fo)).setCell ⟨b, 5, none⟩ (.string key)).setCell ⟨b, 6, none⟩ (.int .i64 bk)).setCell ⟨b, 7, none⟩ (.slice ea e1.length ec)).setCell ⟨b, 8, none⟩ (.slice da g1.length dc)).setCell ⟨b, 9, none⟩ (.slice ma m1.length mc)) := off_wrw (g := b) (us := [.int .i64 k, .int .i64 fr, .int .i64 tn, .int .i64 op, .int .i64 fo, .string key, .int .i64 bk, .slice ea e1.length ec, .slice da g1.length dc, .slice ma m1.length mc]) HO1.out (.inr HBW.out)
 generalize ((((((((((w1.setCell ⟨b, 0, none⟩ (.int .i64 k)).setCell ⟨b, 1, none⟩ (.int .i64 fr)).setCell ⟨b, 2, none⟩ (.int .i64 tn)).setCell ⟨b, 3, none⟩ (.int .i64 op)).setCell ⟨b, 4, none⟩ (.int .i64 fo)).setCell ⟨b, 5, none⟩ (.string key)).setCell ⟨b, 6, none⟩ (.int .i64 bk)).setCell ⟨b, 7, none⟩ (.slice ea e1.length ec)).setCell ⟨b, 8, none⟩ (.slice da g1.length dc)).setCell ⟨b, 9, none⟩ (.slice ma m1.length mc)) = V at C2 O2 ⊢
 clear x0 x1 x2 x3 x4 x5 x6 x7 x8 x9 fz HC1 HO1
 obtain ⟨x0, x1, x2, x3, x4, x5, x6, x7, x8, x9⟩ := celw10 C2
 have HC : Hid _ := C2
 have HO : Hid _ := O2
 have HM : Hid _ := HX.out.off O2
 clear C2 O2 HX
 by_cases h1 : k < 1
 ·have d1 : decide (k < 1) = true := decide_eq_true h1
  have HN : Hid (k < 1) := h1
  clear h1
  go_wp2_with fail
  go_ret
  exact ⟨.mk' false (by rw [← HP.out]; exact ⟨fun h => (by cases h), fun h => absurd h.k.1 (by have := HN.out; rw [HF.out.1]; omega)⟩), HO.out⟩
 have d1 : decide (k < 1) = false := decide_eq_false h1
 by_cases h2 : 9 < k
 ·have d2 : decide (9 < k) = true := decide_eq_true h2
  have d2' : decide (k > 9) = true := decide_eq_true h2
  have HN : Hid (9 < k) := h2
  clear h1 h2
  go_wp2_with fail
  go_ret
  exact ⟨.mk' false (by rw [← HP.out]; exact ⟨fun h => (by cases h), fun h => absurd h.k.2 (by have := HN.out; rw [HF.out.1]; omega)⟩), HO.out⟩
 have d2 : decide (9 < k) = false := decide_eq_false h2
 have d2' : decide (k > 9) = false := decide_eq_false h2
 have HK : Hid (1 ≤ k ∧ k ≤ 9) := ⟨by omega, by omega⟩
 clear h1 h2
 go_wp2_with fail
 refine (xisNode_any fr _).mono ?_
 rintro e w2 ⟨rfl, hw⟩
 rw [hw]
 clear hw w2
 cases hnfr : ndB fr
 ·go_wp2_with fail
  go_ret
  exact ⟨.mk' false (by rw [← HP.out]; exact ⟨fun h => (by cases h), fun h => absurd h.fr (by rw [HF.out.2.1, hnfr]; decide)⟩), HO.out⟩
 go_wp2_with fail
 refine (xisNode_any tn _).mono ?_
 rintro e w2 ⟨rfl, hw⟩
 rw [hw]
 clear hw w2
 cases hntn : ndB tn
 ·go_wp2_with fail
  go_ret
  exact ⟨.mk' false (by rw [← HP.out]; exact ⟨fun h => (by cases h), fun h => absurd h.tn (by rw [HF.out.2.2.1, hntn]; decide)⟩), HO.out⟩
 clear d1 d2 d2'
 by_cases h3 : op < 0
 ·have d3 : decide (op < 0) = true := decide_eq_true h3
  have HN : Hid (op < 0) := h3
  clear h3
  go_wp2_with fail
  go_ret
  exact ⟨.mk' false (by rw [← HP.out]; exact ⟨fun h => (by cases h), fun h => absurd h.op.1 (by have := HN.out; rw [HF.out.2.2.2.1]; omega)⟩), HO.out⟩
 have d3 : decide (op < 0) = false := decide_eq_false h3
 by_cases h4 : 1099511627776 < op
 ·have d4 : decide (1099511627776 < op) = true := decide_eq_true h4
  have d4' : decide (op > 1099511627776) = true := decide_eq_true h4
  have HN : Hid (1099511627776 < op) := h4
  clear h3 h4
  go_wp2_with fail
  go_ret
  exact ⟨.mk' false (by rw [← HP.out]; exact ⟨fun h => (by cases h), fun h => absurd h.op.2 (by have := HN.out; rw [HF.out.2.2.2.1]; omega)⟩), HO.out⟩
 have d4 : decide (1099511627776 < op) = false := decide_eq_false h4
 have d4' : decide (op > 1099511627776) = false := decide_eq_false h4
 have HOP : Hid (0 ≤ op ∧ op ≤ 1099511627776) := ⟨by omega, by omega⟩
 clear h3 h4
 go_wp2_with fail
 refine (xisNode_any fo _).mono ?_
 rintro e w2 ⟨rfl, hw⟩
 rw [hw]
 clear hw w2
 cases hnfo : ndB fo
 ·go_wp2_with fail
  go_ret
  exact ⟨.mk' false (by rw [← HP.out]; exact ⟨fun h => (by cases h), fun h => absurd h.fo (by rw [HF.out.2.2.2.2.1, hnfo]; decide)⟩), HO.out⟩
 go_wp2_with fail
 refine (HKY.out _).mono ?_
 rintro e w3 ⟨rfl, o3⟩
 clear x0 x1 x2 x3 x4 x5 x6 x7 x8 x9
 have HO3 : Hid _ := HO.out.trans o3 (fun _ _ h => h)
 have HM3 : Hid _ := HM.out.off o3
 have HC3 : Hid _ := HC.out.off o3 (fun h => h)
 clear HO HM HC o3
 have HO : Hid _ := HO3.out
 have HM : Hid _ := HM3.out
 have HC : Hid _ := HC3.out
 clear HO3 HM3 HC3
 obtain ⟨x0, x1, x2, x3, x4, x5, x6, x7, x8, x9⟩ := celw10 HC.out
 cases ky with
 | false =>
  go_wp2_with fail
  go_ret
  exact ⟨.mk' false (by rw [← HP.out]; exact ⟨fun h => (by cases h), fun h => absurd h.key (by rw [HF.out.2.2.2.2.2.1]; decide)⟩), HO.out⟩
 | true =>
  by_cases h5 : bk < 0
  ·have d5 : decide (bk < 0) = true := decide_eq_true h5
   have HN : Hid (bk < 0) := h5
   clear h5
   go_wp2_with fail
   go_ret
   exact ⟨.mk' false (by rw [← HP.out]; exact ⟨fun h => (by cases h), fun h => absurd h.bk.1 (by have := HN.out; rw [HF.out.2.2.2.2.2.2.1]; omega)⟩), HO.out⟩
  have d5 : decide (bk < 0) = false := decide_eq_false h5
  by_cases h6 : 4 ≤ bk
  ·have d6 : decide (4 ≤ bk) = true := decide_eq_true h6
   have d6' : decide (bk ≥ 4) = true := decide_eq_true h6
   have HN : Hid (4 ≤ bk) := h6
   clear h5 h6
   go_wp2_with fail
   go_ret
   exact ⟨.mk' false (by rw [← HP.out]; exact ⟨fun h => (by cases h), fun h => absurd h.bk.2 (by have := HN.out; rw [HF.out.2.2.2.2.2.2.1]; omega)⟩), HO.out⟩
  have d6 : decide (4 ≤ bk) = false := decide_eq_false h6
  have d6' : decide (bk ≥ 4) = false := decide_eq_false h6
  have HBK : Hid (0 ≤ bk ∧ bk < 4) := ⟨by omega, by omega⟩
  clear h5 h6
  go_wp2_with fail
  refine (HEN.out _).mono ?_
  rintro e w4 ⟨rfl, hw⟩
  rw [hw]
  clear hw w4 d3 d4 d4' d5 d6 d6'
  by_cases h7 : lo ≤ (e1.length : Int)
  case neg =>
   have d7 : decide (lo ≤ (e1.length : Int)) = false := decide_eq_false h7
   have d7' : decide ((e1.length : Int) ≥ lo) = false := decide_eq_false h7
   have HN : Hid (¬ lo ≤ (e1.length : Int)) := h7
   clear h7
   go_wp2_with fail
   go_ret
   exact ⟨.mk' false (by rw [← HP.out]; exact ⟨fun h => (by cases h), fun h => absurd h.lo (by have := HN.out; rw [HF.out.2.2.2.2.2.2.2.1, HLE.out.1]; omega)⟩), HO.out⟩
  have d7 : decide (lo ≤ (e1.length : Int)) = true := decide_eq_true h7
  have d7' : decide ((e1.length : Int) ≥ lo) = true := decide_eq_true h7
  have HLO : Hid (lo ≤ (e1.length : Int)) := h7
  clear h7
  go_wp2_with fail
  refine (allMayE_any ea ec e1 hi _ HM.out.ens).mono ?_
  rintro e w5 ⟨⟨b1, rfl, hb1⟩, o5⟩
  clear x0 x1 x2 x3 x4 x5 x6 x7 x8 x9
  have HB1 : Hid _ := hb1
  have HO5 : Hid _ := HO.out.trans o5 (fun _ _ h => h)
  have HM5 : Hid _ := HM.out.off o5
  have HC5 : Hid _ := HC.out.off o5 (fun h => h)
  clear HM HC o5 hb1
  obtain ⟨x0, x1, x2, x3, x4, x5, x6, x7, x8, x9⟩ := celw10 HC5.out
  cases b1 with
  | false =>
   have HO : Hid _ := HO5.out
   go_wp2_with fail
   go_ret
   exact ⟨.mk' false (by rw [← HP.out]; exact ⟨fun h => (by cases h), fun h => HB1.out.2 ⟨by have := h.hi; rwa [HF.out.2.2.2.2.2.2.2.2, HLE.out.1] at this, HAE.out.1 h.es⟩⟩), HO.out⟩
  | true =>
   have HE1 : Hid _ := HB1.out.1 rfl
   clear HB1
   go_wp2_with fail
   refine (allMayD_any da dc g1 256 _ HM5.out.dgs).mono ?_
   rintro e w6 ⟨⟨b2, rfl, hb2⟩, o6⟩
   clear x0 x1 x2 x3 x4 x5 x6 x7 x8 x9
   have HB2 : Hid _ := hb2
   have HO6 : Hid _ := HO5.out.trans o6 (fun _ _ h => h)
   have HM6 : Hid _ := HM5.out.off o6
   have HC6 : Hid _ := HC5.out.off o6 (fun h => h)
   clear HM5 HC5 HO5 o6 hb2
   obtain ⟨x0, x1, x2, x3, x4, x5, x6, x7, x8, x9⟩ := celw10 HC6.out
   cases b2 with
   | false =>
    go_wp2_with fail
    go_ret
    exact ⟨.mk' false (by rw [← HP.out]; exact ⟨fun h => (by cases h), fun h => HB2.out.2 ⟨by have := h.gl; rw [HLE.out.2.1] at this; omega, HAG.out.1 h.gs⟩⟩), HO6.out⟩
   | true =>
    have HE2 : Hid _ := HB2.out.1 rfl
    clear HB2
    go_wp2_with fail
    refine (allMayM_any ma mc m1 8 _ HM6.out.mbs).mono ?_
    rintro e w7 ⟨⟨b3, rfl, hb3⟩, o7⟩
    clear x0 x1 x2 x3 x4 x5 x6 x7 x8 x9
    have HB3 : Hid _ := hb3
    have HO7 : Hid _ := HO6.out.trans o7 (fun _ _ h => h)
    clear HM6 HC6 HO6 o7 hb3
    go_wp2_with fail
    go_ret
    refine ⟨.mk' b3 ?_, HO7.out⟩
    rw [← HP.out]
    refine ⟨fun h => ?_, fun h => HB3.out.2 ⟨by have := h.ml; rw [HLE.out.2.2] at this; omega, by have := h.ms; rwa [HLE.out.2.2] at this⟩⟩
    have h3 := HB3.out.1 h
    obtain ⟨f0, f1, f2, f3, f4, f5, f6, f7, f8⟩ := HF.out
    obtain ⟨l0, l1, l2⟩ := HLE.out
    exact ⟨by rw [f0]; exact HK.out, by rw [f1]; exact hnfr, by rw [f2]; exact hntn, by rw [f3]; exact HOP.out, by rw [f4]; exact hnfo, by rw [f5], by rw [f6]; exact HBK.out, by rw [f7, l0]; exact HLO.out, by rw [f8, l0]; exact HE1.out.1, HAE.out.2 HE1.out.2, by rw [l1]; have := HE2.out.1; omega, HAG.out.2 HE2.out.2, by rw [l2]; have := h3.1; omega, by rw [l2]; exact h3.2⟩
def mdM (m : Mg) (es : List E) (gs : List G) (ms : List (Int × Int)) : MD := mdOf (plM (msk m.k) m) (cond (msk m.k).es es []) (cond (msk m.k).gs gs []) (cond (msk m.k).ms ms [])
theorem xmay_any (m : Mg) (es : List E) (gs : List G) (ms : List (Int × Int)) (w : World) (h : MsgAt w m es gs ms) :
  Calls Try.prog 12 #[(.agg #[.int .i64 m.k, .int .i64 m.fr, .int .i64 m.tn, .int .i64 m.op, .int .i64 m.fo, .string m.key, .int .i64 m.bk, .slice m.ea m.el m.ec, .slice m.da m.dl m.dc, .slice m.ma m.ml m.mc])] w fun e w' => Yes (MayM (mdM m es gs ms)) e ∧ Off (fun _ => False) w w' :=
 xmay_core m (plM (msk m.k) m) _ _ _ w (h.plain (msk m.k)) (fun W => xbare_any m W)
end Go.Proofs.Ytmbphlkohlggfaa
