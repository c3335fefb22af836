/- Items of several texts. -/
import Derived.Test.YtmbphlkohlggfaaCPt20
import Derived.Test.YtmbphlkohlggfaaCQk18
import Derived.Test.YtmbphlkohlggfaaCEq20
import Derived.Test.YtmbphlkohlggfaaCWs20
namespace Go.Proofs.Ytmbphlkohlggfaa
set_option maxRecDepth 100000
open Go.RowKit
theorem key_toL {a b : ByteArray} : a.toList = b.toList ↔ a = b := ⟨fun e => kb_inj (by rw [toL, toL] at e; exact e), fun e => by rw [e]⟩
theorem eqM_yes (ta tb : Option Addr) (ca cb : Nat) (xs ys : List (Int × Int)) (w : World) (h1 : RowD w ta ca xs) (h2 : RowD w tb cb ys) :
  Calls Try.prog 48 #[.slice ta xs.length ca, .slice tb ys.length cb] w fun e w' => Yes (xs = ys) e ∧ Off (fun _ => False) w w' :=
 (eqM_any ta tb ca cb xs ys w h1 h2).mono (fun e w' ⟨b, h1, h2, h3⟩ => ⟨⟨b, h1, by rwa [List.map_id, List.map_id] at h2⟩, h3⟩)
theorem wpl_callo {P : Program} {ops : Array Oper} {rest : List Oper} {o : Oper} {a : Act} {w : World} {Q : Exit → Act → World → Prop} (d : Nat) (b : Bool) {f : FuncId} {args : Array Value} {P' : Prop} (hw : Region.wanted o (yielded ops a.tmps) = b) (hd : o.dst = some d) (h : b = true → (execOp a.eval o).run P w = .ok (.enter f args) w)
  (hc : Calls P f args w fun e w' => Yes P' e ∧ Off (fun _ => False) w w') (hk : ∀ c w', (b = true → (c = true ↔ P')) → Off (fun _ => False) w w' → wpList P ops Q rest (a.put (some d) (gy b (.bool c))) w') : wpList P ops Q (o :: rest) a w := by
 cases b with
 | true =>
  unfold wpList
  rw [if_pos hw]
  refine .inl ?_
  unfold Oper.wp
  rw [h rfl, Oper.upon_enter]
  refine hc.mono ?_
  rintro e w' ⟨⟨c, rfl, h1⟩, h2⟩
  rw [hd]
  exact hk c w' (fun _ => h1) h2
 | false =>
  unfold wpList
  rw [hw, if_neg (by decide), hd]
  exact hk false w (fun h => by cases h) (Off.refl _ w)
theorem and3 {p7 p8 p9 p10 c8 c9 c10 : Bool} {A E D M : Prop} (e7 : p7 = true ↔ A) (q8 : p8 = (p7 && c8)) (q9 : p9 = (p8 && c9)) (q10 : p10 = (p9 && c10)) (h8 : p7 = true → (c8 = true ↔ E)) (h9 : p8 = true → (c9 = true ↔ D)) (h10 : p9 = true → (c10 = true ↔ M)) : p10 = true ↔ A ∧ E ∧ D ∧ M := by
 subst q8 q9 q10
 rw [← e7]
 cases p7 <;> cases c8 <;> cases c9 <;> cases c10 <;> simp_all
set_option maxHeartbeats 8000000 in
set_option maxHeartbeats 8000000 in
theorem xsame_core (x y X Y : Mg) (e1 e2 : List E) (g1 g2 : List G) (m1 m2 : List (Int × Int)) (w : World) (hx : MsgAt w X e1 g1 m1) (hy : MsgAt w Y e2 g2 m2)
  (hpx : ∀ W, Calls Try.prog 19 #[(.agg #[.int .i64 x.k, .int .i64 x.fr, .int .i64 x.tn, .int .i64 x.op, .int .i64 x.fo, .string x.key, .int .i64 x.bk, .slice x.ea x.el x.ec, .slice x.da x.dl x.dc, .slice x.ma x.ml x.mc])] W fun e w' => e = .returned ((.agg #[.int .i64 X.k, .int .i64 X.fr, .int .i64 X.tn, .int .i64 X.op, .int .i64 X.fo, .string X.key, .int .i64 X.bk, .slice X.ea X.el X.ec, .slice X.da X.dl X.dc, .slice X.ma X.ml X.mc])) ∧ Off (fun _ => False) W w') (hpy : ∀ W, Calls Try.prog 19 #[(.agg #[.int .i64 y.k, .int .i64 y.fr, .int .i64 y.tn, .int .i64 y.op, .int .i64 y.fo, .string y.key, .int .i64 y.bk, .slice y.ea y.el y.ec, .slice y.da y.dl y.dc, .slice y.ma y.ml y.mc])] W fun e w' => e = .returned ((.agg #[.int .i64 Y.k, .int .i64 Y.fr, .int .i64 Y.tn, .int .i64 Y.op, .int .i64 Y.fo, .string Y.key, .int .i64 Y.bk, .slice Y.ea Y.el Y.ec, .slice Y.da Y.dl Y.dc, .slice Y.ma Y.ml Y.mc])) ∧ Off (fun _ => False) W w') :
  Calls Try.prog 15 #[(.agg #[.int .i64 x.k, .int .i64 x.fr, .int .i64 x.tn, .int .i64 x.op, .int .i64 x.fo, .string x.key, .int .i64 x.bk, .slice x.ea x.el x.ec, .slice x.da x.dl x.dc, .slice x.ma x.ml x.mc]), (.agg #[.int .i64 y.k, .int .i64 y.fr, .int .i64 y.tn, .int .i64 y.op, .int .i64 y.fo, .string y.key, .int .i64 y.bk, .slice y.ea y.el y.ec, .slice y.da y.dl y.dc, .slice y.ma y.ml y.mc])] w fun e w' => Yes (nfP X e1 g1 m1 = nfP Y e2 g2 m2) e ∧ Off (fun _ => False) w w' := by
 have HPX : Hid (∀ W, Calls Try.prog 19 #[(.agg #[.int .i64 x.k, .int .i64 x.fr, .int .i64 x.tn, .int .i64 x.op, .int .i64 x.fo, .string x.key, .int .i64 x.bk, .slice x.ea x.el x.ec, .slice x.da x.dl x.dc, .slice x.ma x.ml x.mc])] W fun e w' => e = .returned ((.agg #[.int .i64 X.k, .int .i64 X.fr, .int .i64 X.tn, .int .i64 X.op, .int .i64 X.fo, .string X.key, .int .i64 X.bk, .slice X.ea X.el X.ec, .slice X.da X.dl X.dc, .slice X.ma X.ml X.mc])) ∧ Off (fun _ => False) W w') := hpx
 have HPY : Hid (∀ W, Calls Try.prog 19 #[(.agg #[.int .i64 y.k, .int .i64 y.fr, .int .i64 y.tn, .int .i64 y.op, .int .i64 y.fo, .string y.key, .int .i64 y.bk, .slice y.ea y.el y.ec, .slice y.da y.dl y.dc, .slice y.ma y.ml y.mc])] W fun e w' => e = .returned ((.agg #[.int .i64 Y.k, .int .i64 Y.fr, .int .i64 Y.tn, .int .i64 Y.op, .int .i64 Y.fo, .string Y.key, .int .i64 Y.bk, .slice Y.ea Y.el Y.ec, .slice Y.da Y.dl Y.dc, .slice Y.ma Y.ml Y.mc])) ∧ Off (fun _ => False) W w') := hpy
 have HMX : Hid _ := hx
 have HMY : Hid _ := hy
 clear hpx hpy hx hy
 obtain ⟨W0, hW⟩ : ∃ W0, W0 = (w.alloc (.cells #[.int .i64 x.k, .int .i64 x.fr, .int .i64 x.tn, .int .i64 x.op, .int .i64 x.fo, .string x.key, .int .i64 x.bk, .slice x.ea x.el x.ec, .slice x.da x.dl x.dc, .slice x.ma x.ml x.mc] 26)).alloc (.cells #[.int .i64 y.k, .int .i64 y.fr, .int .i64 y.tn, .int .i64 y.op, .int .i64 y.fo, .string y.key, .int .i64 y.bk, .slice y.ea y.el y.ec, .slice y.da y.dl y.dc, .slice y.ma y.ml y.mc] 26) := ⟨_, rfl⟩
 have HOW : Hid (Off (fun _ => False) w W0) := by rw [hW]; exact ((Off.refl _ w).alloc _).alloc _
 have HB0 : Hid (Cel w.heap.size 26 #[.int .i64 x.k, .int .i64 x.fr, .int .i64 x.tn, .int .i64 x.op, .int .i64 x.fo, .string x.key, .int .i64 x.bk, .slice x.ea x.el x.ec, .slice x.da x.dl x.dc, .slice x.ma x.ml x.mc] W0) := by rw [hW]; exact (Cel.new w _ _).alloc _
 have HB1 : Hid (Cel (w.heap.size + 1) 26 #[.int .i64 y.k, .int .i64 y.fr, .int .i64 y.tn, .int .i64 y.op, .int .i64 y.fo, .string y.key, .int .i64 y.bk, .slice y.ea y.el y.ec, .slice y.da y.dl y.dc, .slice y.ma y.ml y.mc] W0) := by
  rw [hW]
  have := Cel.new (w.alloc (.cells #[.int .i64 x.k, .int .i64 x.fr, .int .i64 x.tn, .int .i64 x.op, .int .i64 x.fo, .string x.key, .int .i64 x.bk, .slice x.ea x.el x.ec, .slice x.da x.dl x.dc, .slice x.ma x.ml x.mc] 26)) 26 #[.int .i64 y.k, .int .i64 y.fr, .int .i64 y.tn, .int .i64 y.op, .int .i64 y.fo, .string y.key, .int .i64 y.bk, .slice y.ea y.el y.ec, .slice y.da y.dl y.dc, .slice y.ma y.ml y.mc]
  rwa [World.size_alloc] at this
 go_enter Try.func15, Try.ntmps15
 go_upto_region 1 with fail
 rw [← hW]
 clear hW
 obtain ⟨B1, hb1⟩ : ∃ B1, B1 = w.heap.size + 1 := ⟨_, rfl⟩
 rw [← hb1] at HB1 ⊢
 obtain ⟨B0, hb0⟩ : ∃ B0, B0 = w.heap.size := ⟨_, rfl⟩
 rw [← hb0] at HB0 ⊢
 have HNB : Hid (B0 ≠ B1) := by show _ ≠ _; omega
 have HBW : Hid (w.heap.size ≤ B0 ∧ w.heap.size ≤ B1) := ⟨by omega, by omega⟩
 clear hb0 hb1
 go_cut [] from 5 to 8 (fun wx => Cel B0 26 #[.int .i64 X.k, .int .i64 X.fr, .int .i64 X.tn, .int .i64 X.op, .int .i64 X.fo, .string X.key, .int .i64 X.bk, .slice X.ea X.el X.ec, .slice X.da X.dl X.dc, .slice X.ma X.ml X.mc] wx ∧ Cel B1 26 #[.int .i64 Y.k, .int .i64 Y.fr, .int .i64 Y.tn, .int .i64 Y.op, .int .i64 Y.fo, .string Y.key, .int .i64 Y.bk, .slice Y.ea Y.el Y.ec, .slice Y.da Y.dl Y.dc, .slice Y.ma Y.ml Y.mc] wx ∧ Off (fun _ => False) w wx)
 case first =>
  refine wp_region_held_drew (S := Off (fun c => c = B0 ∨ c = B1) W0) (by kernel_rfl) ((Off.refl (fun c => c = B0 ∨ c = B1) W0).drew) (fun hS => ?_)
  refine wpAnyH_ready (rs := [0, 2]) (by kernel_rfl) (by simp) ?_
  refine AllReadyH.cons rfl (fun K' hK' => ?_) (AllReadyH.cons rfl (fun K' hK' => ?_) AllReadyH.nil)
  ·obtain ⟨x0, x1, x2, x3, x4, x5, x6, x7, x8, x9⟩ := celw10 (HB0.out.drew)
   go_simp
   refine hK'.out _ _ hS (fun hS => ?_)
   clear hK' K' x0 x1 x2 x3 x4 x5 x6 x7 x8 x9
   refine wpAnyH_ready (rs := [1, 2]) (by kernel_rfl) (by simp) ?_
   refine AllReadyH.cons rfl (fun K' hK' => ?_) (AllReadyH.cons rfl (fun K' hK' => ?_) AllReadyH.nil)
   ·go_simp
    refine (HPX.out _).mono ?_
    rintro e0 W1 ⟨rfl, o1⟩
    refine hK'.out _ _ (hS.trans o1 (fun _ _ h => h.elim)) (fun hS => ?_)
    have HO1 : Hid _ := o1
    clear hK' K' o1
    refine wpAnyH_ready (rs := [2]) (by kernel_rfl) (by simp) ?_
    refine AllReadyH.cons rfl (fun K' hK' => ?_) AllReadyH.nil
    obtain ⟨x0, x1, x2, x3, x4, x5, x6, x7, x8, x9⟩ := celw10 ((HB1.out.drew.off HO1.out (fun h => h)))
    go_simp
    refine hK'.out _ _ hS (fun hS => ?_)
    clear hK' K' x0 x1 x2 x3 x4 x5 x6 x7 x8 x9
    refine wpAnyH_ready (rs := [3]) (by kernel_rfl) (by simp) ?_
    refine AllReadyH.cons rfl (fun K' hK' => ?_) AllReadyH.nil
    go_simp
    refine (HPY.out _).mono ?_
    rintro e0 W2 ⟨rfl, o2⟩
    refine hK'.out _ _ (hS.trans o2 (fun _ _ h => h.elim)) (fun hS => ?_)
    have HO2 : Hid (Off (fun _ => False) W0 W2) := ((Off.refl (fun _ => False) W0).drew.trans HO1.out (fun _ _ h => h)).trans o2 (fun _ _ h => h)
    clear hK' K' o2
    have Z0 := HB0.out.off HO2.out (fun h => h)
    have Z1 := HB1.out.off HO2.out (fun h => h)
    obtain ⟨x0, x1, x2, x3, x4, x5, x6, x7, x8, x9⟩ := celw10 Z0
    have fz := Z0.free
    refine wpAnyH_ready (rs := [4]) (by kernel_rfl) (by simp) ?_
    refine AllReadyH.cons rfl (fun K' hK' => ?_) AllReadyH.nil
    go_simp
    have hS5 : Off (fun c => c = B0 ∨ c = B1) W0 (wrw B0 0 (mcs X) W2) := off_wrw (g := B0) (us := mcs X) hS (.inl (.inl rfl))
    refine hK'.out _ _ hS5 (fun hS => ?_)
    clear hK' K' hS5
    have Y0 : Cel B0 26 #[.int .i64 X.k, .int .i64 X.fr, .int .i64 X.tn, .int .i64 X.op, .int .i64 X.fo, .string X.key, .int .i64 X.bk, .slice X.ea X.el X.ec, .slice X.da X.dl X.dc, .slice X.ma X.ml X.mc] (wrw B0 0 (mcs X) W2) := Z0.wrwAll (vs := mcs X) rfl
    have OA : Off (fun c => c = B0) W2 (wrw B0 0 (mcs X) W2) := off_wrw (g := B0) (us := mcs X) (Off.refl _ W2) (.inl rfl)
    have Y1 := Z1.off OA (fun e => HNB.out e.symm)
    clear fz x0 x1 x2 x3 x4 x5 x6 x7 x8 x9
    have hv9 : ∃ V9, wrw B0 0 (mcs X) W2 = V9 := ⟨_, rfl⟩
    obtain ⟨V9, hv9⟩ := hv9
    rw [hv9] at Y0 OA Y1
    have hS9 : Off (fun c => c = B0 ∨ c = B1) W0 V9 := by rw [← hv9]; exact hS
    clear hS
    have hS := hS9
    clear hS9
    change wpAnyH _ _ _ _ _ _ _ _ (wrw B0 0 (mcs X) W2)
    rw [hv9]
    clear hv9
    obtain ⟨x0, x1, x2, x3, x4, x5, x6, x7, x8, x9⟩ := celw10 Y1
    have fz := Y1.free
    refine wpAnyH_ready (rs := [5]) (by kernel_rfl) (by simp) ?_
    refine AllReadyH.cons rfl (fun K' hK' => ?_) AllReadyH.nil
    go_simp
    have hS5 : Off (fun c => c = B0 ∨ c = B1) W0 (wrw B1 0 (mcs Y) V9) := off_wrw (g := B1) (us := mcs Y) hS (.inl (.inr rfl))
    refine hK'.out _ _ hS5 (fun hS => ?_)
    clear hK' K' hS5
    have X1 : Cel B1 26 #[.int .i64 Y.k, .int .i64 Y.fr, .int .i64 Y.tn, .int .i64 Y.op, .int .i64 Y.fo, .string Y.key, .int .i64 Y.bk, .slice Y.ea Y.el Y.ec, .slice Y.da Y.dl Y.dc, .slice Y.ma Y.ml Y.mc] (wrw B1 0 (mcs Y) V9) := Y1.wrwAll (vs := mcs Y) rfl
    have OB : Off (fun c => c = B1) V9 (wrw B1 0 (mcs Y) V9) := off_wrw (g := B1) (us := mcs Y) (Off.refl _ V9) (.inl rfl)
    have X0 := Y0.off OB (fun e => HNB.out e)
    clear fz x0 x1 x2 x3 x4 x5 x6 x7 x8 x9
    refine wpAnyH_done (by kernel_rfl) ?_ _
    have HF : Hid (Cel B0 26 #[.int .i64 X.k, .int .i64 X.fr, .int .i64 X.tn, .int .i64 X.op, .int .i64 X.fo, .string X.key, .int .i64 X.bk, .slice X.ea X.el X.ec, .slice X.da X.dl X.dc, .slice X.ma X.ml X.mc] (wrw B1 0 (mcs Y) V9) ∧ Cel B1 26 #[.int .i64 Y.k, .int .i64 Y.fr, .int .i64 Y.tn, .int .i64 Y.op, .int .i64 Y.fo, .string Y.key, .int .i64 Y.bk, .slice Y.ea Y.el Y.ec, .slice Y.da Y.dl Y.dc, .slice Y.ma Y.ml Y.mc] (wrw B1 0 (mcs Y) V9) ∧ Off (fun _ => False) w (wrw B1 0 (mcs Y) V9)) := ⟨X0, X1, ((HOW.out.trans HO2.out (fun _ _ h => h)).trans OA (fun i hi e => by have e : i = B0 := e; have := HBW.out; omega)).trans OB (fun i hi e => by have e : i = B1 := e; have := HBW.out; omega)⟩
    clear X0 X1 Y0 Y1 Z0 Z1 OA OB hS
    go_wp2_with fail
    go_meet
    case rel => exact HF.out
   ·obtain ⟨x0, x1, x2, x3, x4, x5, x6, x7, x8, x9⟩ := celw10 (HB1.out.drew)
    go_simp
    refine hK'.out _ _ hS (fun hS => ?_)
    clear hK' K' x0 x1 x2 x3 x4 x5 x6 x7 x8 x9
    refine wpAnyH_ready (rs := [1]) (by kernel_rfl) (by simp) ?_
    refine AllReadyH.cons rfl (fun K' hK' => ?_) AllReadyH.nil
    go_simp
    refine (HPX.out _).mono ?_
    rintro e0 W1 ⟨rfl, o1⟩
    refine hK'.out _ _ (hS.trans o1 (fun _ _ h => h.elim)) (fun hS => ?_)
    have HO1 : Hid _ := o1
    clear hK' K' o1
    refine wpAnyH_ready (rs := [3]) (by kernel_rfl) (by simp) ?_
    refine AllReadyH.cons rfl (fun K' hK' => ?_) AllReadyH.nil
    go_simp
    refine (HPY.out _).mono ?_
    rintro e0 W2 ⟨rfl, o2⟩
    refine hK'.out _ _ (hS.trans o2 (fun _ _ h => h.elim)) (fun hS => ?_)
    have HO2 : Hid (Off (fun _ => False) W0 W2) := ((Off.refl (fun _ => False) W0).drew.trans HO1.out (fun _ _ h => h)).trans o2 (fun _ _ h => h)
    clear hK' K' o2
    have Z0 := HB0.out.off HO2.out (fun h => h)
    have Z1 := HB1.out.off HO2.out (fun h => h)
    obtain ⟨x0, x1, x2, x3, x4, x5, x6, x7, x8, x9⟩ := celw10 Z0
    have fz := Z0.free
    refine wpAnyH_ready (rs := [4]) (by kernel_rfl) (by simp) ?_
    refine AllReadyH.cons rfl (fun K' hK' => ?_) AllReadyH.nil
    go_simp
    have hS5 : Off (fun c => c = B0 ∨ c = B1) W0 (wrw B0 0 (mcs X) W2) := off_wrw (g := B0) (us := mcs X) hS (.inl (.inl rfl))
    refine hK'.out _ _ hS5 (fun hS => ?_)
    clear hK' K' hS5
    have Y0 : Cel B0 26 #[.int .i64 X.k, .int .i64 X.fr, .int .i64 X.tn, .int .i64 X.op, .int .i64 X.fo, .string X.key, .int .i64 X.bk, .slice X.ea X.el X.ec, .slice X.da X.dl X.dc, .slice X.ma X.ml X.mc] (wrw B0 0 (mcs X) W2) := Z0.wrwAll (vs := mcs X) rfl
    have OA : Off (fun c => c = B0) W2 (wrw B0 0 (mcs X) W2) := off_wrw (g := B0) (us := mcs X) (Off.refl _ W2) (.inl rfl)
    have Y1 := Z1.off OA (fun e => HNB.out e.symm)
    clear fz x0 x1 x2 x3 x4 x5 x6 x7 x8 x9
    have hv9 : ∃ V9, wrw B0 0 (mcs X) W2 = V9 := ⟨_, rfl⟩
    obtain ⟨V9, hv9⟩ := hv9
    rw [hv9] at Y0 OA Y1
    have hS9 : Off (fun c => c = B0 ∨ c = B1) W0 V9 := by rw [← hv9]; exact hS
    clear hS
    have hS := hS9
    clear hS9
    change wpAnyH _ _ _ _ _ _ _ _ (wrw B0 0 (mcs X) W2)
    rw [hv9]
    clear hv9
    obtain ⟨x0, x1, x2, x3, x4, x5, x6, x7, x8, x9⟩ := celw10 Y1
    have fz := Y1.free
    refine wpAnyH_ready (rs := [5]) (by kernel_rfl) (by simp) ?_
    refine AllReadyH.cons rfl (fun K' hK' => ?_) AllReadyH.nil
    go_simp
    have hS5 : Off (fun c => c = B0 ∨ c = B1) W0 (wrw B1 0 (mcs Y) V9) := off_wrw (g := B1) (us := mcs Y) hS (.inl (.inr rfl))
    refine hK'.out _ _ hS5 (fun hS => ?_)
    clear hK' K' hS5
    have X1 : Cel B1 26 #[.int .i64 Y.k, .int .i64 Y.fr, .int .i64 Y.tn, .int .i64 Y.op, .int .i64 Y.fo, .string Y.key, .int .i64 Y.bk, .slice Y.ea Y.el Y.ec, .slice Y.da Y.dl Y.dc, .slice Y.ma Y.ml Y.mc] (wrw B1 0 (mcs Y) V9) := Y1.wrwAll (vs := mcs Y) rfl
    have OB : Off (fun c => c = B1) V9 (wrw B1 0 (mcs Y) V9) := off_wrw (g := B1) (us := mcs Y) (Off.refl _ V9) (.inl rfl)
    have X0 := Y0.off OB (fun e => HNB.out e)
    clear fz x0 x1 x2 x3 x4 x5 x6 x7 x8 x9
    refine wpAnyH_done (by kernel_rfl) ?_ _
    have HF : Hid (Cel B0 26 #[.int .i64 X.k, .int .i64 X.fr, .int .i64 X.tn, .int .i64 X.op, .int .i64 X.fo, .string X.key, .int .i64 X.bk, .slice X.ea X.el X.ec, .slice X.da X.dl X.dc, .slice X.ma X.ml X.mc] (wrw B1 0 (mcs Y) V9) ∧ Cel B1 26 #[.int .i64 Y.k, .int .i64 Y.fr, .int .i64 Y.tn, .int .i64 Y.op, .int .i64 Y.fo, .string Y.key, .int .i64 Y.bk, .slice Y.ea Y.el Y.ec, .slice Y.da Y.dl Y.dc, .slice Y.ma Y.ml Y.mc] (wrw B1 0 (mcs Y) V9) ∧ Off (fun _ => False) w (wrw B1 0 (mcs Y) V9)) := ⟨X0, X1, ((HOW.out.trans HO2.out (fun _ _ h => h)).trans OA (fun i hi e => by have e : i = B0 := e; have := HBW.out; omega)).trans OB (fun i hi e => by have e : i = B1 := e; have := HBW.out; omega)⟩
    clear X0 X1 Y0 Y1 Z0 Z1 OA OB hS
    go_wp2_with fail
    go_meet
    case rel => exact HF.out
  ·obtain ⟨x0, x1, x2, x3, x4, x5, x6, x7, x8, x9⟩ := celw10 (HB1.out.drew)
   go_simp
   refine hK'.out _ _ hS (fun hS => ?_)
   clear hK' K' x0 x1 x2 x3 x4 x5 x6 x7 x8 x9
   refine wpAnyH_ready (rs := [0]) (by kernel_rfl) (by simp) ?_
   refine AllReadyH.cons rfl (fun K' hK' => ?_) AllReadyH.nil
   obtain ⟨x0, x1, x2, x3, x4, x5, x6, x7, x8, x9⟩ := celw10 (HB0.out.drew)
   go_simp
   refine hK'.out _ _ hS (fun hS => ?_)
   clear hK' K' x0 x1 x2 x3 x4 x5 x6 x7 x8 x9
   refine wpAnyH_ready (rs := [1]) (by kernel_rfl) (by simp) ?_
   refine AllReadyH.cons rfl (fun K' hK' => ?_) AllReadyH.nil
   go_simp
   refine (HPX.out _).mono ?_
   rintro e0 W1 ⟨rfl, o1⟩
   refine hK'.out _ _ (hS.trans o1 (fun _ _ h => h.elim)) (fun hS => ?_)
   have HO1 : Hid _ := o1
   clear hK' K' o1
   refine wpAnyH_ready (rs := [3]) (by kernel_rfl) (by simp) ?_
   refine AllReadyH.cons rfl (fun K' hK' => ?_) AllReadyH.nil
   go_simp
   refine (HPY.out _).mono ?_
   rintro e0 W2 ⟨rfl, o2⟩
   refine hK'.out _ _ (hS.trans o2 (fun _ _ h => h.elim)) (fun hS => ?_)
   have HO2 : Hid (Off (fun _ => False) W0 W2) := ((Off.refl (fun _ => False) W0).drew.trans HO1.out (fun _ _ h => h)).trans o2 (fun _ _ h => h)
   clear hK' K' o2
   have Z0 := HB0.out.off HO2.out (fun h => h)
   have Z1 := HB1.out.off HO2.out (fun h => h)
   obtain ⟨x0, x1, x2, x3, x4, x5, x6, x7, x8, x9⟩ := celw10 Z0
   have fz := Z0.free
   refine wpAnyH_ready (rs := [4]) (by kernel_rfl) (by simp) ?_
   refine AllReadyH.cons rfl (fun K' hK' => ?_) AllReadyH.nil
   go_simp
   have hS5 : Off (fun c => c = B0 ∨ c = B1) W0 (wrw B0 0 (mcs X) W2) := off_wrw (g := B0) (us := mcs X) hS (.inl (.inl rfl))
   refine hK'.out _ _ hS5 (fun hS => ?_)
   clear hK' K' hS5
   have Y0 : Cel B0 26 #[.int .i64 X.k, .int .i64 X.fr, .int .i64 X.tn, .int .i64 X.op, .int .i64 X.fo, .string X.key, .int .i64 X.bk, .slice X.ea X.el X.ec, .slice X.da X.dl X.dc, .slice X.ma X.ml X.mc] (wrw B0 0 (mcs X) W2) := Z0.wrwAll (vs := mcs X) rfl
   have OA : Off (fun c => c = B0) W2 (wrw B0 0 (mcs X) W2) := off_wrw (g := B0) (us := mcs X) (Off.refl _ W2) (.inl rfl)
   have Y1 := Z1.off OA (fun e => HNB.out e.symm)
   clear fz x0 x1 x2 x3 x4 x5 x6 x7 x8 x9
   have hv9 : ∃ V9, wrw B0 0 (mcs X) W2 = V9 := ⟨_, rfl⟩
   obtain ⟨V9, hv9⟩ := hv9
   rw [hv9] at Y0 OA Y1
   have hS9 : Off (fun c => c = B0 ∨ c = B1) W0 V9 := by rw [← hv9]; exact hS
   clear hS
   have hS := hS9
   clear hS9
   change wpAnyH _ _ _ _ _ _ _ _ (wrw B0 0 (mcs X) W2)
   rw [hv9]
   clear hv9
   obtain ⟨x0, x1, x2, x3, x4, x5, x6, x7, x8, x9⟩ := celw10 Y1
   have fz := Y1.free
   refine wpAnyH_ready (rs := [5]) (by kernel_rfl) (by simp) ?_
   refine AllReadyH.cons rfl (fun K' hK' => ?_) AllReadyH.nil
   go_simp
   have hS5 : Off (fun c => c = B0 ∨ c = B1) W0 (wrw B1 0 (mcs Y) V9) := off_wrw (g := B1) (us := mcs Y) hS (.inl (.inr rfl))
   refine hK'.out _ _ hS5 (fun hS => ?_)
   clear hK' K' hS5
   have X1 : Cel B1 26 #[.int .i64 Y.k, .int .i64 Y.fr, .int .i64 Y.tn, .int .i64 Y.op, .int .i64 Y.fo, .string Y.key, .int .i64 Y.bk, .slice Y.ea Y.el Y.ec, .slice Y.da Y.dl Y.dc, .slice Y.ma Y.ml Y.mc] (wrw B1 0 (mcs Y) V9) := Y1.wrwAll (vs := mcs Y) rfl
   have OB : Off (fun c => c = B1) V9 (wrw B1 0 (mcs Y) V9) := off_wrw (g := B1) (us := mcs Y) (Off.refl _ V9) (.inl rfl)
   have X0 := Y0.off OB (fun e => HNB.out e)
   clear fz x0 x1 x2 x3 x4 x5 x6 x7 x8 x9
   refine wpAnyH_done (by kernel_rfl) ?_ _
   have HF : Hid (Cel B0 26 #[.int .i64 X.k, .int .i64 X.fr, .int .i64 X.tn, .int .i64 X.op, .int .i64 X.fo, .string X.key, .int .i64 X.bk, .slice X.ea X.el X.ec, .slice X.da X.dl X.dc, .slice X.ma X.ml X.mc] (wrw B1 0 (mcs Y) V9) ∧ Cel B1 26 #[.int .i64 Y.k, .int .i64 Y.fr, .int .i64 Y.tn, .int .i64 Y.op, .int .i64 Y.fo, .string Y.key, .int .i64 Y.bk, .slice Y.ea Y.el Y.ec, .slice Y.da Y.dl Y.dc, .slice Y.ma Y.ml Y.mc] (wrw B1 0 (mcs Y) V9) ∧ Off (fun _ => False) w (wrw B1 0 (mcs Y) V9)) := ⟨X0, X1, ((HOW.out.trans HO2.out (fun _ _ h => h)).trans OA (fun i hi e => by have e : i = B0 := e; have := HBW.out; omega)).trans OB (fun i hi e => by have e : i = B1 := e; have := HBW.out; omega)⟩
   clear X0 X1 Y0 Y1 Z0 Z1 OA OB hS
   go_wp2_with fail
   go_meet
   case rel => exact HF.out
 case rest =>
  obtain ⟨c0, c1', o⟩ := hcut
  have HC0 : Hid _ := c0
  have HC1 : Hid _ := c1'
  have HO : Hid _ := o
  have HEX : Hid _ := HMX.out.off o
  have HEY : Hid _ := HMY.out.off o
  have l1 := HMX.out.el
  have l2 := HMY.out.el
  have l3 := HMX.out.dl
  have l4 := HMY.out.dl
  have l5 := HMX.out.ml
  have l6 := HMY.out.ml
  obtain ⟨x0, x1, x2, x3, x4, x5, x6, x7, x8, x9⟩ := celw10 c0
  obtain ⟨y0, y1, y2, y3, y4, y5, y6, y7, y8, y9⟩ := celw10 c1'
  rw [l1] at x7
  rw [l2] at y7
  rw [l3] at x8
  rw [l4] at y8
  rw [l5] at x9
  rw [l6] at y9
  clear c0 c1' o HB0 HB1 HPX HPY HOW HBW
  have HL : Hid (X.el = e1.length ∧ Y.el = e2.length ∧ X.dl = g1.length ∧ Y.dl = g2.length ∧ X.ml = m1.length ∧ Y.ml = m2.length) := ⟨l1, l2, l3, l4, l5, l6⟩
  clear l1 l2 l3 l4 l5 l6
  obtain ⟨c1, hc1⟩ : ∃ c : Bool, c = ((X.k == Y.k)) := ⟨_, rfl⟩
  have Hc1 : Hid (c1 = true ↔ X.k = Y.k) := by
   show _ ↔ _
   rw [hc1]
   first | exact decide_eq_true_iff | exact beq_iff_eq
  have rc1 : (X.k == Y.k) = c1 := hc1.symm
  have rc1' : decide (X.k = Y.k) = c1 := by rw [Bool.eq_iff_iff, Hc1.out]; exact decide_eq_true_iff
  clear hc1
  obtain ⟨c2, hc2⟩ : ∃ c : Bool, c = ((X.fr == Y.fr)) := ⟨_, rfl⟩
  have Hc2 : Hid (c2 = true ↔ X.fr = Y.fr) := by
   show _ ↔ _
   rw [hc2]
   first | exact decide_eq_true_iff | exact beq_iff_eq
  have rc2 : (X.fr == Y.fr) = c2 := hc2.symm
  have rc2' : decide (X.fr = Y.fr) = c2 := by rw [Bool.eq_iff_iff, Hc2.out]; exact decide_eq_true_iff
  clear hc2
  obtain ⟨c3, hc3⟩ : ∃ c : Bool, c = ((X.tn == Y.tn)) := ⟨_, rfl⟩
  have Hc3 : Hid (c3 = true ↔ X.tn = Y.tn) := by
   show _ ↔ _
   rw [hc3]
   first | exact decide_eq_true_iff | exact beq_iff_eq
  have rc3 : (X.tn == Y.tn) = c3 := hc3.symm
  have rc3' : decide (X.tn = Y.tn) = c3 := by rw [Bool.eq_iff_iff, Hc3.out]; exact decide_eq_true_iff
  clear hc3
  obtain ⟨c4, hc4⟩ : ∃ c : Bool, c = ((X.op == Y.op)) := ⟨_, rfl⟩
  have Hc4 : Hid (c4 = true ↔ X.op = Y.op) := by
   show _ ↔ _
   rw [hc4]
   first | exact decide_eq_true_iff | exact beq_iff_eq
  have rc4 : (X.op == Y.op) = c4 := hc4.symm
  have rc4' : decide (X.op = Y.op) = c4 := by rw [Bool.eq_iff_iff, Hc4.out]; exact decide_eq_true_iff
  clear hc4
  obtain ⟨c5, hc5⟩ : ∃ c : Bool, c = ((X.fo == Y.fo)) := ⟨_, rfl⟩
  have Hc5 : Hid (c5 = true ↔ X.fo = Y.fo) := by
   show _ ↔ _
   rw [hc5]
   first | exact decide_eq_true_iff | exact beq_iff_eq
  have rc5 : (X.fo == Y.fo) = c5 := hc5.symm
  have rc5' : decide (X.fo = Y.fo) = c5 := by rw [Bool.eq_iff_iff, Hc5.out]; exact decide_eq_true_iff
  clear hc5
  obtain ⟨c6, hc6⟩ : ∃ c : Bool, c = (decide (X.key = Y.key)) := ⟨_, rfl⟩
  have Hc6 : Hid (c6 = true ↔ X.key = Y.key) := by
   show _ ↔ _
   rw [hc6]
   first | exact decide_eq_true_iff | exact beq_iff_eq
  have rc6 : (X.key.toList == Y.key.toList) = c6 := by rw [Bool.eq_iff_iff, Hc6.out, beq_iff_eq]; exact key_toL
  have rc6' : decide (X.key.toList = Y.key.toList) = c6 := by rw [Bool.eq_iff_iff, Hc6.out, decide_eq_true_iff]; exact key_toL
  clear hc6
  obtain ⟨c7, hc7⟩ : ∃ c : Bool, c = ((X.bk == Y.bk)) := ⟨_, rfl⟩
  have Hc7 : Hid (c7 = true ↔ X.bk = Y.bk) := by
   show _ ↔ _
   rw [hc7]
   first | exact decide_eq_true_iff | exact beq_iff_eq
  have rc7 : (X.bk == Y.bk) = c7 := hc7.symm
  have rc7' : decide (X.bk = Y.bk) = c7 := by rw [Bool.eq_iff_iff, Hc7.out]; exact decide_eq_true_iff
  clear hc7
  obtain ⟨p2, hp2⟩ : ∃ p, p = (c1 && c2) := ⟨_, rfl⟩
  have Hp2 : Hid (p2 = (c1 && c2)) := hp2
  clear hp2
  obtain ⟨p3, hp3⟩ : ∃ p, p = (p2 && c3) := ⟨_, rfl⟩
  have Hp3 : Hid (p3 = (p2 && c3)) := hp3
  clear hp3
  obtain ⟨p4, hp4⟩ : ∃ p, p = (p3 && c4) := ⟨_, rfl⟩
  have Hp4 : Hid (p4 = (p3 && c4)) := hp4
  clear hp4
  obtain ⟨p5, hp5⟩ : ∃ p, p = (p4 && c5) := ⟨_, rfl⟩
  have Hp5 : Hid (p5 = (p4 && c5)) := hp5
  clear hp5
  obtain ⟨p6, hp6⟩ : ∃ p, p = (p5 && c6) := ⟨_, rfl⟩
  have Hp6 : Hid (p6 = (p5 && c6)) := hp6
  clear hp6
  obtain ⟨p7, hp7⟩ : ∃ p, p = (p6 && c7) := ⟨_, rfl⟩
  have Hp7 : Hid (p7 = (p6 && c7)) := hp7
  clear hp7
  have HO_ : Hid (Off (fun _ => False) wc wc) := Off.refl _ wc
  go_upto_region 2 with fail
  refine wp_region_lit ?_
  refine wpl_t 9 (v := .pointer (some ⟨B0, 0, none⟩)) (by kernel_rfl) rfl (by go_simp) ?_
  simp only [Act.put, lsA, lsZ, lsS]
  refine wpl_t 10 (v := .int .i64 X.k) (by kernel_rfl) rfl (by go_simp) ?_
  simp only [Act.put, lsA, lsZ, lsS]
  refine wpl_t 11 (v := .pointer (some ⟨B1, 0, none⟩)) (by kernel_rfl) rfl (by go_simp) ?_
  simp only [Act.put, lsA, lsZ, lsS]
  refine wpl_t 12 (v := .int .i64 Y.k) (by kernel_rfl) rfl (by go_simp) ?_
  simp only [Act.put, lsA, lsZ, lsS]
  refine wpl_t 13 (v := .bool c1) (by kernel_rfl) rfl (by go_simp) ?_
  simp only [Act.put, lsA, lsZ, lsS]
  refine wpl_t 14 (v := .bool c1) (by kernel_rfl) rfl (by go_simp) ?_
  simp only [Act.put, lsA, lsZ, lsS]
  refine wpl_g 15 c1 (v := .pointer (some ⟨B0, 1, none⟩)) (by cases c1 <;> kernel_rfl) rfl (fun hg => by
   have hgy : ∀ v, gy c1 v = v := fun v => by rw [hg]; rfl
   have hgt : ∀ v, gy true v = v := fun _ => rfl
   go_simp) ?_
  simp only [Act.put, lsA, lsZ, lsS]
  refine wpl_g 16 c1 (v := .int .i64 X.fr) (by cases c1 <;> kernel_rfl) rfl (fun hg => by
   have hgy : ∀ v, gy c1 v = v := fun v => by rw [hg]; rfl
   have hgt : ∀ v, gy true v = v := fun _ => rfl
   go_simp) ?_
  simp only [Act.put, lsA, lsZ, lsS]
  refine wpl_g 17 c1 (v := .pointer (some ⟨B1, 1, none⟩)) (by cases c1 <;> kernel_rfl) rfl (fun hg => by
   have hgy : ∀ v, gy c1 v = v := fun v => by rw [hg]; rfl
   have hgt : ∀ v, gy true v = v := fun _ => rfl
   go_simp) ?_
  simp only [Act.put, lsA, lsZ, lsS]
  refine wpl_g 18 c1 (v := .int .i64 Y.fr) (by cases c1 <;> kernel_rfl) rfl (fun hg => by
   have hgy : ∀ v, gy c1 v = v := fun v => by rw [hg]; rfl
   have hgt : ∀ v, gy true v = v := fun _ => rfl
   go_simp) ?_
  simp only [Act.put, lsA, lsZ, lsS]
  refine wpl_g 19 c1 (v := .bool c2) (by cases c1 <;> kernel_rfl) rfl (fun hg => by
   have hgy : ∀ v, gy c1 v = v := fun v => by rw [hg]; rfl
   have hgt : ∀ v, gy true v = v := fun _ => rfl
   go_simp) ?_
  simp only [Act.put, lsA, lsZ, lsS]
  refine wpl_t 20 (v := .bool p2) (by kernel_rfl) rfl (by rw [Hp2.out]; exact exec_pand0 rfl rfl rfl rfl) ?_
  simp only [Act.put, lsA, lsZ, lsS]
  refine wpl_t 21 (v := .bool p2) (by kernel_rfl) rfl (by go_simp) ?_
  simp only [Act.put, lsA, lsZ, lsS]
  refine wpl_g 22 p2 (v := .pointer (some ⟨B0, 2, none⟩)) (by cases p2 <;> kernel_rfl) rfl (fun hg => by
   have hgy : ∀ v, gy p2 v = v := fun v => by rw [hg]; rfl
   have hgt : ∀ v, gy true v = v := fun _ => rfl
   go_simp) ?_
  simp only [Act.put, lsA, lsZ, lsS]
  refine wpl_g 23 p2 (v := .int .i64 X.tn) (by cases p2 <;> kernel_rfl) rfl (fun hg => by
   have hgy : ∀ v, gy p2 v = v := fun v => by rw [hg]; rfl
   have hgt : ∀ v, gy true v = v := fun _ => rfl
   go_simp) ?_
  simp only [Act.put, lsA, lsZ, lsS]
  refine wpl_g 24 p2 (v := .pointer (some ⟨B1, 2, none⟩)) (by cases p2 <;> kernel_rfl) rfl (fun hg => by
   have hgy : ∀ v, gy p2 v = v := fun v => by rw [hg]; rfl
   have hgt : ∀ v, gy true v = v := fun _ => rfl
   go_simp) ?_
  simp only [Act.put, lsA, lsZ, lsS]
  refine wpl_g 25 p2 (v := .int .i64 Y.tn) (by cases p2 <;> kernel_rfl) rfl (fun hg => by
   have hgy : ∀ v, gy p2 v = v := fun v => by rw [hg]; rfl
   have hgt : ∀ v, gy true v = v := fun _ => rfl
   go_simp) ?_
  simp only [Act.put, lsA, lsZ, lsS]
  refine wpl_g 26 p2 (v := .bool c3) (by cases p2 <;> kernel_rfl) rfl (fun hg => by
   have hgy : ∀ v, gy p2 v = v := fun v => by rw [hg]; rfl
   have hgt : ∀ v, gy true v = v := fun _ => rfl
   go_simp) ?_
  simp only [Act.put, lsA, lsZ, lsS]
  refine wpl_t 27 (v := .bool p3) (by kernel_rfl) rfl (by rw [Hp3.out]; exact exec_pand0 rfl rfl rfl rfl) ?_
  simp only [Act.put, lsA, lsZ, lsS]
  refine wpl_t 28 (v := .bool p3) (by kernel_rfl) rfl (by go_simp) ?_
  simp only [Act.put, lsA, lsZ, lsS]
  refine wpl_g 29 p3 (v := .pointer (some ⟨B0, 3, none⟩)) (by cases p3 <;> kernel_rfl) rfl (fun hg => by
   have hgy : ∀ v, gy p3 v = v := fun v => by rw [hg]; rfl
   have hgt : ∀ v, gy true v = v := fun _ => rfl
   go_simp) ?_
  simp only [Act.put, lsA, lsZ, lsS]
  refine wpl_g 30 p3 (v := .int .i64 X.op) (by cases p3 <;> kernel_rfl) rfl (fun hg => by
   have hgy : ∀ v, gy p3 v = v := fun v => by rw [hg]; rfl
   have hgt : ∀ v, gy true v = v := fun _ => rfl
   go_simp) ?_
  simp only [Act.put, lsA, lsZ, lsS]
  refine wpl_g 31 p3 (v := .pointer (some ⟨B1, 3, none⟩)) (by cases p3 <;> kernel_rfl) rfl (fun hg => by
   have hgy : ∀ v, gy p3 v = v := fun v => by rw [hg]; rfl
   have hgt : ∀ v, gy true v = v := fun _ => rfl
   go_simp) ?_
  simp only [Act.put, lsA, lsZ, lsS]
  refine wpl_g 32 p3 (v := .int .i64 Y.op) (by cases p3 <;> kernel_rfl) rfl (fun hg => by
   have hgy : ∀ v, gy p3 v = v := fun v => by rw [hg]; rfl
   have hgt : ∀ v, gy true v = v := fun _ => rfl
   go_simp) ?_
  simp only [Act.put, lsA, lsZ, lsS]
  refine wpl_g 33 p3 (v := .bool c4) (by cases p3 <;> kernel_rfl) rfl (fun hg => by
   have hgy : ∀ v, gy p3 v = v := fun v => by rw [hg]; rfl
   have hgt : ∀ v, gy true v = v := fun _ => rfl
   go_simp) ?_
  simp only [Act.put, lsA, lsZ, lsS]
  refine wpl_t 34 (v := .bool p4) (by kernel_rfl) rfl (by rw [Hp4.out]; exact exec_pand0 rfl rfl rfl rfl) ?_
  simp only [Act.put, lsA, lsZ, lsS]
  refine wpl_t 35 (v := .bool p4) (by kernel_rfl) rfl (by go_simp) ?_
  simp only [Act.put, lsA, lsZ, lsS]
  refine wpl_g 36 p4 (v := .pointer (some ⟨B0, 4, none⟩)) (by cases p4 <;> kernel_rfl) rfl (fun hg => by
   have hgy : ∀ v, gy p4 v = v := fun v => by rw [hg]; rfl
   have hgt : ∀ v, gy true v = v := fun _ => rfl
   go_simp) ?_
  simp only [Act.put, lsA, lsZ, lsS]
  refine wpl_g 37 p4 (v := .int .i64 X.fo) (by cases p4 <;> kernel_rfl) rfl (fun hg => by
   have hgy : ∀ v, gy p4 v = v := fun v => by rw [hg]; rfl
   have hgt : ∀ v, gy true v = v := fun _ => rfl
   go_simp) ?_
  simp only [Act.put, lsA, lsZ, lsS]
  refine wpl_g 38 p4 (v := .pointer (some ⟨B1, 4, none⟩)) (by cases p4 <;> kernel_rfl) rfl (fun hg => by
   have hgy : ∀ v, gy p4 v = v := fun v => by rw [hg]; rfl
   have hgt : ∀ v, gy true v = v := fun _ => rfl
   go_simp) ?_
  simp only [Act.put, lsA, lsZ, lsS]
  refine wpl_g 39 p4 (v := .int .i64 Y.fo) (by cases p4 <;> kernel_rfl) rfl (fun hg => by
   have hgy : ∀ v, gy p4 v = v := fun v => by rw [hg]; rfl
   have hgt : ∀ v, gy true v = v := fun _ => rfl
   go_simp) ?_
  simp only [Act.put, lsA, lsZ, lsS]
  refine wpl_g 40 p4 (v := .bool c5) (by cases p4 <;> kernel_rfl) rfl (fun hg => by
   have hgy : ∀ v, gy p4 v = v := fun v => by rw [hg]; rfl
   have hgt : ∀ v, gy true v = v := fun _ => rfl
   go_simp) ?_
  simp only [Act.put, lsA, lsZ, lsS]
  refine wpl_t 41 (v := .bool p5) (by kernel_rfl) rfl (by rw [Hp5.out]; exact exec_pand0 rfl rfl rfl rfl) ?_
  simp only [Act.put, lsA, lsZ, lsS]
  refine wpl_t 42 (v := .bool p5) (by kernel_rfl) rfl (by go_simp) ?_
  simp only [Act.put, lsA, lsZ, lsS]
  refine wpl_g 43 p5 (v := .pointer (some ⟨B0, 5, none⟩)) (by cases p5 <;> kernel_rfl) rfl (fun hg => by
   have hgy : ∀ v, gy p5 v = v := fun v => by rw [hg]; rfl
   have hgt : ∀ v, gy true v = v := fun _ => rfl
   go_simp) ?_
  simp only [Act.put, lsA, lsZ, lsS]
  refine wpl_g 44 p5 (v := .string X.key) (by cases p5 <;> kernel_rfl) rfl (fun hg => by
   have hgy : ∀ v, gy p5 v = v := fun v => by rw [hg]; rfl
   have hgt : ∀ v, gy true v = v := fun _ => rfl
   go_simp) ?_
  simp only [Act.put, lsA, lsZ, lsS]
  refine wpl_g 45 p5 (v := .pointer (some ⟨B1, 5, none⟩)) (by cases p5 <;> kernel_rfl) rfl (fun hg => by
   have hgy : ∀ v, gy p5 v = v := fun v => by rw [hg]; rfl
   have hgt : ∀ v, gy true v = v := fun _ => rfl
   go_simp) ?_
  simp only [Act.put, lsA, lsZ, lsS]
  refine wpl_g 46 p5 (v := .string Y.key) (by cases p5 <;> kernel_rfl) rfl (fun hg => by
   have hgy : ∀ v, gy p5 v = v := fun v => by rw [hg]; rfl
   have hgt : ∀ v, gy true v = v := fun _ => rfl
   go_simp) ?_
  simp only [Act.put, lsA, lsZ, lsS]
  refine wpl_g 47 p5 (v := .bool c6) (by cases p5 <;> kernel_rfl) rfl (fun hg => by
   have hgy : ∀ v, gy p5 v = v := fun v => by rw [hg]; rfl
   have hgt : ∀ v, gy true v = v := fun _ => rfl
   go_simp) ?_
  simp only [Act.put, lsA, lsZ, lsS]
  refine wpl_t 48 (v := .bool p6) (by kernel_rfl) rfl (by rw [Hp6.out]; exact exec_pand0 rfl rfl rfl rfl) ?_
  simp only [Act.put, lsA, lsZ, lsS]
  refine wpl_t 49 (v := .bool p6) (by kernel_rfl) rfl (by go_simp) ?_
  simp only [Act.put, lsA, lsZ, lsS]
  refine wpl_g 50 p6 (v := .pointer (some ⟨B0, 6, none⟩)) (by cases p6 <;> kernel_rfl) rfl (fun hg => by
   have hgy : ∀ v, gy p6 v = v := fun v => by rw [hg]; rfl
   have hgt : ∀ v, gy true v = v := fun _ => rfl
   go_simp) ?_
  simp only [Act.put, lsA, lsZ, lsS]
  refine wpl_g 51 p6 (v := .int .i64 X.bk) (by cases p6 <;> kernel_rfl) rfl (fun hg => by
   have hgy : ∀ v, gy p6 v = v := fun v => by rw [hg]; rfl
   have hgt : ∀ v, gy true v = v := fun _ => rfl
   go_simp) ?_
  simp only [Act.put, lsA, lsZ, lsS]
  refine wpl_g 52 p6 (v := .pointer (some ⟨B1, 6, none⟩)) (by cases p6 <;> kernel_rfl) rfl (fun hg => by
   have hgy : ∀ v, gy p6 v = v := fun v => by rw [hg]; rfl
   have hgt : ∀ v, gy true v = v := fun _ => rfl
   go_simp) ?_
  simp only [Act.put, lsA, lsZ, lsS]
  refine wpl_g 53 p6 (v := .int .i64 Y.bk) (by cases p6 <;> kernel_rfl) rfl (fun hg => by
   have hgy : ∀ v, gy p6 v = v := fun v => by rw [hg]; rfl
   have hgt : ∀ v, gy true v = v := fun _ => rfl
   go_simp) ?_
  simp only [Act.put, lsA, lsZ, lsS]
  refine wpl_g 54 p6 (v := .bool c7) (by cases p6 <;> kernel_rfl) rfl (fun hg => by
   have hgy : ∀ v, gy p6 v = v := fun v => by rw [hg]; rfl
   have hgt : ∀ v, gy true v = v := fun _ => rfl
   go_simp) ?_
  simp only [Act.put, lsA, lsZ, lsS]
  refine wpl_t 55 (v := .bool p7) (by kernel_rfl) rfl (by rw [Hp7.out]; exact exec_pand0 rfl rfl rfl rfl) ?_
  simp only [Act.put, lsA, lsZ, lsS]
  refine wpl_t 56 (v := .bool p7) (by kernel_rfl) rfl (by go_simp) ?_
  simp only [Act.put, lsA, lsZ, lsS]
  refine wpl_g 57 p7 (v := .pointer (some ⟨B0, 7, none⟩)) (by cases p7 <;> kernel_rfl) rfl (fun hg => by
   have hgy : ∀ v, gy p7 v = v := fun v => by rw [hg]; rfl
   have hgt : ∀ v, gy true v = v := fun _ => rfl
   go_simp) ?_
  simp only [Act.put, lsA, lsZ, lsS]
  refine wpl_g 58 p7 (v := .slice X.ea e1.length X.ec) (by cases p7 <;> kernel_rfl) rfl (fun hg => by
   have hgy : ∀ v, gy p7 v = v := fun v => by rw [hg]; rfl
   have hgt : ∀ v, gy true v = v := fun _ => rfl
   go_simp) ?_
  simp only [Act.put, lsA, lsZ, lsS]
  refine wpl_g 59 p7 (v := .pointer (some ⟨B1, 7, none⟩)) (by cases p7 <;> kernel_rfl) rfl (fun hg => by
   have hgy : ∀ v, gy p7 v = v := fun v => by rw [hg]; rfl
   have hgt : ∀ v, gy true v = v := fun _ => rfl
   go_simp) ?_
  simp only [Act.put, lsA, lsZ, lsS]
  refine wpl_g 60 p7 (v := .slice Y.ea e2.length Y.ec) (by cases p7 <;> kernel_rfl) rfl (fun hg => by
   have hgy : ∀ v, gy p7 v = v := fun v => by rw [hg]; rfl
   have hgt : ∀ v, gy true v = v := fun _ => rfl
   go_simp) ?_
  simp only [Act.put, lsA, lsZ, lsS]
  refine wpl_callo 61 p7 (by cases p7 <;> kernel_rfl) rfl (fun hg => by
   have hgy : ∀ v, gy p7 v = v := fun v => by rw [hg]; rfl
   have hgt : ∀ v, gy true v = v := fun _ => rfl
   go_simp) (eqfE_any X.ea Y.ea X.ec Y.ec e1 e2 _ (HEX.out.off HO_.out).ens (HEY.out.off HO_.out).ens) ?_
  intro c8 w8 Hc8' oc8
  have Hc8 : Hid _ := Hc8'
  clear x0 x1 x2 x3 x4 x5 x6 x7 x8 x9 y0 y1 y2 y3 y4 y5 y6 y7 y8 y9
  have HOc8 : Hid _ := HO_.out.trans oc8 (fun _ _ h => h)
  clear HO_
  have HO_ : Hid _ := HOc8.out
  clear HOc8 Hc8' oc8
  obtain ⟨x0, x1, x2, x3, x4, x5, x6, x7, x8, x9⟩ := celw10 (HC0.out.off HO_.out (fun h => h))
  obtain ⟨y0, y1, y2, y3, y4, y5, y6, y7, y8, y9⟩ := celw10 (HC1.out.off HO_.out (fun h => h))
  rw [HL.out.1] at x7
  rw [HL.out.2.1] at y7
  rw [HL.out.2.2.1] at x8
  rw [HL.out.2.2.2.1] at y8
  rw [HL.out.2.2.2.2.1] at x9
  rw [HL.out.2.2.2.2.2] at y9
  obtain ⟨p8, hp8⟩ : ∃ p, p = (p7 && c8) := ⟨_, rfl⟩
  have Hp8 : Hid (p8 = (p7 && c8)) := hp8
  clear hp8
  simp only [Act.put, lsA, lsZ, lsS]
  refine wpl_t 62 (v := .bool p8) (by kernel_rfl) rfl (by rw [Hp8.out]; exact exec_pand0 rfl rfl rfl rfl) ?_
  simp only [Act.put, lsA, lsZ, lsS]
  refine wpl_t 63 (v := .bool p8) (by kernel_rfl) rfl (by go_simp) ?_
  simp only [Act.put, lsA, lsZ, lsS]
  refine wpl_g 64 p8 (v := .pointer (some ⟨B0, 8, none⟩)) (by cases p8 <;> kernel_rfl) rfl (fun hg => by
   have hgy : ∀ v, gy p8 v = v := fun v => by rw [hg]; rfl
   have hgt : ∀ v, gy true v = v := fun _ => rfl
   go_simp) ?_
  simp only [Act.put, lsA, lsZ, lsS]
  refine wpl_g 65 p8 (v := .slice X.da g1.length X.dc) (by cases p8 <;> kernel_rfl) rfl (fun hg => by
   have hgy : ∀ v, gy p8 v = v := fun v => by rw [hg]; rfl
   have hgt : ∀ v, gy true v = v := fun _ => rfl
   go_simp) ?_
  simp only [Act.put, lsA, lsZ, lsS]
  refine wpl_g 66 p8 (v := .pointer (some ⟨B1, 8, none⟩)) (by cases p8 <;> kernel_rfl) rfl (fun hg => by
   have hgy : ∀ v, gy p8 v = v := fun v => by rw [hg]; rfl
   have hgt : ∀ v, gy true v = v := fun _ => rfl
   go_simp) ?_
  simp only [Act.put, lsA, lsZ, lsS]
  refine wpl_g 67 p8 (v := .slice Y.da g2.length Y.dc) (by cases p8 <;> kernel_rfl) rfl (fun hg => by
   have hgy : ∀ v, gy p8 v = v := fun v => by rw [hg]; rfl
   have hgt : ∀ v, gy true v = v := fun _ => rfl
   go_simp) ?_
  simp only [Act.put, lsA, lsZ, lsS]
  refine wpl_callo 68 p8 (by cases p8 <;> kernel_rfl) rfl (fun hg => by
   have hgy : ∀ v, gy p8 v = v := fun v => by rw [hg]; rfl
   have hgt : ∀ v, gy true v = v := fun _ => rfl
   go_simp) (eqfD_any X.da Y.da X.dc Y.dc g1 g2 _ (HEX.out.off HO_.out).dgs (HEY.out.off HO_.out).dgs) ?_
  intro c9 w9 Hc9' oc9
  have Hc9 : Hid _ := Hc9'
  clear x0 x1 x2 x3 x4 x5 x6 x7 x8 x9 y0 y1 y2 y3 y4 y5 y6 y7 y8 y9
  have HOc9 : Hid _ := HO_.out.trans oc9 (fun _ _ h => h)
  clear HO_
  have HO_ : Hid _ := HOc9.out
  clear HOc9 Hc9' oc9
  obtain ⟨x0, x1, x2, x3, x4, x5, x6, x7, x8, x9⟩ := celw10 (HC0.out.off HO_.out (fun h => h))
  obtain ⟨y0, y1, y2, y3, y4, y5, y6, y7, y8, y9⟩ := celw10 (HC1.out.off HO_.out (fun h => h))
  rw [HL.out.1] at x7
  rw [HL.out.2.1] at y7
  rw [HL.out.2.2.1] at x8
  rw [HL.out.2.2.2.1] at y8
  rw [HL.out.2.2.2.2.1] at x9
  rw [HL.out.2.2.2.2.2] at y9
  obtain ⟨p9, hp9⟩ : ∃ p, p = (p8 && c9) := ⟨_, rfl⟩
  have Hp9 : Hid (p9 = (p8 && c9)) := hp9
  clear hp9
  simp only [Act.put, lsA, lsZ, lsS]
  refine wpl_t 69 (v := .bool p9) (by kernel_rfl) rfl (by rw [Hp9.out]; exact exec_pand0 rfl rfl rfl rfl) ?_
  simp only [Act.put, lsA, lsZ, lsS]
  refine wpl_t 70 (v := .bool p9) (by kernel_rfl) rfl (by go_simp) ?_
  simp only [Act.put, lsA, lsZ, lsS]
  refine wpl_g 71 p9 (v := .pointer (some ⟨B0, 9, none⟩)) (by cases p9 <;> kernel_rfl) rfl (fun hg => by
   have hgy : ∀ v, gy p9 v = v := fun v => by rw [hg]; rfl
   have hgt : ∀ v, gy true v = v := fun _ => rfl
   go_simp) ?_
  simp only [Act.put, lsA, lsZ, lsS]
  refine wpl_g 72 p9 (v := .slice X.ma m1.length X.mc) (by cases p9 <;> kernel_rfl) rfl (fun hg => by
   have hgy : ∀ v, gy p9 v = v := fun v => by rw [hg]; rfl
   have hgt : ∀ v, gy true v = v := fun _ => rfl
   go_simp) ?_
  simp only [Act.put, lsA, lsZ, lsS]
  refine wpl_g 73 p9 (v := .pointer (some ⟨B1, 9, none⟩)) (by cases p9 <;> kernel_rfl) rfl (fun hg => by
   have hgy : ∀ v, gy p9 v = v := fun v => by rw [hg]; rfl
   have hgt : ∀ v, gy true v = v := fun _ => rfl
   go_simp) ?_
  simp only [Act.put, lsA, lsZ, lsS]
  refine wpl_g 74 p9 (v := .slice Y.ma m2.length Y.mc) (by cases p9 <;> kernel_rfl) rfl (fun hg => by
   have hgy : ∀ v, gy p9 v = v := fun v => by rw [hg]; rfl
   have hgt : ∀ v, gy true v = v := fun _ => rfl
   go_simp) ?_
  simp only [Act.put, lsA, lsZ, lsS]
  refine wpl_callo 75 p9 (by cases p9 <;> kernel_rfl) rfl (fun hg => by
   have hgy : ∀ v, gy p9 v = v := fun v => by rw [hg]; rfl
   have hgt : ∀ v, gy true v = v := fun _ => rfl
   go_simp) (eqM_yes X.ma Y.ma X.mc Y.mc m1 m2 _ (HEX.out.off HO_.out).mbs (HEY.out.off HO_.out).mbs) ?_
  intro c10 w10 Hc10' oc10
  have Hc10 : Hid _ := Hc10'
  clear x0 x1 x2 x3 x4 x5 x6 x7 x8 x9 y0 y1 y2 y3 y4 y5 y6 y7 y8 y9
  have HOc10 : Hid _ := HO_.out.trans oc10 (fun _ _ h => h)
  clear HO_
  have HO_ : Hid _ := HOc10.out
  clear HOc10 Hc10' oc10
  obtain ⟨x0, x1, x2, x3, x4, x5, x6, x7, x8, x9⟩ := celw10 (HC0.out.off HO_.out (fun h => h))
  obtain ⟨y0, y1, y2, y3, y4, y5, y6, y7, y8, y9⟩ := celw10 (HC1.out.off HO_.out (fun h => h))
  rw [HL.out.1] at x7
  rw [HL.out.2.1] at y7
  rw [HL.out.2.2.1] at x8
  rw [HL.out.2.2.2.1] at y8
  rw [HL.out.2.2.2.2.1] at x9
  rw [HL.out.2.2.2.2.2] at y9
  obtain ⟨p10, hp10⟩ : ∃ p, p = (p9 && c10) := ⟨_, rfl⟩
  have Hp10 : Hid (p10 = (p9 && c10)) := hp10
  clear hp10
  simp only [Act.put, lsA, lsZ, lsS]
  refine wpl_t 76 (v := .bool p10) (by kernel_rfl) rfl (by rw [Hp10.out]; exact exec_pand0 rfl rfl rfl rfl) ?_
  simp only [Act.put, lsA, lsZ, lsS]
  refine wpl_t 4 (v := .bool p10) (by kernel_rfl) rfl (by go_simp) ?_
  simp only [Act.put, lsA, lsZ, lsS]
  unfold wpList
  go_wp2_with fail
  go_ret
  refine ⟨.mk' p10 ?_, HO.out.trans HO_.out (fun _ _ h => h)⟩
  rw [nfP_iff]
  have e7 : p7 = true ↔ X.k = Y.k ∧ X.fr = Y.fr ∧ X.tn = Y.tn ∧ X.op = Y.op ∧ X.fo = Y.fo ∧ X.key = Y.key ∧ X.bk = Y.bk := by
   rw [show p7 = _ from Hp7.out, show p6 = _ from Hp6.out, show p5 = _ from Hp5.out, show p4 = _ from Hp4.out, show p3 = _ from Hp3.out, show p2 = _ from Hp2.out]
   simp only [Bool.and_eq_true, Hc1.out, Hc2.out, Hc3.out, Hc4.out, Hc5.out, Hc6.out, Hc7.out, and_assoc]
  have := and3 e7 Hp8.out Hp9.out Hp10.out Hc8.out Hc9.out Hc10.out
  rw [this]
  simp only [and_assoc]
theorem xsame_any (x y : Mg) (e1 e2 : List E) (g1 g2 : List G) (m1 m2 : List (Int × Int)) (w : World) (hx : MsgAt w x e1 g1 m1) (hy : MsgAt w y e2 g2 m2) :
  Calls Try.prog 15 #[(.agg #[.int .i64 x.k, .int .i64 x.fr, .int .i64 x.tn, .int .i64 x.op, .int .i64 x.fo, .string x.key, .int .i64 x.bk, .slice x.ea x.el x.ec, .slice x.da x.dl x.dc, .slice x.ma x.ml x.mc]), (.agg #[.int .i64 y.k, .int .i64 y.fr, .int .i64 y.tn, .int .i64 y.op, .int .i64 y.fo, .string y.key, .int .i64 y.bk, .slice y.ea y.el y.ec, .slice y.da y.dl y.dc, .slice y.ma y.ml y.mc])] w fun e w' => Yes (nfM x e1 g1 m1 = nfM y e2 g2 m2) e ∧ Off (fun _ => False) w w' :=
 xsame_core x y _ _ _ _ _ _ _ _ w (hx.plain (msk x.k)) (hy.plain (msk y.k)) (fun W => xbare_any x W) (fun W => xbare_any y W)
end Go.Proofs.Ytmbphlkohlggfaa
