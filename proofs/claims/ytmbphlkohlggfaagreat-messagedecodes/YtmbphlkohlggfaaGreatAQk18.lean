/- Items of several texts. -/
import Derived.Test.YtmbphlkohlggfaaGreatAQo18
namespace Go.Proofs.YtmbphlkohlggfaaGreat
set_option maxRecDepth 100000
open Go.RowKit
structure NF where
 k : Int
 fr : Int
 tn : Int
 op : Int
 fo : Int
 key : ByteArray
 bk : Int
 es : List (ByteArray × List Int × List A)
 gs : List (ByteArray × List Int × List (Int × Int))
 ms : List (Int × Int)
def nfP (m : Mg) (es : List E) (gs : List G) (ms : List (Int × Int)) : NF := ⟨m.k, m.fr, m.tn, m.op, m.fo, m.key, m.bk, es.map nE, gs.map nG, ms⟩
def nfM (m : Mg) (es : List E) (gs : List G) (ms : List (Int × Int)) : NF := nfP (plM (msk m.k) m) (cond (msk m.k).es es []) (cond (msk m.k).gs gs []) (cond (msk m.k).ms ms [])
theorem nfP_iff {X Y : Mg} {e1 e2 : List E} {g1 g2 : List G} {m1 m2 : List (Int × Int)} : nfP X e1 g1 m1 = nfP Y e2 g2 m2 ↔ X.k = Y.k ∧ X.fr = Y.fr ∧ X.tn = Y.tn ∧ X.op = Y.op ∧ X.fo = Y.fo ∧ X.key = Y.key ∧ X.bk = Y.bk ∧ e1.map nE = e2.map nE ∧ g1.map nG = g2.map nG ∧ m1 = m2 := by
 unfold nfP
 simp only [NF.mk.injEq]
set_option maxHeartbeats 8000000 in
theorem same_core (x y X Y : Mg) (e1 e2 : List E) (g1 g2 : List G) (m1 m2 : List (Int × Int)) (w : World) (hx : MsgAt w X e1 g1 m1) (hy : MsgAt w Y e2 g2 m2)
  (hpx : ∀ W, Calls Tryz.prog 30 #[(.agg #[.int .i64 x.k, .int .i64 x.fr, .int .i64 x.tn, .int .i64 x.op, .int .i64 x.fo, .string x.key, .int .i64 x.bk, .slice x.ea x.el x.ec, .slice x.da x.dl x.dc, .slice x.ma x.ml x.mc])] W fun e w' => e = .returned ((.agg #[.int .i64 X.k, .int .i64 X.fr, .int .i64 X.tn, .int .i64 X.op, .int .i64 X.fo, .string X.key, .int .i64 X.bk, .slice X.ea X.el X.ec, .slice X.da X.dl X.dc, .slice X.ma X.ml X.mc])) ∧ Off (fun _ => False) W w') (hpy : ∀ W, Calls Tryz.prog 30 #[(.agg #[.int .i64 y.k, .int .i64 y.fr, .int .i64 y.tn, .int .i64 y.op, .int .i64 y.fo, .string y.key, .int .i64 y.bk, .slice y.ea y.el y.ec, .slice y.da y.dl y.dc, .slice y.ma y.ml y.mc])] W fun e w' => e = .returned ((.agg #[.int .i64 Y.k, .int .i64 Y.fr, .int .i64 Y.tn, .int .i64 Y.op, .int .i64 Y.fo, .string Y.key, .int .i64 Y.bk, .slice Y.ea Y.el Y.ec, .slice Y.da Y.dl Y.dc, .slice Y.ma Y.ml Y.mc])) ∧ Off (fun _ => False) W w') :
  Calls Tryz.prog 9 #[(.agg #[.int .i64 x.k, .int .i64 x.fr, .int .i64 x.tn, .int .i64 x.op, .int .i64 x.fo, .string x.key, .int .i64 x.bk, .slice x.ea x.el x.ec, .slice x.da x.dl x.dc, .slice x.ma x.ml x.mc]), (.agg #[.int .i64 y.k, .int .i64 y.fr, .int .i64 y.tn, .int .i64 y.op, .int .i64 y.fo, .string y.key, .int .i64 y.bk, .slice y.ea y.el y.ec, .slice y.da y.dl y.dc, .slice y.ma y.ml y.mc])] w fun e w' => ∃ b : Bool, e = .returned (.bool b) ∧ (b = true ↔ nfP X e1 g1 m1 = nfP Y e2 g2 m2) ∧ Off (fun _ => False) w w' := by
 have HPX : Hid (∀ W, Calls Tryz.prog 30 #[(.agg #[.int .i64 x.k, .int .i64 x.fr, .int .i64 x.tn, .int .i64 x.op, .int .i64 x.fo, .string x.key, .int .i64 x.bk, .slice x.ea x.el x.ec, .slice x.da x.dl x.dc, .slice x.ma x.ml x.mc])] W fun e w' => e = .returned ((.agg #[.int .i64 X.k, .int .i64 X.fr, .int .i64 X.tn, .int .i64 X.op, .int .i64 X.fo, .string X.key, .int .i64 X.bk, .slice X.ea X.el X.ec, .slice X.da X.dl X.dc, .slice X.ma X.ml X.mc])) ∧ Off (fun _ => False) W w') := hpx
 have HPY : Hid (∀ W, Calls Tryz.prog 30 #[(.agg #[.int .i64 y.k, .int .i64 y.fr, .int .i64 y.tn, .int .i64 y.op, .int .i64 y.fo, .string y.key, .int .i64 y.bk, .slice y.ea y.el y.ec, .slice y.da y.dl y.dc, .slice y.ma y.ml y.mc])] W fun e w' => e = .returned ((.agg #[.int .i64 Y.k, .int .i64 Y.fr, .int .i64 Y.tn, .int .i64 Y.op, .int .i64 Y.fo, .string Y.key, .int .i64 Y.bk, .slice Y.ea Y.el Y.ec, .slice Y.da Y.dl Y.dc, .slice Y.ma Y.ml Y.mc])) ∧ Off (fun _ => False) W w') := hpy
 have HMX : Hid _ := hx
 have HMY : Hid _ := hy
 clear hpx hpy hx hy
 obtain ⟨W0, hW⟩ : ∃ W0, W0 = (w.alloc (.cells #[.int .i64 x.k, .int .i64 x.fr, .int .i64 x.tn, .int .i64 x.op, .int .i64 x.fo, .string x.key, .int .i64 x.bk, .slice x.ea x.el x.ec, .slice x.da x.dl x.dc, .slice x.ma x.ml x.mc] 26)).alloc (.cells #[.int .i64 y.k, .int .i64 y.fr, .int .i64 y.tn, .int .i64 y.op, .int .i64 y.fo, .string y.key, .int .i64 y.bk, .slice y.ea y.el y.ec, .slice y.da y.dl y.dc, .slice y.ma y.ml y.mc] 26) := ⟨_, rfl⟩
 have HOW : Hid (Off (fun _ => False) w W0) := by rw [hW]; exact ((Off.refl _ w).alloc _).alloc _
 have HB0 : Hid (Cel w.heap.size 26 #[.int .i64 x.k, .int .i64 x.fr, .int .i64 x.tn, .int .i64 x.op, .int .i64 x.fo, .string x.key, .int .i64 x.bk, .slice x.ea x.el x.ec, .slice x.da x.dl x.dc, .slice x.ma x.ml x.mc] W0) := by rw [hW]; exact (Cel.new w _ _).alloc _
 have HB1 : Hid (Cel (w.heap.size + 1) 26 #[.int .i64 y.k, .int .i64 y.fr, .int .i64 y.tn, .int .i64 y.op, .int .i64 y.fo, .string y.key, .int .i64 y.bk, .slice y.ea y.el y.ec, .slice y.da y.dl y.dc, .slice y.ma y.ml y.mc] W0) := by
  rw [hW]
  have := Cel.new (w.alloc (.cells #[.int .i64 x.k, .int .i64 x.fr, .int .i64 x.tn, .int .i64 x.op, .int .i64 x.fo, .string x.key, .int .i64 x.bk, .slice x.ea x.el x.ec, .slice x.da x.dl x.dc, .slice x.ma x.ml x.mc] 26)) 26 #[.int .i64 y.k, .int .i64 y.fr, .int .i64 y.tn, .int .i64 y.op, .int .i64 y.fo, .string y.key, .int .i64 y.bk, .slice y.ea y.el y.ec, .slice y.da y.dl y.dc, .slice y.ma y.ml y.mc]
  rwa [World.size_alloc] at this
 go_enter Tryz.func9, Tryz.ntmps9
 go_upto_region 1 with fail
 rw [← hW]
 clear hW
 obtain ⟨B1, hb1⟩ : ∃ B1, B1 = w.heap.size + 1 := ⟨_, rfl⟩
 rw [← hb1] at HB1 ⊢
 obtain ⟨B0, hb0⟩ : ∃ B0, B0 = w.heap.size := ⟨_, rfl⟩
 rw [← hb0] at HB0 ⊢
 have HNB : Hid (B0 ≠ B1) := by show _ ≠ _; omega
 have HBW : Hid (w.heap.size ≤ B0 ∧ w.heap.size ≤ B1) := ⟨by omega, by omega⟩
 clear hb0 hb1
 go_cut [] from 6 to 9 (fun wx => Cel B0 26 #[.int .i64 X.k, .int .i64 X.fr, .int .i64 X.tn, .int .i64 X.op, .int .i64 X.fo, .string X.key, .int .i64 X.bk, .slice X.ea X.el X.ec, .slice X.da X.dl X.dc, .slice X.ma X.ml X.mc] wx ∧ Cel B1 26 #[.int .i64 Y.k, .int .i64 Y.fr, .int .i64 Y.tn, .int .i64 Y.op, .int .i64 Y.fo, .string Y.key, .int .i64 Y.bk, .slice Y.ea Y.el Y.ec, .slice Y.da Y.dl Y.dc, .slice Y.ma Y.ml Y.mc] wx ∧ Off (fun _ => False) w wx)
 case first =>
  refine wp_region_held_drew (S := Off (fun c => c = B0 ∨ c = B1) W0) (by kernel_rfl) ((Off.refl (fun c => c = B0 ∨ c = B1) W0).drew) (fun hS => ?_)
  refine wpAnyH_ready (rs := [0, 2]) (by kernel_rfl) (by simp) ?_
  refine AllReadyH.cons rfl (fun K' hK' => ?_) (AllReadyH.cons rfl (fun K' hK' => ?_) AllReadyH.nil)
  ·obtain ⟨x0, x1, x2, x3, x4, x5, x6, x7, x8, x9⟩ := celw10 (HB0.out.drew)
   go_simp
   refine hK'.out _ _ hS (fun hS => ?_)
   clear hK' K' x0 x1 x2 x3 x4 x5 x6 x7 x8 x9
   refine wpAnyH_ready (rs := [1, 2]) (by kernel_rfl) (by simp) ?_
   refine AllReadyH.cons rfl (fun K' hK' => ?_) (AllReadyH.cons rfl (fun K' hK' => ?_) AllReadyH.nil)
   ·go_simp
    refine (HPX.out _).mono ?_
    rintro e0 W1 ⟨rfl, o1⟩
    refine hK'.out _ _ (hS.trans o1 (fun _ _ h => h.elim)) (fun hS => ?_)
    have HO1 : Hid _ := o1
    clear hK' K' o1
    refine wpAnyH_ready (rs := [2]) (by kernel_rfl) (by simp) ?_
    refine AllReadyH.cons rfl (fun K' hK' => ?_) AllReadyH.nil
    obtain ⟨x0, x1, x2, x3, x4, x5, x6, x7, x8, x9⟩ := celw10 ((HB1.out.drew.off HO1.out (fun h => h)))
    go_simp
    refine hK'.out _ _ hS (fun hS => ?_)
    clear hK' K' x0 x1 x2 x3 x4 x5 x6 x7 x8 x9
    refine wpAnyH_ready (rs := [3]) (by kernel_rfl) (by simp) ?_
    refine AllReadyH.cons rfl (fun K' hK' => ?_) AllReadyH.nil
    go_simp
    refine (HPY.out _).mono ?_
    rintro e0 W2 ⟨rfl, o2⟩
    refine hK'.out _ _ (hS.trans o2 (fun _ _ h => h.elim)) (fun hS => ?_)
    have HO2 : Hid (Off (fun _ => False) W0 W2) := ((Off.refl (fun _ => False) W0).drew.trans HO1.out (fun _ _ h => h)).trans o2 (fun _ _ h => h)
    clear hK' K' o2
    have Z0 := HB0.out.off HO2.out (fun h => h)
    have Z1 := HB1.out.off HO2.out (fun h => h)
    obtain ⟨x0, x1, x2, x3, x4, x5, x6, x7, x8, x9⟩ := celw10 Z0
    have fz := Z0.free
    refine wpAnyH_ready (rs := [4]) (by kernel_rfl) (by simp) ?_
    refine AllReadyH.cons rfl (fun K' hK' => ?_) AllReadyH.nil
    go_simp
    have hS5 : Off (fun c => c = B0 ∨ c = B1) W0 (wrw B0 0 (mcs X) W2) := off_wrw (g := B0) (us := mcs X) hS (.inl (.inl rfl))
    refine hK'.out _ _ hS5 (fun hS => ?_)
    clear hK' K' hS5
    have Y0 : Cel B0 26 #[.int .i64 X.k, .int .i64 X.fr, .int .i64 X.tn, .int .i64 X.op, .int .i64 X.fo, .string X.key, .int .i64 X.bk, .slice X.ea X.el X.ec, .slice X.da X.dl X.dc, .slice X.ma X.ml X.mc] (wrw B0 0 (mcs X) W2) := Z0.wrwAll (vs := mcs X) rfl
    have OA : Off (fun c => c = B0) W2 (wrw B0 0 (mcs X) W2) := off_wrw (g := B0) (us := mcs X) (Off.refl _ W2) (.inl rfl)
    have Y1 := Z1.off OA (fun e => HNB.out e.symm)
    clear fz x0 x1 x2 x3 x4 x5 x6 x7 x8 x9
    have hv9 : ∃ V9, wrw B0 0 (mcs X) W2 = V9 := ⟨_, rfl⟩
    obtain ⟨V9, hv9⟩ := hv9
    rw [hv9] at Y0 OA Y1
    have hS9 : Off (fun c => c = B0 ∨ c = B1) W0 V9 := by rw [← hv9]; exact hS
    clear hS
    have hS := hS9
    clear hS9
    change wpAnyH _ _ _ _ _ _ _ _ (wrw B0 0 (mcs X) W2)
    rw [hv9]
    clear hv9
    obtain ⟨x0, x1, x2, x3, x4, x5, x6, x7, x8, x9⟩ := celw10 Y1
    have fz := Y1.free
    refine wpAnyH_ready (rs := [5]) (by kernel_rfl) (by simp) ?_
    refine AllReadyH.cons rfl (fun K' hK' => ?_) AllReadyH.nil
    go_simp
    have hS5 : Off (fun c => c = B0 ∨ c = B1) W0 (wrw B1 0 (mcs Y) V9) := off_wrw (g := B1) (us := mcs Y) hS (.inl (.inr rfl))
    refine hK'.out _ _ hS5 (fun hS => ?_)
    clear hK' K' hS5
    have X1 : Cel B1 26 #[.int .i64 Y.k, .int .i64 Y.fr, .int .i64 Y.tn, .int .i64 Y.op, .int .i64 Y.fo, .string Y.key, .int .i64 Y.bk, .slice Y.ea Y.el Y.ec, .slice Y.da Y.dl Y.dc, .slice Y.ma Y.ml Y.mc] (wrw B1 0 (mcs Y) V9) := Y1.wrwAll (vs := mcs Y) rfl
    have OB : Off (fun c => c = B1) V9 (wrw B1 0 (mcs Y) V9) := off_wrw (g := B1) (us := mcs Y) (Off.refl _ V9) (.inl rfl)
    have X0 := Y0.off OB (fun e => HNB.out e)
    clear fz x0 x1 x2 x3 x4 x5 x6 x7 x8 x9
    refine wpAnyH_done (by kernel_rfl) ?_ _
    have HF : Hid (Cel B0 26 #[.int .i64 X.k, .int .i64 X.fr, .int .i64 X.tn, .int .i64 X.op, .int .i64 X.fo, .string X.key, .int .i64 X.bk, .slice X.ea X.el X.ec, .slice X.da X.dl X.dc, .slice X.ma X.ml X.mc] (wrw B1 0 (mcs Y) V9) ∧ Cel B1 26 #[.int .i64 Y.k, .int .i64 Y.fr, .int .i64 Y.tn, .int .i64 Y.op, .int .i64 Y.fo, .string Y.key, .int .i64 Y.bk, .slice Y.ea Y.el Y.ec, .slice Y.da Y.dl Y.dc, .slice Y.ma Y.ml Y.mc] (wrw B1 0 (mcs Y) V9) ∧ Off (fun _ => False) w (wrw B1 0 (mcs Y) V9)) := ⟨X0, X1, ((HOW.out.trans HO2.out (fun _ _ h => h)).trans OA (fun i hi e => by have e : i = B0 := e; have := HBW.out; omega)).trans OB (fun i hi e => by have e : i = B1 := e; have := HBW.out; omega)⟩
    clear X0 X1 Y0 Y1 Z0 Z1 OA OB hS
    go_wp2_with fail
    go_meet
    case rel => exact HF.out
   ·obtain ⟨x0, x1, x2, x3, x4, x5, x6, x7, x8, x9⟩ := celw10 (HB1.out.drew)
    go_simp
    refine hK'.out _ _ hS (fun hS => ?_)
    clear hK' K' x0 x1 x2 x3 x4 x5 x6 x7 x8 x9
    refine wpAnyH_ready (rs := [1]) (by kernel_rfl) (by simp) ?_
    refine AllReadyH.cons rfl (fun K' hK' => ?_) AllReadyH.nil
    go_simp
    refine (HPX.out _).mono ?_
    rintro e0 W1 ⟨rfl, o1⟩
    refine hK'.out _ _ (hS.trans o1 (fun _ _ h => h.elim)) (fun hS => ?_)
    have HO1 : Hid _ := o1
    clear hK' K' o1
    refine wpAnyH_ready (rs := [3]) (by kernel_rfl) (by simp) ?_
    refine AllReadyH.cons rfl (fun K' hK' => ?_) AllReadyH.nil
    go_simp
    refine (HPY.out _).mono ?_
    rintro e0 W2 ⟨rfl, o2⟩
    refine hK'.out _ _ (hS.trans o2 (fun _ _ h => h.elim)) (fun hS => ?_)
    have HO2 : Hid (Off (fun _ => False) W0 W2) := ((Off.refl (fun _ => False) W0).drew.trans HO1.out (fun _ _ h => h)).trans o2 (fun _ _ h => h)
    clear hK' K' o2
    have Z0 := HB0.out.off HO2.out (fun h => h)
    have Z1 := HB1.out.off HO2.out (fun h => h)
    obtain ⟨x0, x1, x2, x3, x4, x5, x6, x7, x8, x9⟩ := celw10 Z0
    have fz := Z0.free
    refine wpAnyH_ready (rs := [4]) (by kernel_rfl) (by simp) ?_
    refine AllReadyH.cons rfl (fun K' hK' => ?_) AllReadyH.nil
    go_simp
    have hS5 : Off (fun c => c = B0 ∨ c = B1) W0 (wrw B0 0 (mcs X) W2) := off_wrw (g := B0) (us := mcs X) hS (.inl (.inl rfl))
    refine hK'.out _ _ hS5 (fun hS => ?_)
    clear hK' K' hS5
    have Y0 : Cel B0 26 #[.int .i64 X.k, .int .i64 X.fr, .int .i64 X.tn, .int .i64 X.op, .int .i64 X.fo, .string X.key, .int .i64 X.bk, .slice X.ea X.el X.ec, .slice X.da X.dl X.dc, .slice X.ma X.ml X.mc] (wrw B0 0 (mcs X) W2) := Z0.wrwAll (vs := mcs X) rfl
    have OA : Off (fun c => c = B0) W2 (wrw B0 0 (mcs X) W2) := off_wrw (g := B0) (us := mcs X) (Off.refl _ W2) (.inl rfl)
    have Y1 := Z1.off OA (fun e => HNB.out e.symm)
    clear fz x0 x1 x2 x3 x4 x5 x6 x7 x8 x9
    have hv9 : ∃ V9, wrw B0 0 (mcs X) W2 = V9 := ⟨_, rfl⟩
    obtain ⟨V9, hv9⟩ := hv9
    rw [hv9] at Y0 OA Y1
    have hS9 : Off (fun c => c = B0 ∨ c = B1) W0 V9 := by rw [← hv9]; exact hS
    clear hS
    have hS := hS9
    clear hS9
    change wpAnyH _ _ _ _ _ _ _ _ (wrw B0 0 (mcs X) W2)
    rw [hv9]
    clear hv9
    obtain ⟨x0, x1, x2, x3, x4, x5, x6, x7, x8, x9⟩ := celw10 Y1
    have fz := Y1.free
    refine wpAnyH_ready (rs := [5]) (by kernel_rfl) (by simp) ?_
    refine AllReadyH.cons rfl (fun K' hK' => ?_) AllReadyH.nil
    go_simp
    have hS5 : Off (fun c => c = B0 ∨ c = B1) W0 (wrw B1 0 (mcs Y) V9) := off_wrw (g := B1) (us := mcs Y) hS (.inl (.inr rfl))
    refine hK'.out _ _ hS5 (fun hS => ?_)
    clear hK' K' hS5
    have X1 : Cel B1 26 #[.int .i64 Y.k, .int .i64 Y.fr, .int .i64 Y.tn, .int .i64 Y.op, .int .i64 Y.fo, .string Y.key, .int .i64 Y.bk, .slice Y.ea Y.el Y.ec, .slice Y.da Y.dl Y.dc, .slice Y.ma Y.ml Y.mc] (wrw B1 0 (mcs Y) V9) := Y1.wrwAll (vs := mcs Y) rfl
    have OB : Off (fun c => c = B1) V9 (wrw B1 0 (mcs Y) V9) := off_wrw (g := B1) (us := mcs Y) (Off.refl _ V9) (.inl rfl)
    have X0 := Y0.off OB (fun e => HNB.out e)
    clear fz x0 x1 x2 x3 x4 x5 x6 x7 x8 x9
    refine wpAnyH_done (by kernel_rfl) ?_ _
    have HF : Hid (Cel B0 26 #[.int .i64 X.k, .int .i64 X.fr, .int .i64 X.tn, .int .i64 X.op, .int .i64 X.fo, .string X.key, .int .i64 X.bk, .slice X.ea X.el X.ec, .slice X.da X.dl X.dc, .slice X.ma X.ml X.mc] (wrw B1 0 (mcs Y) V9) ∧ Cel B1 26 #[.int .i64 Y.k, .int .i64 Y.fr, .int .i64 Y.tn, .int .i64 Y.op, .int .i64 Y.fo, .string Y.key, .int .i64 Y.bk, .slice Y.ea Y.el Y.ec, .slice Y.da Y.dl Y.dc, .slice Y.ma Y.ml Y.mc] (wrw B1 0 (mcs Y) V9) ∧ Off (fun _ => False) w (wrw B1 0 (mcs Y) V9)) := ⟨X0, X1, ((HOW.out.trans HO2.out (fun _ _ h => h)).trans OA (fun i hi e => by have e : i = B0 := e; have := HBW.out; omega)).trans OB (fun i hi e => by have e : i = B1 := e; have := HBW.out; omega)⟩
    clear X0 X1 Y0 Y1 Z0 Z1 OA OB hS
    go_wp2_with fail
    go_meet
    case rel => exact HF.out
  ·obtain ⟨x0, x1, x2, x3, x4, x5, x6, x7, x8, x9⟩ := celw10 (HB1.out.drew)
   go_simp
   refine hK'.out _ _ hS (fun hS => ?_)
   clear hK' K' x0 x1 x2 x3 x4 x5 x6 x7 x8 x9
   refine wpAnyH_ready (rs := [0]) (by kernel_rfl) (by simp) ?_
   refine AllReadyH.cons rfl (fun K' hK' => ?_) AllReadyH.nil
   obtain ⟨x0, x1, x2, x3, x4, x5, x6, x7, x8, x9⟩ := celw10 (HB0.out.drew)
   go_simp
   refine hK'.out _ _ hS (fun hS => ?_)
   clear hK' K' x0 x1 x2 x3 x4 x5 x6 x7 x8 x9
   refine wpAnyH_ready (rs := [1]) (by kernel_rfl) (by simp) ?_
   refine AllReadyH.cons rfl (fun K' hK' => ?_) AllReadyH.nil
   go_simp
   refine (HPX.out _).mono ?_
   rintro e0 W1 ⟨rfl, o1⟩
   refine hK'.out _ _ (hS.trans o1 (fun _ _ h => h.elim)) (fun hS => ?_)
   have HO1 : Hid _ := o1
   clear hK' K' o1
   refine wpAnyH_ready (rs := [3]) (by kernel_rfl) (by simp) ?_
   refine AllReadyH.cons rfl (fun K' hK' => ?_) AllReadyH.nil
   go_simp
   refine (HPY.out _).mono ?_
   rintro e0 W2 ⟨rfl, o2⟩
   refine hK'.out _ _ (hS.trans o2 (fun _ _ h => h.elim)) (fun hS => ?_)
   have HO2 : Hid (Off (fun _ => False) W0 W2) := ((Off.refl (fun _ => False) W0).drew.trans HO1.out (fun _ _ h => h)).trans o2 (fun _ _ h => h)
   clear hK' K' o2
   have Z0 := HB0.out.off HO2.out (fun h => h)
   have Z1 := HB1.out.off HO2.out (fun h => h)
   obtain ⟨x0, x1, x2, x3, x4, x5, x6, x7, x8, x9⟩ := celw10 Z0
   have fz := Z0.free
   refine wpAnyH_ready (rs := [4]) (by kernel_rfl) (by simp) ?_
   refine AllReadyH.cons rfl (fun K' hK' => ?_) AllReadyH.nil
   go_simp
   have hS5 : Off (fun c => c = B0 ∨ c = B1) W0 (wrw B0 0 (mcs X) W2) := off_wrw (g := B0) (us := mcs X) hS (.inl (.inl rfl))
   refine hK'.out _ _ hS5 (fun hS => ?_)
   clear hK' K' hS5
   have Y0 : Cel B0 26 #[.int .i64 X.k, .int .i64 X.fr, .int .i64 X.tn, .int .i64 X.op, .int .i64 X.fo, .string X.key, .int .i64 X.bk, .slice X.ea X.el X.ec, .slice X.da X.dl X.dc, .slice X.ma X.ml X.mc] (wrw B0 0 (mcs X) W2) := Z0.wrwAll (vs := mcs X) rfl
   have OA : Off (fun c => c = B0) W2 (wrw B0 0 (mcs X) W2) := off_wrw (g := B0) (us := mcs X) (Off.refl _ W2) (.inl rfl)
   have Y1 := Z1.off OA (fun e => HNB.out e.symm)
   clear fz x0 x1 x2 x3 x4 x5 x6 x7 x8 x9
   have hv9 : ∃ V9, wrw B0 0 (mcs X) W2 = V9 := ⟨_, rfl⟩
   obtain ⟨V9, hv9⟩ := hv9
   rw [hv9] at Y0 OA Y1
   have hS9 : Off (fun c => c = B0 ∨ c = B1) W0 V9 := by rw [← hv9]; exact hS
   clear hS
   have hS := hS9
   clear hS9
   change wpAnyH _ _ _ _ _ _ _ _ (wrw B0 0 (mcs X) W2)
   rw [hv9]
   clear hv9
   obtain ⟨x0, x1, x2, x3, x4, x5, x6, x7, x8, x9⟩ := celw10 Y1
   have fz := Y1.free
   refine wpAnyH_ready (rs := [5]) (by kernel_rfl) (by simp) ?_
   refine AllReadyH.cons rfl (fun K' hK' => ?_) AllReadyH.nil
   go_simp
   have hS5 : Off (fun c => c = B0 ∨ c = B1) W0 (wrw B1 0 (mcs Y) V9) := off_wrw (g := B1) (us := mcs Y) hS (.inl (.inr rfl))
   refine hK'.out _ _ hS5 (fun hS => ?_)
   clear hK' K' hS5
   have X1 : Cel B1 26 #[.int .i64 Y.k, .int .i64 Y.fr, .int .i64 Y.tn, .int .i64 Y.op, .int .i64 Y.fo, .string Y.key, .int .i64 Y.bk, .slice Y.ea Y.el Y.ec, .slice Y.da Y.dl Y.dc, .slice Y.ma Y.ml Y.mc] (wrw B1 0 (mcs Y) V9) := Y1.wrwAll (vs := mcs Y) rfl
   have OB : Off (fun c => c = B1) V9 (wrw B1 0 (mcs Y) V9) := off_wrw (g := B1) (us := mcs Y) (Off.refl _ V9) (.inl rfl)
   have X0 := Y0.off OB (fun e => HNB.out e)
   clear fz x0 x1 x2 x3 x4 x5 x6 x7 x8 x9
   refine wpAnyH_done (by kernel_rfl) ?_ _
   have HF : Hid (Cel B0 26 #[.int .i64 X.k, .int .i64 X.fr, .int .i64 X.tn, .int .i64 X.op, .int .i64 X.fo, .string X.key, .int .i64 X.bk, .slice X.ea X.el X.ec, .slice X.da X.dl X.dc, .slice X.ma X.ml X.mc] (wrw B1 0 (mcs Y) V9) ∧ Cel B1 26 #[.int .i64 Y.k, .int .i64 Y.fr, .int .i64 Y.tn, .int .i64 Y.op, .int .i64 Y.fo, .string Y.key, .int .i64 Y.bk, .slice Y.ea Y.el Y.ec, .slice Y.da Y.dl Y.dc, .slice Y.ma Y.ml Y.mc] (wrw B1 0 (mcs Y) V9) ∧ Off (fun _ => False) w (wrw B1 0 (mcs Y) V9)) := ⟨X0, X1, ((HOW.out.trans HO2.out (fun _ _ h => h)).trans OA (fun i hi e => by have e : i = B0 := e; have := HBW.out; omega)).trans OB (fun i hi e => by have e : i = B1 := e; have := HBW.out; omega)⟩
   clear X0 X1 Y0 Y1 Z0 Z1 OA OB hS
   go_wp2_with fail
   go_meet
   case rel => exact HF.out
 case rest =>
  obtain ⟨c0, c1, o⟩ := hcut
  have HC0 : Hid _ := c0
  have HC1 : Hid _ := c1
  have HO : Hid _ := o
  have HEX : Hid _ := (HMX.out.off o).ens
  have HEY : Hid _ := (HMY.out.off o).ens
  have l1 := HMX.out.el
  have l2 := HMY.out.el
  have l3 := HMX.out.dl
  have l4 := HMY.out.dl
  have l5 := HMX.out.ml
  have l6 := HMY.out.ml
  have hml : m1.length ≤ 9223372036854775807 := Nat.le_trans HMX.out.mbs.len HMX.out.mbs.bound
  have hml2 : m2.length ≤ 9223372036854775807 := Nat.le_trans HMY.out.mbs.len HMY.out.mbs.bound
  obtain ⟨x0, x1, x2, x3, x4, x5, x6, x7, x8, x9⟩ := celw10 c0
  obtain ⟨y0, y1, y2, y3, y4, y5, y6, y7, y8, y9⟩ := celw10 c1
  rw [l1] at x7
  rw [l2] at y7
  rw [l3] at x8
  rw [l4] at y8
  rw [l5] at x9
  rw [l6] at y9
  clear c0 c1 o HB0 HB1 HPX HPY HOW HBW
  by_cases h0 : X.k = Y.k
  ·have d0 : (X.k != Y.k) = false := by rw [h0]; simp
   by_cases h1 : X.fr = Y.fr
   ·have d1 : (X.fr != Y.fr) = false := by rw [h1]; simp
    by_cases h2 : X.tn = Y.tn
    ·have d2 : (X.tn != Y.tn) = false := by rw [h2]; simp
     by_cases h3 : X.op = Y.op
     ·have d3 : (X.op != Y.op) = false := by rw [h3]; simp
      by_cases h4 : X.fo = Y.fo
      ·have d4 : (X.fo != Y.fo) = false := by rw [h4]; simp
       by_cases h5 : X.key = Y.key
       ·have k5 : X.key.toList = Y.key.toList := by rw [h5]
        have d5 : decide (X.key.toList = Y.key.toList) = true := decide_eq_true k5
        by_cases h6 : X.bk = Y.bk
        ·have d6 : (X.bk != Y.bk) = false := by rw [h6]; simp
         have HS7 : Hid (X.k = Y.k ∧ X.fr = Y.fr ∧ X.tn = Y.tn ∧ X.op = Y.op ∧ X.fo = Y.fo ∧ X.key = Y.key ∧ X.bk = Y.bk) := ⟨h0, h1, h2, h3, h4, h5, h6⟩
         clear h0 h1 h2 h3 h4 h5 h6
         go_wp2_with fail
         refine (sents_dec X.ea Y.ea X.ec Y.ec e1 e2 _ HEX.out HEY.out).mono ?_
         rintro e w3 ⟨b3, rfl, h3, o3⟩
         cases b3
         ·have HNG : Hid (¬ e1.map nE = e2.map nE) := fun e => by have := h3.2 e; cases this
          have HO3 : Hid _ := o3
          clear h3 o3
          go_wp2_with fail
          go_ret
          exact ⟨false, rfl, ⟨(fun h => by cases h), fun h => absurd (nfP_iff.1 h).2.2.2.2.2.2.2.1 HNG.out⟩, HO.out.trans HO3.out (fun _ _ h => h)⟩
         ·have HE1 : Hid (e1.map nE = e2.map nE) := h3.1 rfl
          have HO3 : Hid _ := o3
          clear h3 o3 x0 x1 x2 x3 x4 x5 x6 x7 x8 x9 y0 y1 y2 y3 y4 y5 y6 y7 y8 y9
          obtain ⟨x0, x1, x2, x3, x4, x5, x6, x7, x8, x9⟩ := celw10 (HC0.out.off HO3.out (fun h => h))
          obtain ⟨y0, y1, y2, y3, y4, y5, y6, y7, y8, y9⟩ := celw10 (HC1.out.off HO3.out (fun h => h))
          rw [l1] at x7
          rw [l2] at y7
          rw [l3] at x8
          rw [l4] at y8
          rw [l5] at x9
          rw [l6] at y9
          go_wp2_with fail
          refine (sdgs_dec X.da Y.da X.dc Y.dc g1 g2 _ ((HMX.out.off HO.out).dgs.off HO3.out) ((HMY.out.off HO.out).dgs.off HO3.out)).mono ?_
          rintro e w4 ⟨b4, rfl, h4, o4⟩
          cases b4
          ·have HNG : Hid (¬ g1.map nG = g2.map nG) := fun e => by have := h4.2 e; cases this
           have HO4 : Hid _ := o4
           clear h4 o4
           go_wp2_with fail
           go_ret
           exact ⟨false, rfl, ⟨(fun h => by cases h), fun h => absurd (nfP_iff.1 h).2.2.2.2.2.2.2.2.1 HNG.out⟩, HO.out.trans (HO3.out.trans HO4.out (fun _ _ h => h)) (fun _ _ h => h)⟩
          ·have HG1 : Hid (g1.map nG = g2.map nG) := h4.1 rfl
           have HOC2 : Hid _ := (HO3.out.trans o4 (fun _ _ h => h))
           clear h4 o4 x0 x1 x2 x3 x4 x5 x6 x7 x8 x9 y0 y1 y2 y3 y4 y5 y6 y7 y8 y9
           obtain ⟨x0, x1, x2, x3, x4, x5, x6, x7, x8, x9⟩ := celw10 (HC0.out.off HOC2.out (fun h => h))
           obtain ⟨y0, y1, y2, y3, y4, y5, y6, y7, y8, y9⟩ := celw10 (HC1.out.off HOC2.out (fun h => h))
           rw [l1] at x7
           rw [l2] at y7
           rw [l3] at x8
           rw [l4] at y8
           rw [l5] at x9
           rw [l6] at y9
           by_cases hlm : m1.length = m2.length
           ·have dl : ((m1.length : Int) != (m2.length : Int)) = false := by rw [hlm]; simp
            go_wp2_with fail
            go_loopw [85] (fun s wr => ∃ i : Nat, s = .int .i64 (i : Int) ∧ i ≤ m1.length ∧ Hid ((m1.take i).map id = (m2.take i).map id) ∧ Hid (Off (fun _ => False) wc wr)) (fun s _ => ((m1.length : Int) - intOf s).toNat)
            case atStart => exact ⟨0, rfl, by omega, rfl, HOC2.out⟩
            case round =>
             clear x0 x1 x2 x3 x4 x5 x6 x7 x8 x9 y0 y1 y2 y3 y4 y5 y6 y7 y8 y9
             obtain ⟨i, rfl, hi, HM, HOC⟩ := hrel
             by_cases hil : i < m1.length
             ·have i1 : decide ((i : Int) < (m1.length : Int)) = true := decide_eq_true (by omega)
              have i2 : decide (i < m1.length) = true := decide_eq_true hil
              have hil2 : i < m2.length := by omega
              obtain ⟨x, hx⟩ : ∃ x, m1[i]? = some x := ⟨_, List.getElem?_eq_getElem hil⟩
              obtain ⟨y, hy⟩ : ∃ y, m2[i]? = some y := ⟨_, List.getElem?_eq_getElem hil2⟩
              obtain ⟨ba, oa, hma, -, -⟩ := HMX.out.mbs.at_ i x hx
              obtain ⟨bb, ob, hmb, -, -⟩ := HMY.out.mbs.at_ i y hy
              have LX : Hid (∀ w', Off (fun _ => False) wc w' → w'.cell? ⟨ba, oa + i * 2, none⟩ = some (.int .i64 x.1) ∧ w'.cell? ⟨ba, oa + i * 2 + 1, none⟩ = some (.int .i64 x.2)) := fun w' hw' => by
               obtain ⟨b', o', e', k0, k1⟩ := (((HMX.out.off HO.out).mbs).off hw').at_ i x hx
               rw [hma] at e'
               simp only [Option.some.injEq, Addr.mk.injEq, and_true] at e'
               obtain ⟨rfl, rfl⟩ := e'
               exact ⟨k0, k1⟩
              have LY : Hid (∀ w', Off (fun _ => False) wc w' → w'.cell? ⟨bb, ob + i * 2, none⟩ = some (.int .i64 y.1) ∧ w'.cell? ⟨bb, ob + i * 2 + 1, none⟩ = some (.int .i64 y.2)) := fun w' hw' => by
               obtain ⟨b', o', e', k0, k1⟩ := (((HMY.out.off HO.out).mbs).off hw').at_ i y hy
               rw [hmb] at e'
               simp only [Option.some.injEq, Addr.mk.injEq, and_true] at e'
               obtain ⟨rfl, rfl⟩ := e'
               exact ⟨k0, k1⟩
              have HX : Hid _ := hx
              have HY : Hid _ := hy
              clear hx hy
              go_upto_region 7 with fail
              by_cases hxy : x.1 = y.1 ∧ x.2 = y.2
              ·have HNF : Hid (id x = id y) := by
                show x = y
                exact Prod.ext hxy.1 hxy.2
               have hdd : decide (x.1 = y.1 ∧ x.2 = y.2) = true := decide_eq_true hxy
               refine wp_region_held_drew (S := Off (fun _ => False) wc) (by kernel_rfl) HOC.out.drew (fun hS => ?_)
               refine take_at (i := 0) 88 (v := .pointer (some ⟨B0, 9, none⟩)) rfl rfl (by kernel_rfl) (by kernel_rfl) (by kernel_rfl) (fun _ _ _ h => h) (Or.inl ⟨by rfl, fun w' hw' => by go_simp⟩) hS ?_
               simp only [Act.put, lsA, lsZ, lsS]
               refine take_at (i := 1) 89 (v := .slice (some ⟨ba, oa, none⟩) m1.length X.mc) rfl rfl (by kernel_rfl) (by kernel_rfl) (by kernel_rfl) (fun _ _ _ h => h) (Or.inl ⟨by rfl, fun w' hw' => by obtain ⟨x0, x1, x2, x3, x4, x5, x6, x7, x8, x9⟩ := celw10 (HC0.out.off hw' (fun h => h)); rw [l5, hma] at x9; go_simp⟩) hS ?_
               simp only [Act.put, lsA, lsZ, lsS]
               refine take_at (i := 2) 90 (v := .int .i64 (i : Int)) rfl rfl (by kernel_rfl) (by kernel_rfl) (by kernel_rfl) (fun _ _ _ h => h) (Or.inl ⟨by rfl, fun w' hw' => by go_simp⟩) hS ?_
               simp only [Act.put, lsA, lsZ, lsS]
               refine take_at (i := 3) 91 (v := .pointer (some ⟨ba, oa + i * 2, none⟩)) rfl rfl (by kernel_rfl) (by kernel_rfl) (by kernel_rfl) (fun _ _ _ h => h) (Or.inl ⟨by rfl, fun w' hw' => by go_simp⟩) hS ?_
               simp only [Act.put, lsA, lsZ, lsS]
               refine take_at (i := 4) 92 (v := .agg #[.int .i64 x.1, .int .i64 x.2]) rfl rfl (by kernel_rfl) (by kernel_rfl) (by kernel_rfl) (fun _ _ _ h => h) (Or.inl ⟨by rfl, fun w' hw' => by obtain ⟨z0, z1⟩ := LX.out w' hw'; go_simp⟩) hS ?_
               simp only [Act.put, lsA, lsZ, lsS]
               refine take_at (i := 5) 93 (v := .pointer (some ⟨B1, 9, none⟩)) rfl rfl (by kernel_rfl) (by kernel_rfl) (by kernel_rfl) (fun _ _ _ h => h) (Or.inl ⟨by rfl, fun w' hw' => by go_simp⟩) hS ?_
               simp only [Act.put, lsA, lsZ, lsS]
               refine take_at (i := 6) 94 (v := .slice (some ⟨bb, ob, none⟩) m2.length Y.mc) rfl rfl (by kernel_rfl) (by kernel_rfl) (by kernel_rfl) (fun _ _ _ h => h) (Or.inl ⟨by rfl, fun w' hw' => by obtain ⟨x0, x1, x2, x3, x4, x5, x6, x7, x8, x9⟩ := celw10 (HC1.out.off hw' (fun h => h)); rw [l6, hmb] at x9; go_simp⟩) hS ?_
               simp only [Act.put, lsA, lsZ, lsS]
               refine take_at (i := 7) 95 (v := .int .i64 (i : Int)) rfl rfl (by kernel_rfl) (by kernel_rfl) (by kernel_rfl) (fun _ _ _ h => h) (Or.inl ⟨by rfl, fun w' hw' => by go_simp⟩) hS ?_
               simp only [Act.put, lsA, lsZ, lsS]
               refine take_at (i := 8) 96 (v := .pointer (some ⟨bb, ob + i * 2, none⟩)) rfl rfl (by kernel_rfl) (by kernel_rfl) (by kernel_rfl) (fun _ _ _ h => h) (Or.inl ⟨by rfl, fun w' hw' => by go_simp⟩) hS ?_
               simp only [Act.put, lsA, lsZ, lsS]
               refine take_at (i := 9) 97 (v := .agg #[.int .i64 y.1, .int .i64 y.2]) rfl rfl (by kernel_rfl) (by kernel_rfl) (by kernel_rfl) (fun _ _ _ h => h) (Or.inl ⟨by rfl, fun w' hw' => by obtain ⟨z0, z1⟩ := LY.out w' hw'; go_simp⟩) hS ?_
               simp only [Act.put, lsA, lsZ, lsS]
               refine take_at (i := 10) 98 (v := .bool false) rfl rfl (by kernel_rfl) (by kernel_rfl) (by kernel_rfl) (fun _ _ _ h => h) (Or.inl ⟨by rfl, fun w' hw' => exec_bin10 rfl (by go_simp) ((neq_mem x.1 x.2 y.1 y.2 w').trans (by rw [hdd]; rfl))⟩) hS ?_
               simp only [Act.put, lsA, lsZ, lsS]
               refine wpAnyH_done (by kernel_rfl) ?_ _
               have HO9 : Hid _ := hS
               clear hS hma hmb
               go_wp2_with fail
               go_roundw
               case rel => exact ⟨i + 1, by go_num, by omega, take_map_step HM.out HX.out HY.out HNF.out, HO9.out⟩
               case measure => simp [intOf]; omega
              ·have HNF : Hid (id x ≠ id y) := fun e => hxy (by have e : x = y := e; rw [e]; exact ⟨rfl, rfl⟩)
               have hdd : decide (x.1 = y.1 ∧ x.2 = y.2) = false := decide_eq_false hxy
               refine wp_region_held_drew (S := Off (fun _ => False) wc) (by kernel_rfl) HOC.out.drew (fun hS => ?_)
               refine take_at (i := 0) 88 (v := .pointer (some ⟨B0, 9, none⟩)) rfl rfl (by kernel_rfl) (by kernel_rfl) (by kernel_rfl) (fun _ _ _ h => h) (Or.inl ⟨by rfl, fun w' hw' => by go_simp⟩) hS ?_
               simp only [Act.put, lsA, lsZ, lsS]
               refine take_at (i := 1) 89 (v := .slice (some ⟨ba, oa, none⟩) m1.length X.mc) rfl rfl (by kernel_rfl) (by kernel_rfl) (by kernel_rfl) (fun _ _ _ h => h) (Or.inl ⟨by rfl, fun w' hw' => by obtain ⟨x0, x1, x2, x3, x4, x5, x6, x7, x8, x9⟩ := celw10 (HC0.out.off hw' (fun h => h)); rw [l5, hma] at x9; go_simp⟩) hS ?_
               simp only [Act.put, lsA, lsZ, lsS]
               refine take_at (i := 2) 90 (v := .int .i64 (i : Int)) rfl rfl (by kernel_rfl) (by kernel_rfl) (by kernel_rfl) (fun _ _ _ h => h) (Or.inl ⟨by rfl, fun w' hw' => by go_simp⟩) hS ?_
               simp only [Act.put, lsA, lsZ, lsS]
               refine take_at (i := 3) 91 (v := .pointer (some ⟨ba, oa + i * 2, none⟩)) rfl rfl (by kernel_rfl) (by kernel_rfl) (by kernel_rfl) (fun _ _ _ h => h) (Or.inl ⟨by rfl, fun w' hw' => by go_simp⟩) hS ?_
               simp only [Act.put, lsA, lsZ, lsS]
               refine take_at (i := 4) 92 (v := .agg #[.int .i64 x.1, .int .i64 x.2]) rfl rfl (by kernel_rfl) (by kernel_rfl) (by kernel_rfl) (fun _ _ _ h => h) (Or.inl ⟨by rfl, fun w' hw' => by obtain ⟨z0, z1⟩ := LX.out w' hw'; go_simp⟩) hS ?_
               simp only [Act.put, lsA, lsZ, lsS]
               refine take_at (i := 5) 93 (v := .pointer (some ⟨B1, 9, none⟩)) rfl rfl (by kernel_rfl) (by kernel_rfl) (by kernel_rfl) (fun _ _ _ h => h) (Or.inl ⟨by rfl, fun w' hw' => by go_simp⟩) hS ?_
               simp only [Act.put, lsA, lsZ, lsS]
               refine take_at (i := 6) 94 (v := .slice (some ⟨bb, ob, none⟩) m2.length Y.mc) rfl rfl (by kernel_rfl) (by kernel_rfl) (by kernel_rfl) (fun _ _ _ h => h) (Or.inl ⟨by rfl, fun w' hw' => by obtain ⟨x0, x1, x2, x3, x4, x5, x6, x7, x8, x9⟩ := celw10 (HC1.out.off hw' (fun h => h)); rw [l6, hmb] at x9; go_simp⟩) hS ?_
               simp only [Act.put, lsA, lsZ, lsS]
               refine take_at (i := 7) 95 (v := .int .i64 (i : Int)) rfl rfl (by kernel_rfl) (by kernel_rfl) (by kernel_rfl) (fun _ _ _ h => h) (Or.inl ⟨by rfl, fun w' hw' => by go_simp⟩) hS ?_
               simp only [Act.put, lsA, lsZ, lsS]
               refine take_at (i := 8) 96 (v := .pointer (some ⟨bb, ob + i * 2, none⟩)) rfl rfl (by kernel_rfl) (by kernel_rfl) (by kernel_rfl) (fun _ _ _ h => h) (Or.inl ⟨by rfl, fun w' hw' => by go_simp⟩) hS ?_
               simp only [Act.put, lsA, lsZ, lsS]
               refine take_at (i := 9) 97 (v := .agg #[.int .i64 y.1, .int .i64 y.2]) rfl rfl (by kernel_rfl) (by kernel_rfl) (by kernel_rfl) (fun _ _ _ h => h) (Or.inl ⟨by rfl, fun w' hw' => by obtain ⟨z0, z1⟩ := LY.out w' hw'; go_simp⟩) hS ?_
               simp only [Act.put, lsA, lsZ, lsS]
               refine take_at (i := 10) 98 (v := .bool true) rfl rfl (by kernel_rfl) (by kernel_rfl) (by kernel_rfl) (fun _ _ _ h => h) (Or.inl ⟨by rfl, fun w' hw' => exec_bin10 rfl (by go_simp) ((neq_mem x.1 x.2 y.1 y.2 w').trans (by rw [hdd]; rfl))⟩) hS ?_
               simp only [Act.put, lsA, lsZ, lsS]
               refine wpAnyH_done (by kernel_rfl) ?_ _
               have HO9 : Hid _ := hS
               clear hS hma hmb
               go_wp2_with fail
               go_ret
               exact ⟨false, rfl, ⟨(fun h => by cases h), fun h => absurd (by have h := nfP_iff.1 h; rw [h.2.2.2.2.2.2.2.2.2] : m1.map id = m2.map id) (map_apart HX.out HY.out HNF.out)⟩, HO.out.trans HO9.out (fun _ _ h => h)⟩
             ·obtain rfl : i = m1.length := by omega
              have i1 : decide ((m1.length : Int) < (m1.length : Int)) = false := decide_eq_false (by omega)
              have i2 : decide (m1.length < m1.length) = false := decide_eq_false (by omega)
              go_wp2_with fail
              go_ret
              exact ⟨true, rfl, ⟨fun _ => nfP_iff.2 ⟨HS7.out.1, HS7.out.2.1, HS7.out.2.2.1, HS7.out.2.2.2.1, HS7.out.2.2.2.2.1, HS7.out.2.2.2.2.2.1, HS7.out.2.2.2.2.2.2, HE1.out, HG1.out, by have := map_done HM.out rfl hlm; simpa using this⟩, fun _ => rfl⟩, HO.out.trans HOC.out (fun _ _ h => h)⟩
           ·have dl : ((m1.length : Int) != (m2.length : Int)) = true := by rw [bne_iff_ne]; omega
            have HNM : Hid (¬ m1 = m2) := fun e => hlm (by rw [e])
            go_wp2_with fail
            go_ret
            exact ⟨false, rfl, ⟨(fun h => by cases h), fun h => absurd (nfP_iff.1 h).2.2.2.2.2.2.2.2.2 HNM.out⟩, HO.out.trans HOC2.out (fun _ _ h => h)⟩
        ·have HNE : Hid (¬ nfP X e1 g1 m1 = nfP Y e2 g2 m2) := fun e => h6 (by have h := nfP_iff.1 e; exact h.2.2.2.2.2.2.1)
         have d6 : (X.bk != Y.bk) = true := by rw [bne_iff_ne]; exact h6
         clear h6
         go_wp2_with fail
         go_ret
         exact ⟨false, rfl, ⟨(fun h => by cases h), fun h => absurd h HNE.out⟩, HO.out⟩
       ·have HNE : Hid (¬ nfP X e1 g1 m1 = nfP Y e2 g2 m2) := fun e => h5 (by have h := nfP_iff.1 e; exact h.2.2.2.2.2.1)
        have k5 : ¬ X.key.toList = Y.key.toList := fun e => h5 (kb_inj (by rw [toL, toL] at e; exact e))
        have d5 : decide (X.key.toList = Y.key.toList) = false := decide_eq_false k5
        clear h5
        go_wp2_with fail
        go_ret
        exact ⟨false, rfl, ⟨(fun h => by cases h), fun h => absurd h HNE.out⟩, HO.out⟩
      ·have HNE : Hid (¬ nfP X e1 g1 m1 = nfP Y e2 g2 m2) := fun e => h4 (by have h := nfP_iff.1 e; exact h.2.2.2.2.1)
       have d4 : (X.fo != Y.fo) = true := by rw [bne_iff_ne]; exact h4
       clear h4
       go_wp2_with fail
       go_ret
       exact ⟨false, rfl, ⟨(fun h => by cases h), fun h => absurd h HNE.out⟩, HO.out⟩
     ·have HNE : Hid (¬ nfP X e1 g1 m1 = nfP Y e2 g2 m2) := fun e => h3 (by have h := nfP_iff.1 e; exact h.2.2.2.1)
      have d3 : (X.op != Y.op) = true := by rw [bne_iff_ne]; exact h3
      clear h3
      go_wp2_with fail
      go_ret
      exact ⟨false, rfl, ⟨(fun h => by cases h), fun h => absurd h HNE.out⟩, HO.out⟩
    ·have HNE : Hid (¬ nfP X e1 g1 m1 = nfP Y e2 g2 m2) := fun e => h2 (by have h := nfP_iff.1 e; exact h.2.2.1)
     have d2 : (X.tn != Y.tn) = true := by rw [bne_iff_ne]; exact h2
     clear h2
     go_wp2_with fail
     go_ret
     exact ⟨false, rfl, ⟨(fun h => by cases h), fun h => absurd h HNE.out⟩, HO.out⟩
   ·have HNE : Hid (¬ nfP X e1 g1 m1 = nfP Y e2 g2 m2) := fun e => h1 (by have h := nfP_iff.1 e; exact h.2.1)
    have d1 : (X.fr != Y.fr) = true := by rw [bne_iff_ne]; exact h1
    clear h1
    go_wp2_with fail
    go_ret
    exact ⟨false, rfl, ⟨(fun h => by cases h), fun h => absurd h HNE.out⟩, HO.out⟩
  ·have HNE : Hid (¬ nfP X e1 g1 m1 = nfP Y e2 g2 m2) := fun e => h0 (by have h := nfP_iff.1 e; exact h.1)
   have d0 : (X.k != Y.k) = true := by rw [bne_iff_ne]; exact h0
   clear h0
   go_wp2_with fail
   go_ret
   exact ⟨false, rfl, ⟨(fun h => by cases h), fun h => absurd h HNE.out⟩, HO.out⟩
theorem same_any (x y : Mg) (e1 e2 : List E) (g1 g2 : List G) (m1 m2 : List (Int × Int)) (w : World) (hx : MsgAt w x e1 g1 m1) (hy : MsgAt w y e2 g2 m2) :
  Calls Tryz.prog 9 #[(.agg #[.int .i64 x.k, .int .i64 x.fr, .int .i64 x.tn, .int .i64 x.op, .int .i64 x.fo, .string x.key, .int .i64 x.bk, .slice x.ea x.el x.ec, .slice x.da x.dl x.dc, .slice x.ma x.ml x.mc]), (.agg #[.int .i64 y.k, .int .i64 y.fr, .int .i64 y.tn, .int .i64 y.op, .int .i64 y.fo, .string y.key, .int .i64 y.bk, .slice y.ea y.el y.ec, .slice y.da y.dl y.dc, .slice y.ma y.ml y.mc])] w fun e w' => ∃ b : Bool, e = .returned (.bool b) ∧ (b = true ↔ nfM x e1 g1 m1 = nfM y e2 g2 m2) ∧ Off (fun _ => False) w w' :=
 same_core x y (plM (msk x.k) x) (plM (msk y.k) y) _ _ _ _ _ _ w (hx.plain (msk x.k)) (hy.plain (msk y.k)) (fun W => plain_any x W) (fun W => plain_any y W)
end Go.Proofs.YtmbphlkohlggfaaGreat
