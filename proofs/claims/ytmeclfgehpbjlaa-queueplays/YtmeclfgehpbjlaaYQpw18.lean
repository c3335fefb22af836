/- Items of several texts. -/
import Derived.Test.YtmeclfgehpbjlaaYQpl18
namespace Go.Proofs.Ytmeclfgehpbjlaa
set_option maxRecDepth 100000
open Go.RowKit
theorem dN (w : World) (m : Nat) : Off (fun _ => False) w (w.drewN m) := ⟨rfl, rfl, rfl, Nat.le_refl _, fun _ _ _ => rfl⟩
theorem celw3 {b : Nat} {t : TypeId} {s0 s1 s2 : Value} {w : World} (h : Cel b t #[s0, s1, s2] w) : w.cell? ⟨b, 0, none⟩ = some s0 ∧ w.cell? ⟨b, 1, none⟩ = some s1 ∧ w.cell? ⟨b, 2, none⟩ = some s2 := ⟨h.cell 0, h.cell 1, h.cell 2⟩
set_option maxHeartbeats 8000000 in
theorem plays_walk (mo0 : Int) (a : Option Addr) (cap : Nat) (cs : List Cl) (w : World) (_ : -9223372036854775808 ≤ mo0 ∧ mo0 ≤ 9223372036854775807) (hb : Cls w a cap cs) (hr : ∀ c ∈ cs, MsgRc c.es c.gs) :
  Calls Try.prog 3 #[.int .i64 mo0, .slice a cs.length cap] w fun e w' => e = .returned (.bool true) ∧ Off (fun _ => False) w w' := by
 have HB : Hid (∀ i c, cs[i]? = some c → ∃ b off, a = some ⟨b, off, none⟩ ∧ ∀ w', Off (fun _ => False) w w' → w'.cell? ⟨b, off + i * 12, none⟩ = some (.int .i64 c.k) ∧ w'.cell? ⟨b, off + i * 12 + 1, none⟩ = some (.int .i64 c.u) ∧ w'.cell? ⟨b, off + i * 12 + 2, none⟩ = some (.int .i64 c.m.k) ∧ w'.cell? ⟨b, off + i * 12 + 3, none⟩ = some (.int .i64 c.m.fr) ∧ w'.cell? ⟨b, off + i * 12 + 4, none⟩ = some (.int .i64 c.m.tn) ∧ w'.cell? ⟨b, off + i * 12 + 5, none⟩ = some (.int .i64 c.m.op) ∧ w'.cell? ⟨b, off + i * 12 + 6, none⟩ = some (.int .i64 c.m.fo) ∧ w'.cell? ⟨b, off + i * 12 + 7, none⟩ = some (.string c.m.key) ∧ w'.cell? ⟨b, off + i * 12 + 8, none⟩ = some (.int .i64 c.m.bk) ∧ w'.cell? ⟨b, off + i * 12 + 9, none⟩ = some (.slice c.m.ea c.m.el c.m.ec) ∧ w'.cell? ⟨b, off + i * 12 + 10, none⟩ = some (.slice c.m.da c.m.dl c.m.dc) ∧ w'.cell? ⟨b, off + i * 12 + 11, none⟩ = some (.slice c.m.ma c.m.ml c.m.mc)) := fun i c hi => hb.cells hi
 have HM : Hid (∀ (i : Nat) (c : Cl), cs[i]? = some c → MsgAt w c.m c.es c.gs c.ms ∧ MsgRc c.es c.gs) := fun i c hi => ⟨by obtain ⟨b, off, -, -, h⟩ := hb.at_ i c hi; exact h, hr c (List.mem_of_getElem? hi)⟩
 obtain ⟨len, hl⟩ : ∃ len, len = cs.length := ⟨_, rfl⟩
 have hlen : len ≤ 9223372036854775807 := by rw [hl]; exact Nat.le_trans hb.len hb.bound
 have HLEN : Hid (len = cs.length) := hl
 rw [← hl]
 obtain ⟨N, hN⟩ : ∃ N : Int → NF, N = fun k => match cs[k.toNat]? with | some c => nfM c.m c.es c.gs c.ms | none => nfM mz [] [] [] := ⟨_, rfl⟩
 have HNN : Hid (∀ (i : Nat) (c : Cl), cs[i]? = some c → N (i : Int) = nfM c.m c.es c.gs c.ms) := fun i c hi => by rw [hN]; show (match cs[((i : Int)).toNat]? with | some c => nfM c.m c.es c.gs c.ms | none => nfM mz [] [] []) = _; rw [Int.toNat_natCast, hi]
 clear hb hr hN hl
 have hq := eql_que
 obtain ⟨mo, hmo⟩ : ∃ mo, mo = clq mo0 := ⟨_, rfl⟩
 have HMO : Hid (mo = clq mo0) := hmo
 have hmb : 0 ≤ mo ∧ mo ≤ 1000 := by rw [hmo]; unfold clq; omega
 clear hmo
 have HN : Hid _ := rnew_any N mo0 w
 go_enter Try.func3, Try.ntmps3
 go_wp2_with fail
 refine Calls.mono HN.out ?_
 rintro e w1 ⟨p, rfl, h1⟩
 have H1 : Hid _ := h1
 clear h1 HN
 go_wp2_with fail
 refine (rqnew_any N mo0 _).mono ?_
 rintro e w2 ⟨q, R, rfl, h2, hR, o2⟩
 have HT2 : Hid (Two N w (fun _ => False) p q [] mo 0 0 w2) := by
  refine ⟨⟨R, ?_, ?_, fun _ _ h => h⟩, fun _ h => h.elim⟩
  ·rw [HMO.out]
   exact H1.out.keep (o2.mono (fun _ _ h => h.elim)) (fun c hc => hc.elim (fun hc => .inl (hR c hc)) (fun h => h.elim))
  ·rw [HMO.out]
   exact h2.base H1.out.off
 clear h2 hR o2 H1
 go_wp2_with fail
 go_loopw [7] (fun s7 wr => ∃ (i : Nat) (l : List (Int × Int)) (r t : Int), s7 = .int .i64 (i : Int) ∧ i ≤ 120 ∧ i ≤ len ∧ Hid (0 ≤ r ∧ r ≤ i ∧ 0 ≤ t ∧ t ≤ i) ∧ Hid (Two N w (fun _ => False) p q l mo r t wr)) (fun s _ => ((len : Int) - intOf s).toNat)
 case atStart => exact ⟨0, [], 0, 0, rfl, by omega, by omega, ⟨by decide, by decide, by decide, by decide⟩, HT2.out⟩
 case round =>
  obtain ⟨i, l, r, t, rfl, hi120, hil, HRT, HT⟩ := hrel
  clear HT2
  by_cases hlt : i < len
  ·by_cases h120 : i < 120
   ·obtain ⟨c, hc⟩ : ∃ c, cs[i]? = some c := ⟨_, List.getElem?_eq_getElem (by have := HLEN.out; omega)⟩
    obtain ⟨b, off, rfl, hcell⟩ := HB.out i c hc
    obtain ⟨k0, k1, k2, k3, k4, k5, k6, k7, k8, k9, k10, k11⟩ := hcell _ HT.out.off
    clear hcell
    obtain ⟨hma, hmr⟩ := HM.out i c hc
    have HMA : Hid _ := hma
    have HMR : Hid _ := hmr
    have HNI : Hid _ := HNN.out i c hc
    clear hma hmr
    have d120 : decide ((i : Int) < 120) = true := decide_eq_true (by omega)
    have d120b : decide (i < 120) = true := decide_eq_true h120
    go_upto_block 2 with fail
    clear d120 d120b
    have O6 : Off (fun _ => False) wr (wr.alloc (.cells #[.int .i64 c.k, .int .i64 c.u, .int .i64 c.m.k, .int .i64 c.m.fr, .int .i64 c.m.tn, .int .i64 c.m.op, .int .i64 c.m.fo, .string c.m.key, .int .i64 c.m.bk, .slice c.m.ea c.m.el c.m.ec, .slice c.m.da c.m.dl c.m.dc, .slice c.m.ma c.m.ml c.m.mc] 33)) := (Off.refl _ wr).alloc _
    have C6 : Cel wr.heap.size 33 #[.int .i64 c.k, .int .i64 c.u, .int .i64 c.m.k, .int .i64 c.m.fr, .int .i64 c.m.tn, .int .i64 c.m.op, .int .i64 c.m.fo, .string c.m.key, .int .i64 c.m.bk, .slice c.m.ea c.m.el c.m.ec, .slice c.m.da c.m.dl c.m.dc, .slice c.m.ma c.m.ml c.m.mc] (wr.alloc (.cells #[.int .i64 c.k, .int .i64 c.u, .int .i64 c.m.k, .int .i64 c.m.fr, .int .i64 c.m.tn, .int .i64 c.m.op, .int .i64 c.m.fo, .string c.m.key, .int .i64 c.m.bk, .slice c.m.ea c.m.el c.m.ec, .slice c.m.da c.m.dl c.m.dc, .slice c.m.ma c.m.ml c.m.mc] 33)) := Cel.new wr _ _
    generalize hv : wr.alloc (.cells #[.int .i64 c.k, .int .i64 c.u, .int .i64 c.m.k, .int .i64 c.m.fr, .int .i64 c.m.tn, .int .i64 c.m.op, .int .i64 c.m.fo, .string c.m.key, .int .i64 c.m.bk, .slice c.m.ea c.m.el c.m.ec, .slice c.m.da c.m.dl c.m.dc, .slice c.m.ma c.m.ml c.m.mc] 33) = w6 at O6 C6 ⊢
    have HT6 : Hid (Two N w (fun c => c = wr.heap.size) p q l mo r t w6) := (HT.out.new O6 ⟨Nat.le_refl _, C6.lt⟩).less (fun c hc => .inr hc)
    clear hv HT k0 k1 k2 k3 k4 k5 k6 k7 k8 k9 k10 k11 O6
    generalize wr.heap.size = q9 at C6 HT6 ⊢
    have HC6 : Hid _ := C6
    clear C6
    go_cut [9, 10, 11, 12] from 33 to 80 (fun s9 s10 s11 s12 wx => ∃ (l : List (Int × Int)) (r t : Int), Hid (Two N w (fun _ => False) p q l mo r t wx) ∧ Hid (0 ≤ r ∧ r ≤ (i : Int) + 1 ∧ 0 ≤ t ∧ t ≤ (i : Int) + 1))
    case first =>
     obtain ⟨x0, x1, x2, x3, x4, x5, x6, x7, x8, x9, x10, x11⟩ := celw12 HC6.out
     by_cases hk0 : c.k = 0
     ·have dk0 : (c.k == (0 : Int)) = true := by rw [hk0]; rfl
      have dk1 : (c.k == (1 : Int)) = false := by rw [hk0]; rfl
      clear hk0
      have hel : c.m.el ≤ 9223372036854775807 := by have := HMA.out; rw [this.el]; exact Nat.le_trans this.ens.len this.ens.bound
      have hdl : c.m.dl ≤ 9223372036854775807 := by have := HMA.out; rw [this.dl]; exact Nat.le_trans this.dgs.len this.dgs.bound
      have hml : c.m.ml ≤ 9223372036854775807 := by have := HMA.out; rw [this.ml]; exact Nat.le_trans this.mbs.len this.mbs.bound
      go_wp2_with fail
      refine (light_any c.k c.u c.m _ hel hdl hml).mono ?_
      rintro e w7 ⟨lt, rfl, hlt3, o7⟩
      have HT7 : Hid _ := HT6.out.free o7
      have HC7 : Hid _ := HC6.out.off o7 (fun h => h)
      have HL3 : Hid _ := hlt3
      clear x0 x1 x2 x3 x4 x5 x6 x7 x8 x9 x10 x11 hlt3 o7 HT6 HC6 hel hdl hml
      cases lt
      ·obtain ⟨x0, x1, x2, x3, x4, x5, x6, x7, x8, x9, x10, x11⟩ := celw12 HC7.out
       go_wp2_with fail
       refine (mtick_any HT7.out.half (by have := HRT.out; omega)).mono ?_
       rintro e v0 ⟨rfl, g0, -⟩
       have HG0 : Hid _ := g0
       clear g0 x0 x1 x2 x3 x4 x5 x6 x7 x8 x9 x10 x11
       go_wp2_with fail
       refine (ttick_any HG0.out (by have := HRT.out; omega)).mono ?_
       rintro e v1 ⟨rfl, g1, -⟩
       have HG1 : Hid _ := g1
       clear g1 HG0
       go_wp2_with fail
       go_meet
       case rel => exact ⟨l, r, t + 1, HG1.out.two.less (fun _ h => h.elim), (by have := HRT.out; show _ ∧ _ ∧ _ ∧ _; omega)⟩
      ·have hb3 := HL3.out rfl
       have HSZ : Hid (MsgSz c.es c.gs c.ms) := by
        have h1 := HMA.out
        have h2 := HMR.out
        refine ⟨by have := h1.el; omega, by have := h1.dl; omega, by have := h1.ml; omega, h2.ev, h2.gd⟩
       clear hb3 HL3
       go_upto_region 11 with fail
       by_cases hfull : (l.length : Int) < mo
       ·skip
        refine wp_region_held_drew (S := fun w' => Off (fun c => ¬ c = q9) w7 w') (by kernel_rfl) ((Off.refl _ w7).drew) (fun hS => ?_)
        refine take_at (i := 0) 45 (v := .pointer (some ⟨p, 0, none⟩)) rfl rfl (by kernel_rfl) (by kernel_rfl) (by kernel_rfl) (fun _ _ _ h => h) (Or.inl ⟨by rfl, fun w' hw' => by go_simp⟩) hS ?_
        simp only [Act.put, lsA, lsZ, lsS]
        refine take_at (i := 1) 46 (v := .pointer (some ⟨q9, 2, none⟩)) rfl rfl (by kernel_rfl) (by kernel_rfl) (by kernel_rfl) (fun _ _ _ h => h) (Or.inl ⟨by rfl, fun w' hw' => by go_simp⟩) hS ?_
        simp only [Act.put, lsA, lsZ, lsS]
        refine take_at (i := 2) 47 (v := (.agg #[.int .i64 c.m.k, .int .i64 c.m.fr, .int .i64 c.m.tn, .int .i64 c.m.op, .int .i64 c.m.fo, .string c.m.key, .int .i64 c.m.bk, .slice c.m.ea c.m.el c.m.ec, .slice c.m.da c.m.dl c.m.dc, .slice c.m.ma c.m.ml c.m.mc])) rfl rfl (by kernel_rfl) (by kernel_rfl) (by kernel_rfl) (fun _ _ _ h => h) (Or.inl ⟨by rfl, fun w' hw' => by obtain ⟨x0, x1, x2, x3, x4, x5, x6, x7, x8, x9, x10, x11⟩ := celw12 (HC7.out.off hw' (fun h => h rfl)); go_simp⟩) hS ?_
        simp only [Act.put, lsA, lsZ, lsS]
        refine take_at (i := 3) 48 (v := .pointer (some ⟨q9, 1, none⟩)) rfl rfl (by kernel_rfl) (by kernel_rfl) (by kernel_rfl) (fun _ _ _ h => h) (Or.inl ⟨by rfl, fun w' hw' => by go_simp⟩) hS ?_
        simp only [Act.put, lsA, lsZ, lsS]
        refine take_at (i := 4) 49 (v := .int .i64 c.u) rfl rfl (by kernel_rfl) (by kernel_rfl) (by kernel_rfl) (fun _ _ _ h => h) (Or.inl ⟨by rfl, fun w' hw' => by obtain ⟨x0, x1, x2, x3, x4, x5, x6, x7, x8, x9, x10, x11⟩ := celw12 (HC7.out.off hw' (fun h => h rfl)); go_simp⟩) hS ?_
        simp only [Act.put, lsA, lsZ, lsS]
        refine take_at (i := 6) 51 (v := .pointer (some ⟨q, 0, none⟩)) rfl rfl (by kernel_rfl) (by kernel_rfl) (by kernel_rfl) (fun _ _ _ h => h) (Or.inl ⟨by rfl, fun w' hw' => by go_simp⟩) hS ?_
        simp only [Act.put, lsA, lsZ, lsS]
        refine take_at (i := 7) 52 (v := .pointer (some ⟨q9, 2, none⟩)) rfl rfl (by kernel_rfl) (by kernel_rfl) (by kernel_rfl) (fun _ _ _ h => h) (Or.inl ⟨by rfl, fun w' hw' => by go_simp⟩) hS ?_
        simp only [Act.put, lsA, lsZ, lsS]
        refine take_at (i := 8) 53 (v := (.agg #[.int .i64 c.m.k, .int .i64 c.m.fr, .int .i64 c.m.tn, .int .i64 c.m.op, .int .i64 c.m.fo, .string c.m.key, .int .i64 c.m.bk, .slice c.m.ea c.m.el c.m.ec, .slice c.m.da c.m.dl c.m.dc, .slice c.m.ma c.m.ml c.m.mc])) rfl rfl (by kernel_rfl) (by kernel_rfl) (by kernel_rfl) (fun _ _ _ h => h) (Or.inl ⟨by rfl, fun w' hw' => by obtain ⟨x0, x1, x2, x3, x4, x5, x6, x7, x8, x9, x10, x11⟩ := celw12 (HC7.out.off hw' (fun h => h rfl)); go_simp⟩) hS ?_
        simp only [Act.put, lsA, lsZ, lsS]
        refine take_at (i := 9) 54 (v := .pointer (some ⟨q9, 1, none⟩)) rfl rfl (by kernel_rfl) (by kernel_rfl) (by kernel_rfl) (fun _ _ _ h => h) (Or.inl ⟨by rfl, fun w' hw' => by go_simp⟩) hS ?_
        simp only [Act.put, lsA, lsZ, lsS]
        refine take_at (i := 10) 55 (v := .int .i64 c.u) rfl rfl (by kernel_rfl) (by kernel_rfl) (by kernel_rfl) (fun _ _ _ h => h) (Or.inl ⟨by rfl, fun w' hw' => by obtain ⟨x0, x1, x2, x3, x4, x5, x6, x7, x8, x9, x10, x11⟩ := celw12 (HC7.out.off hw' (fun h => h rfl)); go_simp⟩) hS ?_
        simp only [Act.put, lsA, lsZ, lsS]
        refine wpAnyH_ready (rs := [5]) (by kernel_rfl) (by simp) ?_
        refine AllReadyH.cons rfl (fun K' hK' => ?_) AllReadyH.nil
        go_simp
        refine (mput_yes (HT7.out.half.free ((Off.refl (fun _ => False) w7).drew)) (i : Int) c.u c.m c.es c.gs c.ms HMA.out HSZ.out HNI.out (by have := prg_len l; omega) (by have := HRT.out; omega)).mono ?_
        rintro e v0 ⟨rfl, g0, o0⟩
        have HG0 : Hid _ := g0
        refine hK'.out _ _ (hS.trans o0 (fun _ _ h => h)) (fun hS => ?_)
        clear hK' K' o0 g0
        refine wpAnyH_ready (rs := [11]) (by kernel_rfl) (by simp) ?_
        refine AllReadyH.cons rfl (fun K' hK' => ?_) AllReadyH.nil
        go_simp
        refine (tput_yes HG0.out (i : Int) c.u c.m ⟨c.es, c.gs, c.ms, HMA.out, HNI.out.symm⟩ (by omega) (by have := HRT.out; omega)).mono ?_
        rintro e v1 ⟨rfl, g1, o1⟩
        have HG1 : Hid _ := g1
        refine hK'.out _ _ (hS.trans o1 (fun _ _ h => h)) (fun hS => ?_)
        clear hK' K' o1 g1
        refine take_at (i := 12) 57 (v := .bool false) rfl rfl (by kernel_rfl) (by kernel_rfl) (by kernel_rfl) (fun _ _ _ h => h) (Or.inl ⟨by rfl, fun w' hw' => by go_simp⟩) hS ?_
        simp only [Act.put, lsA, lsZ, lsS]
        refine wpAnyH_done (by kernel_rfl) ?_ _
        clear hS
        go_wp2_with fail
        go_meet
        case rel =>
         have h := HG1.out
         rw [← prg_snoc] at h
         exact ⟨l ++ [((i : Int), wgt c.u - t)], r, t, h.two.less (fun _ h => h.elim), (by have := HRT.out; show _ ∧ _ ∧ _ ∧ _; omega)⟩
       ·skip
        refine wp_region_held_drew (S := fun w' => Off (fun c => ¬ c = q9) w7 w') (by kernel_rfl) ((Off.refl _ w7).drew) (fun hS => ?_)
        refine take_at (i := 0) 45 (v := .pointer (some ⟨p, 0, none⟩)) rfl rfl (by kernel_rfl) (by kernel_rfl) (by kernel_rfl) (fun _ _ _ h => h) (Or.inl ⟨by rfl, fun w' hw' => by go_simp⟩) hS ?_
        simp only [Act.put, lsA, lsZ, lsS]
        refine take_at (i := 1) 46 (v := .pointer (some ⟨q9, 2, none⟩)) rfl rfl (by kernel_rfl) (by kernel_rfl) (by kernel_rfl) (fun _ _ _ h => h) (Or.inl ⟨by rfl, fun w' hw' => by go_simp⟩) hS ?_
        simp only [Act.put, lsA, lsZ, lsS]
        refine take_at (i := 2) 47 (v := (.agg #[.int .i64 c.m.k, .int .i64 c.m.fr, .int .i64 c.m.tn, .int .i64 c.m.op, .int .i64 c.m.fo, .string c.m.key, .int .i64 c.m.bk, .slice c.m.ea c.m.el c.m.ec, .slice c.m.da c.m.dl c.m.dc, .slice c.m.ma c.m.ml c.m.mc])) rfl rfl (by kernel_rfl) (by kernel_rfl) (by kernel_rfl) (fun _ _ _ h => h) (Or.inl ⟨by rfl, fun w' hw' => by obtain ⟨x0, x1, x2, x3, x4, x5, x6, x7, x8, x9, x10, x11⟩ := celw12 (HC7.out.off hw' (fun h => h rfl)); go_simp⟩) hS ?_
        simp only [Act.put, lsA, lsZ, lsS]
        refine take_at (i := 3) 48 (v := .pointer (some ⟨q9, 1, none⟩)) rfl rfl (by kernel_rfl) (by kernel_rfl) (by kernel_rfl) (fun _ _ _ h => h) (Or.inl ⟨by rfl, fun w' hw' => by go_simp⟩) hS ?_
        simp only [Act.put, lsA, lsZ, lsS]
        refine take_at (i := 4) 49 (v := .int .i64 c.u) rfl rfl (by kernel_rfl) (by kernel_rfl) (by kernel_rfl) (fun _ _ _ h => h) (Or.inl ⟨by rfl, fun w' hw' => by obtain ⟨x0, x1, x2, x3, x4, x5, x6, x7, x8, x9, x10, x11⟩ := celw12 (HC7.out.off hw' (fun h => h rfl)); go_simp⟩) hS ?_
        simp only [Act.put, lsA, lsZ, lsS]
        refine take_at (i := 6) 51 (v := .pointer (some ⟨q, 0, none⟩)) rfl rfl (by kernel_rfl) (by kernel_rfl) (by kernel_rfl) (fun _ _ _ h => h) (Or.inl ⟨by rfl, fun w' hw' => by go_simp⟩) hS ?_
        simp only [Act.put, lsA, lsZ, lsS]
        refine take_at (i := 7) 52 (v := .pointer (some ⟨q9, 2, none⟩)) rfl rfl (by kernel_rfl) (by kernel_rfl) (by kernel_rfl) (fun _ _ _ h => h) (Or.inl ⟨by rfl, fun w' hw' => by go_simp⟩) hS ?_
        simp only [Act.put, lsA, lsZ, lsS]
        refine take_at (i := 8) 53 (v := (.agg #[.int .i64 c.m.k, .int .i64 c.m.fr, .int .i64 c.m.tn, .int .i64 c.m.op, .int .i64 c.m.fo, .string c.m.key, .int .i64 c.m.bk, .slice c.m.ea c.m.el c.m.ec, .slice c.m.da c.m.dl c.m.dc, .slice c.m.ma c.m.ml c.m.mc])) rfl rfl (by kernel_rfl) (by kernel_rfl) (by kernel_rfl) (fun _ _ _ h => h) (Or.inl ⟨by rfl, fun w' hw' => by obtain ⟨x0, x1, x2, x3, x4, x5, x6, x7, x8, x9, x10, x11⟩ := celw12 (HC7.out.off hw' (fun h => h rfl)); go_simp⟩) hS ?_
        simp only [Act.put, lsA, lsZ, lsS]
        refine take_at (i := 9) 54 (v := .pointer (some ⟨q9, 1, none⟩)) rfl rfl (by kernel_rfl) (by kernel_rfl) (by kernel_rfl) (fun _ _ _ h => h) (Or.inl ⟨by rfl, fun w' hw' => by go_simp⟩) hS ?_
        simp only [Act.put, lsA, lsZ, lsS]
        refine take_at (i := 10) 55 (v := .int .i64 c.u) rfl rfl (by kernel_rfl) (by kernel_rfl) (by kernel_rfl) (fun _ _ _ h => h) (Or.inl ⟨by rfl, fun w' hw' => by obtain ⟨x0, x1, x2, x3, x4, x5, x6, x7, x8, x9, x10, x11⟩ := celw12 (HC7.out.off hw' (fun h => h rfl)); go_simp⟩) hS ?_
        simp only [Act.put, lsA, lsZ, lsS]
        refine wpAnyH_ready (rs := [5]) (by kernel_rfl) (by simp) ?_
        refine AllReadyH.cons rfl (fun K' hK' => ?_) AllReadyH.nil
        go_simp
        refine (mput_full (HT7.out.half.free ((Off.refl (fun _ => False) w7).drew)) c.u c.m (by have := prg_len l; omega) (by have := HRT.out; omega)).mono ?_
        rintro e v0 ⟨rfl, g0, o0⟩
        have HG0 : Hid _ := g0
        refine hK'.out _ _ (hS.trans o0 (fun _ _ h => h)) (fun hS => ?_)
        clear hK' K' o0 g0
        refine wpAnyH_ready (rs := [11]) (by kernel_rfl) (by simp) ?_
        refine AllReadyH.cons rfl (fun K' hK' => ?_) AllReadyH.nil
        go_simp
        refine (tput_full HG0.out c.u c.m (by omega) (by have := HRT.out; omega)).mono ?_
        rintro e v1 ⟨rfl, g1, o1⟩
        have HG1 : Hid _ := g1
        refine hK'.out _ _ (hS.trans o1 (fun _ _ h => h)) (fun hS => ?_)
        clear hK' K' o1 g1
        refine take_at (i := 12) 57 (v := .bool false) rfl rfl (by kernel_rfl) (by kernel_rfl) (by kernel_rfl) (fun _ _ _ h => h) (Or.inl ⟨by rfl, fun w' hw' => by go_simp⟩) hS ?_
        simp only [Act.put, lsA, lsZ, lsS]
        refine wpAnyH_done (by kernel_rfl) ?_ _
        clear hS
        go_wp2_with fail
        go_meet
        case rel =>
         have h := HG1.out
         exact ⟨l, r + 1, t, h.two.less (fun _ h => h.elim), (by have := HRT.out; show _ ∧ _ ∧ _ ∧ _; omega)⟩
     ·have dk0 : (c.k == (0 : Int)) = false := by rw [beq_eq_false_iff_ne]; exact hk0
      have HT7 : Hid _ := HT6.out
      clear HT6
      by_cases hk1 : c.k = 1
      ·have dk1 : (c.k == (1 : Int)) = true := by rw [hk1]; rfl
       clear hk1 hk0
       by_cases hle : l = []
       ·subst hle
        go_wp2_with fail
        refine (mtake_none HT7.out.half).mono ?_
        rintro e v0 ⟨rfl, g0, -⟩
        have HG0 : Hid _ := g0
        clear g0 x0 x1 x2 x3 x4 x5 x6 x7 x8 x9 x10 x11
        go_upto_region 15 with fail
        have OA : Off (fun _ => False) v0 (v0.alloc (.cells #[.int .i64 mz.k, .int .i64 mz.fr, .int .i64 mz.tn, .int .i64 mz.op, .int .i64 mz.fo, .string mz.key, .int .i64 mz.bk, .slice mz.ea mz.el mz.ec, .slice mz.da mz.dl mz.dc, .slice mz.ma mz.ml mz.mc] 31)) := (Off.refl _ v0).alloc _
        have CA : Cel v0.heap.size 31 #[.int .i64 mz.k, .int .i64 mz.fr, .int .i64 mz.tn, .int .i64 mz.op, .int .i64 mz.fo, .string mz.key, .int .i64 mz.bk, .slice mz.ea mz.el mz.ec, .slice mz.da mz.dl mz.dc, .slice mz.ma mz.ml mz.mc] (v0.alloc (.cells #[.int .i64 mz.k, .int .i64 mz.fr, .int .i64 mz.tn, .int .i64 mz.op, .int .i64 mz.fo, .string mz.key, .int .i64 mz.bk, .slice mz.ea mz.el mz.ec, .slice mz.da mz.dl mz.dc, .slice mz.ma mz.ml mz.mc] 31)) := Cel.new v0 _ _
        generalize hv : v0.alloc (.cells #[.int .i64 mz.k, .int .i64 mz.fr, .int .i64 mz.tn, .int .i64 mz.op, .int .i64 mz.fo, .string mz.key, .int .i64 mz.bk, .slice mz.ea mz.el mz.ec, .slice mz.da mz.dl mz.dc, .slice mz.ma mz.ml mz.mc] 31) = v1 at OA CA ⊢
        have HG1 : Hid _ := HG0.out.free OA
        obtain ⟨qa, hqa⟩ : ∃ qa, qa = v0.heap.size := ⟨_, rfl⟩
        rw [← hqa] at CA ⊢
        have HCA : Hid (Cel qa 31 #[.int .i64 mz.k, .int .i64 mz.fr, .int .i64 mz.tn, .int .i64 mz.op, .int .i64 mz.fo, .string mz.key, .int .i64 mz.bk, .slice mz.ea mz.el mz.ec, .slice mz.da mz.dl mz.dc, .slice mz.ma mz.ml mz.mc] v1) := CA
        clear hv OA CA HG0 hqa
        go_wp2_with fail
        refine (ttake_none HG1.out).mono ?_
        rintro e v2 ⟨rfl, g2, o2⟩
        have HG2 : Hid _ := g2
        have HO2 : Hid (Off (fun _ => False) v1 v2) := o2
        clear g2 o2 HG1
        go_upto_region 16 with fail
        have OB : Off (fun _ => False) v2 (v2.alloc (.cells #[.int .i64 mz.k, .int .i64 mz.fr, .int .i64 mz.tn, .int .i64 mz.op, .int .i64 mz.fo, .string mz.key, .int .i64 mz.bk, .slice mz.ea mz.el mz.ec, .slice mz.da mz.dl mz.dc, .slice mz.ma mz.ml mz.mc] 31)) := (Off.refl _ v2).alloc _
        have CB : Cel v2.heap.size 31 #[.int .i64 mz.k, .int .i64 mz.fr, .int .i64 mz.tn, .int .i64 mz.op, .int .i64 mz.fo, .string mz.key, .int .i64 mz.bk, .slice mz.ea mz.el mz.ec, .slice mz.da mz.dl mz.dc, .slice mz.ma mz.ml mz.mc] (v2.alloc (.cells #[.int .i64 mz.k, .int .i64 mz.fr, .int .i64 mz.tn, .int .i64 mz.op, .int .i64 mz.fo, .string mz.key, .int .i64 mz.bk, .slice mz.ea mz.el mz.ec, .slice mz.da mz.dl mz.dc, .slice mz.ma mz.ml mz.mc] 31)) := Cel.new v2 _ _
        generalize hv : v2.alloc (.cells #[.int .i64 mz.k, .int .i64 mz.fr, .int .i64 mz.tn, .int .i64 mz.op, .int .i64 mz.fo, .string mz.key, .int .i64 mz.bk, .slice mz.ea mz.el mz.ec, .slice mz.da mz.dl mz.dc, .slice mz.ma mz.ml mz.mc] 31) = v3 at OB CB ⊢
        have HG3 : Hid _ := HG2.out.free OB
        have CA3 := (HCA.out.off HO2.out (fun h => h)).off OB (fun h => h)
        generalize v2.heap.size = qb at CB ⊢
        have HS : Hid _ := same_any mz mz [] [] [] [] [] [] v3 (rd_mz v3) (rd_mz v3)
        obtain ⟨x0, x1, x2, x3, x4, x5, x6, x7, x8, x9⟩ := celw10 CA3
        obtain ⟨y0, y1, y2, y3, y4, y5, y6, y7, y8, y9⟩ := celw10 CB
        clear CA3 CB OB hv HO2 HCA HG2
        go_wp2_with fail
        refine Calls.mono HS.out ?_
        rintro e v9 ⟨bb, rfl, hbb, o9⟩
        have hbt : bb = true := hbb.2 (by first | rfl | trivial)
        rw [hbt]
        have HG9 : Hid _ := HG3.out.free o9
        clear hbb hbt o9 HG3 x0 x1 x2 x3 x4 x5 x6 x7 x8 x9 y0 y1 y2 y3 y4 y5 y6 y7 y8 y9 HS
        go_wp2_with fail
        go_meet
        case rel => exact ⟨[], r, t, HG9.out.two.less (fun _ h => h.elim), (by have := HRT.out; show _ ∧ _ ∧ _ ∧ _; omega)⟩
       ·obtain ⟨l1, l2, k, b, rfl, hb1, hb2⟩ := first_max l hle
        have HB12 : Hid ((∀ x ∈ l1, x.2 < b) ∧ ∀ x ∈ l2, x.2 ≤ b) := ⟨hb1, hb2⟩
        have h0 := HT7.out.half
        rw [prg_first hb1 hb2] at h0
        have H0 : Hid _ := h0
        clear h0 hb1 hb2 hle HT7
        go_wp2_with fail
        refine (mtake_some H0.out).mono ?_
        rintro e v0 ⟨m1, rfl, hm1, g0, -⟩
        have HM1 : Hid _ := hm1
        have HG0 : Hid _ := g0
        clear g0 hm1 x0 x1 x2 x3 x4 x5 x6 x7 x8 x9 x10 x11 H0
        go_upto_region 15 with fail
        have hqb : q < v0.heap.size := HG0.out.qlt
        have OA : Off (fun _ => False) v0 (v0.alloc (.cells #[.int .i64 m1.k, .int .i64 m1.fr, .int .i64 m1.tn, .int .i64 m1.op, .int .i64 m1.fo, .string m1.key, .int .i64 m1.bk, .slice m1.ea m1.el m1.ec, .slice m1.da m1.dl m1.dc, .slice m1.ma m1.ml m1.mc] 31)) := (Off.refl _ v0).alloc _
        have CA : Cel v0.heap.size 31 #[.int .i64 m1.k, .int .i64 m1.fr, .int .i64 m1.tn, .int .i64 m1.op, .int .i64 m1.fo, .string m1.key, .int .i64 m1.bk, .slice m1.ea m1.el m1.ec, .slice m1.da m1.dl m1.dc, .slice m1.ma m1.ml m1.mc] (v0.alloc (.cells #[.int .i64 m1.k, .int .i64 m1.fr, .int .i64 m1.tn, .int .i64 m1.op, .int .i64 m1.fo, .string m1.key, .int .i64 m1.bk, .slice m1.ea m1.el m1.ec, .slice m1.da m1.dl m1.dc, .slice m1.ma m1.ml m1.mc] 31)) := Cel.new v0 _ _
        generalize hv : v0.alloc (.cells #[.int .i64 m1.k, .int .i64 m1.fr, .int .i64 m1.tn, .int .i64 m1.op, .int .i64 m1.fo, .string m1.key, .int .i64 m1.bk, .slice m1.ea m1.el m1.ec, .slice m1.da m1.dl m1.dc, .slice m1.ma m1.ml m1.mc] 31) = v1 at OA CA ⊢
        have HG1 : Hid _ := HG0.out.free OA
        have HOA : Hid (Off (fun _ => False) v0 v1) := OA
        obtain ⟨qa, hqa⟩ : ∃ qa, qa = v0.heap.size := ⟨_, rfl⟩
        rw [← hqa] at CA ⊢
        have hqaq : ¬ qa = q := by omega
        have HQA : Hid (¬ qa = q) := hqaq
        have HCA : Hid (Cel qa 31 #[.int .i64 m1.k, .int .i64 m1.fr, .int .i64 m1.tn, .int .i64 m1.op, .int .i64 m1.fo, .string m1.key, .int .i64 m1.bk, .slice m1.ea m1.el m1.ec, .slice m1.da m1.dl m1.dc, .slice m1.ma m1.ml m1.mc] v1) := CA
        clear hv OA CA HG0 hqa hqaq hqb
        go_wp2_with fail
        refine (ttake_some HG1.out HB12.out.1 HB12.out.2).mono ?_
        rintro e v2 ⟨m2, rfl, hm2, g2, o2, -⟩
        have HM2 : Hid _ := hm2
        have HG2 : Hid _ := g2
        have HO2 : Hid (Off (fun c => c = q) v1 v2) := o2
        clear hm2 g2 o2 HG1
        go_upto_region 16 with fail
        have OB : Off (fun _ => False) v2 (v2.alloc (.cells #[.int .i64 m2.k, .int .i64 m2.fr, .int .i64 m2.tn, .int .i64 m2.op, .int .i64 m2.fo, .string m2.key, .int .i64 m2.bk, .slice m2.ea m2.el m2.ec, .slice m2.da m2.dl m2.dc, .slice m2.ma m2.ml m2.mc] 31)) := (Off.refl _ v2).alloc _
        have CB : Cel v2.heap.size 31 #[.int .i64 m2.k, .int .i64 m2.fr, .int .i64 m2.tn, .int .i64 m2.op, .int .i64 m2.fo, .string m2.key, .int .i64 m2.bk, .slice m2.ea m2.el m2.ec, .slice m2.da m2.dl m2.dc, .slice m2.ma m2.ml m2.mc] (v2.alloc (.cells #[.int .i64 m2.k, .int .i64 m2.fr, .int .i64 m2.tn, .int .i64 m2.op, .int .i64 m2.fo, .string m2.key, .int .i64 m2.bk, .slice m2.ea m2.el m2.ec, .slice m2.da m2.dl m2.dc, .slice m2.ma m2.ml m2.mc] 31)) := Cel.new v2 _ _
        generalize hv : v2.alloc (.cells #[.int .i64 m2.k, .int .i64 m2.fr, .int .i64 m2.tn, .int .i64 m2.op, .int .i64 m2.fo, .string m2.key, .int .i64 m2.bk, .slice m2.ea m2.el m2.ec, .slice m2.da m2.dl m2.dc, .slice m2.ma m2.ml m2.mc] 31) = v3 at OB CB ⊢
        have HG3 : Hid _ := HG2.out.free OB
        have CA3 := (HCA.out.off HO2.out HQA.out).off OB (fun h => h)
        generalize v2.heap.size = qb at CB ⊢
        have hr1 : Rd N k m1 v3 := HM1.out v3 (((HOA.out.mono (fun _ _ h => h.elim)).trans HO2.out (fun _ _ h => h)).trans (OB.mono (fun _ _ h => h.elim)) (fun _ _ h => h))
        obtain ⟨es1, gs1, ms1, hma1, hmf1⟩ := hr1
        obtain ⟨es2, gs2, ms2, hma2, hmf2⟩ := HM2.out
        have HS : Hid _ := same_any m1 m2 es1 es2 gs1 gs2 ms1 ms2 v3 hma1 (hma2.off HG3.out.off)
        have HN12 : Hid (nfM m1 es1 gs1 ms1 = nfM m2 es2 gs2 ms2) := hmf1.trans hmf2.symm
        obtain ⟨x0, x1, x2, x3, x4, x5, x6, x7, x8, x9⟩ := celw10 CA3
        obtain ⟨y0, y1, y2, y3, y4, y5, y6, y7, y8, y9⟩ := celw10 CB
        clear CA3 CB hma1 hmf1 hma2 hmf2 OB hv HO2 HOA HCA HG2 HM1 HM2
        go_wp2_with fail
        refine Calls.mono HS.out ?_
        rintro e v9 ⟨bb, rfl, hbb, o9⟩
        have hbt : bb = true := hbb.2 HN12.out
        rw [hbt]
        have HG9 : Hid _ := HG3.out.free o9
        clear hbb hbt o9 HG3 x0 x1 x2 x3 x4 x5 x6 x7 x8 x9 y0 y1 y2 y3 y4 y5 y6 y7 y8 y9 HS HN12 HQA
        go_wp2_with fail
        go_meet
        case rel => exact ⟨l1 ++ l2, r, t, HG9.out.two.less (fun _ h => h.elim), (by have := HRT.out; show _ ∧ _ ∧ _ ∧ _; omega)⟩
      ·have dk1 : (c.k == (1 : Int)) = false := by rw [beq_eq_false_iff_ne]; exact hk1
       clear hk1 hk0
       go_wp2_with fail
       refine (mtick_any HT7.out.half (by have := HRT.out; omega)).mono ?_
       rintro e v0 ⟨rfl, g0, -⟩
       have HG0 : Hid _ := g0
       clear g0 x0 x1 x2 x3 x4 x5 x6 x7 x8 x9 x10 x11
       go_wp2_with fail
       refine (ttick_any HG0.out (by have := HRT.out; omega)).mono ?_
       rintro e v1 ⟨rfl, g1, -⟩
       have HG1 : Hid _ := g1
       clear g1 HG0
       go_wp2_with fail
       go_meet
       case rel => exact ⟨l, r, t + 1, HG1.out.two.less (fun _ h => h.elim), (by have := HRT.out; show _ ∧ _ ∧ _ ∧ _; omega)⟩
    case rest =>
     obtain ⟨l2, r2, t2, HT2, HRT2⟩ := hcut
     clear HT6 HC6 HRT HMA HMR HNI HB HM
     obtain ⟨R0, g1, g2, g3⟩ := HT2.out.is
     obtain ⟨ia, ic, xs, g4, g5, g6, g7, g8⟩ := g2.is
     obtain ⟨n, hn⟩ : ∃ n, n = xs.length := ⟨_, rfl⟩
     have HL : Hid (∀ m, Calls Try.prog 19 #[.pointer (some ⟨p, 0, none⟩)] (wc.drewN m) fun e w' => e = .returned (.int .i64 (n : Int)) ∧ w' = wc.drewN m) := fun m => by
      have h := rlen_any (g1.free (dN wc m))
      rw [prg_len, ← g7, ← hn] at h
      exact h
     have HF : Hid (∀ m, Calls Try.prog 20 #[.pointer (some ⟨p, 0, none⟩)] (wc.drewN m) fun e w' => e = .returned (.int .i64 r2) ∧ w' = wc.drewN m) := fun m => rrefused_any (g1.free (dN wc m))
     rw [← hn] at g4
     obtain ⟨c0, c1, c2⟩ := celw3 g4
     have HI : Hid (i < len ∧ i < 120) := ⟨hlt, h120⟩
     clear g1 g2 g3 g4 g5 g6 g7 g8 hn hlt h120
     go_upto_region 18 with fail
     go_quiet (first | (go_at_call 19; refine Calls.quiet_of_same (HL.out _)) | (go_at_call 20; refine Calls.quiet_of_same (HF.out _)))
     have HT3 : Hid _ := HT2.out.free (dN wc nq)
     generalize wc.drewN nq = V at HT3 ⊢
     clear c0 c1 c2 HL HF HT2
     go_wp2_with fail
     go_roundw
     case rel => exact ⟨i + 1, l2, r2, t2, by go_num, (by have := HI.out; omega), (by have := HI.out; omega), (by have := HRT2.out; show _ ∧ _ ∧ _ ∧ _; omega), HT3.out⟩
     case measure => have := HI.out; simp [intOf]; omega
   ·have d120 : decide ((i : Int) < 120) = false := decide_eq_false (by omega)
    have HT2b : Hid _ := HT
    clear HT
    go_wp2_with fail
    refine (awake_any _).mono ?_
    rintro e w9 ⟨rfl, o9⟩
    have O9 : Hid _ := HT2b.out.off.trans o9 (fun _ _ h => h)
    clear o9
    go_wp2_with fail
    go_ret
    exact ⟨rfl, O9.out⟩
  ·have dlt : decide ((i : Int) < (len : Int)) = false := decide_eq_false (by omega)
   have dlt2 : decide (i < len) = false := decide_eq_false (by omega)
   have HT2b : Hid _ := HT
   clear HT
   go_wp2_with fail
   refine (awake_any _).mono ?_
   rintro e w9 ⟨rfl, o9⟩
   have O9 : Hid _ := HT2b.out.off.trans o9 (fun _ _ h => h)
   clear o9
   go_wp2_with fail
   go_ret
   exact ⟨rfl, O9.out⟩
end Go.Proofs.Ytmeclfgehpbjlaa
