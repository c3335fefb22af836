/- The walk of WalPlays. -/
import Derived.Test.YtmdhcoplhibbeaaCal8
import Derived.Deep.CutBlock
import Derived.BigQuiet
namespace Go.Proofs.Ytmdhcoplhibbeaa
open Go.RowKit

theorem cel3 {b : Nat} {t : TypeId} {x y z : Value} {w : World} (h : Cel b t #[x, y, z] w) : w.cell? ⟨b, 0, none⟩ = some x ∧ w.cell? ⟨b, 1, none⟩ = some y ∧ w.cell? ⟨b, 2, none⟩ = some z := ⟨h.cell 0, h.cell 1, h.cell 2⟩

set_option maxRecDepth 100000 in
set_option maxHeartbeats 8000000 in
theorem plays_walk (p : Int) (a : Option Addr) (len cap : Nat) (cs : Nat → CallD) (w : World) (_ : -9223372036854775808 ≤ p ∧ p ≤ 9223372036854775807) (hA : ArgC w a len cs) :
    Calls Try.prog 4 #[.int .i64 p, .slice a len cap] w fun e w' => e = .returned (.bool true) ∧ Off (fun _ => False) w w' := by
  have hnot : ∀ (x : Bool) (w : World), (Op.unary .not (.bool x)).run Try.prog w = .ok (.bool (!x)) w := fun _ _ => rfl
  have HA : Hid _ := hA
  have lnb := hA.bound
  obtain ⟨m, hm, em⟩ := u64_mod p 3000 (by omega)
  replace em : (IntKind.u64.wrap p).tmod 3000 = (m : Int) := em
  have ew : wrap64 (m : Int) = (m : Int) := by simp only [wrap64]; omega
  clear hA
  go_enter Try.func4, Try.ntmps4
  go_wp2_with fail
  clear em
  refine (dnew_any (m : Int) w).mono ?_
  rintro e w1 ⟨b, rfl, hb, K, o1⟩
  rw [roomOf_small (by omega)] at K
  have C1 : Hid _ := wopen_new K
  have N1 : Hid (∀ c, (fun c => c = b) c → w.heap.size ≤ c) := fun c hc => by rw [show c = b from hc]; exact hb
  have O1 : Hid _ := o1
  clear K hb o1 ew
  go_wp2_with fail
  refine Calls.mono C1.out ?_
  rintro e w2 ⟨lb, t2, c2, rfl, D2, lg, ch⟩
  obtain ⟨o2, n2⟩ := ch.new O1.out N1.out
  have P2 : Hid (Pla w lb b m none 0 [] D2 w2) := ⟨o2, Std.new lg, OwnG.nil _ _ _ _, fun k hk => by simp [blk] at hk, by simp, n2⟩
  clear C1 lg ch o2 n2 O1 N1
  go_wp2_with fail
  go_loopw [6, 9, 10] (fun g x y wr => ∃ (i lb : Nat) (tr : Option Addr) (cr : Nat) (ql : List B), y = .int .i64 (i : Int) ∧ g = .pointer (some ⟨lb, 0, none⟩) ∧ x = .slice tr ql.length cr ∧ i ≤ len ∧ i ≤ 50 ∧ ∃ D, Pla w lb b m tr cr ql D wr) (fun _ _ y _ => (len - intOf y).toNat)
  case atStart => exact ⟨0, lb, none, 0, [], rfl, rfl, rfl, by omega, by omega, D2, P2.out⟩
  case round =>
    clear P2
    obtain ⟨i, lb, tr, cr, ql, rfl, rfl, rfl, hi, hi5, D, pla⟩ := hrel
    have HP : Hid _ := pla
    clear pla
    by_cases hin : i < len
    · have t1 : decide ((i : Int) < (len : Int)) = true := decide_eq_true (by omega)
      have t1' : decide (i < len) = true := decide_eq_true (by omega)
      by_cases h5 : i < 50
      · have t2 : decide ((i : Int) < 50) = true := decide_eq_true (by omega)
        obtain ⟨pb, poff, rfl, hpb, hc⟩ := HA.out.at_ i hin
        obtain ⟨⟨act, tt, tc, text, ra, rc, rws⟩, ec⟩ : ∃ c, c = cs i := ⟨_, rfl⟩
        rw [← ec] at hc
        obtain ⟨k0, k1, k2, inp, tl, arw⟩ := hc
        simp only at k0 k1 k2 inp tl arw
        have HX : Hid (Inp w tt tc text) := inp
        have HRW : Hid (ArgL w ra rws) := arw
        replace k0 := keep_cell HP.out.off k0
        replace k1 := keep_cell HP.out.off k1
        replace k2 := keep_cell HP.out.off k2
        have rwb := arw.bound
        clear ec inp arw
        go_upto_region 11 with fail
        clear k0 k1 k2
        have CQ := Cel.new wr 45 #[.int .i64 act, .slice tt text.length tc, .slice ra rws.length rc]
        have OA : Off (fun _ => False) wr (wr.alloc (.cells #[.int .i64 act, .slice tt text.length tc, .slice ra rws.length rc] 45)) := (Off.refl _ wr).alloc _
        generalize hq : wr.heap.size = q at CQ ⊢
        generalize hv : wr.alloc (.cells #[.int .i64 act, .slice tt text.length tc, .slice ra rws.length rc] 45) = v1 at CQ OA ⊢
        clear hq hv
        have HP1 : Hid _ := HP.out.free OA
        have HQ1 : Hid _ := CQ
        clear CQ OA HP
        have few := HP1.out.few
        obtain ⟨S, hS⟩ : ∃ S, (frs (ql.map B.data)).length = S := ⟨_, rfl⟩
        have HSZ : Hid _ := hS
        rw [hS] at few
        obtain ⟨hSm, hqm⟩ := few
        clear hS
        obtain ⟨y0, y1, y2⟩ := cel3 HQ1.out
        go_upto_block 2 with fail
        clear y0 y1 y2
        go_cut [6, 9] from 40 to 170 (fun g x wx => ∃ (lb : Nat) (tr : Option Addr) (cr : Nat) (ql : List B), g = .pointer (some ⟨lb, 0, none⟩) ∧ x = .slice tr ql.length cr ∧ ∃ D, Pla w lb b m tr cr ql D wx)
        case first =>
          by_cases a0 : act = 0
          · subst a0
            have HZ : Hid (∀ n, Calls Try.prog 22 #[.slice tr ql.length cr] (v1.drewN n) fun e w' => e = .returned (.int .i64 (S : Int)) ∧ ∃ j, w' = (v1.drewN n).drewN j) := fun n => by
              refine (size_any ((HP1.out.free ((Off.refl _ v1).drewN n)).rg (by omega))).mono ?_
              rintro e w' ⟨rfl, rfl⟩
              exact ⟨by rw [HSZ.out], 0, rfl⟩
            by_cases hlong : 60000 < text.length
            · have d1 : decide ((60000 : Int) < (text.length : Int)) = true := decide_eq_true (by omega)
              have d2 : decide (60000 < text.length) = true := decide_eq_true hlong
              obtain ⟨y0, y1, y2⟩ := cel3 HQ1.out
              go_wp2_with fail
              refine (wappend_long lb tt tc v1 hlong).mono ?_
              rintro e W4 ⟨rfl, hw⟩
              rw [hw]
              clear hw W4
              go_wp2_with fail
              go_meet
              exact ⟨lb, tr, cr, ql, rfl, rfl, D, HP1.out⟩
            have d1 : decide ((60000 : Int) < (text.length : Int)) = false := decide_eq_false (by omega)
            have d2 : decide (60000 < text.length) = false := decide_eq_false hlong
            by_cases hfit : S + text.length + 8 ≤ m
            · have d3 : decide ((m : Int) < (S : Int) + (text.length : Int) + 8) = false := decide_eq_false (by omega)
              obtain ⟨y0, y1, y2⟩ := cel3 HQ1.out
              go_upto_region 21 with fail
              go_quiet (first | (go_at_call 22; refine Calls.quiet_of (HZ.out _)))
              have OQ : Off (fun _ => False) v1 (v1.drewN nq) := (Off.refl _ v1).drewN nq
              generalize v1.drewN nq = V at OQ ⊢
              have HP : Hid _ := HP1.out.free OQ
              have HQ : Hid _ := HQ1.out.off OQ (fun h => h)
              clear OQ
              clear y0 y1 y2
              go_upto_region 18 with fail
              refine wp_region_held_drew (S := fun w' => Off (fun _ => False) V w') (by kernel_rfl) ((Off.refl _ V).drew) (fun hS => ?_)
              generalize hdr : V.drew = W0 at hS ⊢
              clear hdr
              refine take_at (i := 0) 77 (v := .slice tr ql.length cr) rfl rfl (by kernel_rfl) (by kernel_rfl) (by kernel_rfl) (fun _ _ _ h => h) (Or.inl ⟨by rfl, fun w' hw' => by go_simp⟩) hS ?_
              simp only [Act.put, List.setIfInBounds_toArray, List.set_cons_zero, List.set_cons_succ]
              refine take_at (i := 2) 79 (v := .pointer (some ⟨q, 1, none⟩)) rfl rfl (by kernel_rfl) (by kernel_rfl) (by kernel_rfl) (fun _ _ _ h => h) (Or.inl ⟨by rfl, fun w' hw' => by go_simp⟩) hS ?_
              simp only [Act.put, List.setIfInBounds_toArray, List.set_cons_zero, List.set_cons_succ]
              refine take_at (i := 3) 80 (v := .slice tt text.length tc) rfl rfl (by kernel_rfl) (by kernel_rfl) (by kernel_rfl) (fun _ _ _ h => h) (Or.inl ⟨by rfl, fun w' hw' => by have y1 := (HQ.out.off hw' (fun h => h)).cell 1; simp at y1; go_simp⟩) hS ?_
              simp only [Act.put, List.setIfInBounds_toArray, List.set_cons_zero, List.set_cons_succ]
              refine wpAnyH_ready (rs := [1, 4]) (by kernel_rfl) (by simp) ?_
              refine AllReadyH.cons rfl (fun K' hK' => ?_) (AllReadyH.cons rfl (fun K' hK' => ?_) AllReadyH.nil)
              · obtain ⟨t1, c1, W1, hr, own1, o1, at1⟩ := appG_run (t := 22) Try.underlying22 Try.infoBs rfl (by decide) bcs_len bcs_one (OwnG.nil 23 1 bcs W0) (HP.out.own.off hS (fun _ _ _ h => h)).srcG (by simp; omega) 22
                rw [List.nil_append] at hr own1
                replace o1 : Off (fun _ => False) W0 W1 := o1.mono (fun _ _ h => by simp [blk] at h)
                have fr1 : ∀ k, blk t1 = some k → V.heap.size ≤ k := fun k hk => by
                  have := hS.size
                  rcases at1 with e | e <;> (rw [e] at hk; simp [blk] at hk; try omega)
                clear at1
                refine wp_append_if rfl (.const (.slice none 0 0)) (.tmp 77) rfl rfl rfl hr 78 rfl ?_
                simp only [Act.put, List.setIfInBounds_toArray, List.set_cons_zero, List.set_cons_succ]
                refine hK'.out _ _ (hS.trans o1 (fun _ _ h => h)) (fun hS => ?_)
                clear hK' K' hr
                refine wpAnyH_ready (rs := [4]) (by kernel_rfl) (by simp) ?_
                refine AllReadyH.cons rfl (fun K' hK' => ?_) AllReadyH.nil
                go_simp
                refine hK'.out _ _ (hS.alloc _) (fun hS => ?_)
                clear hK' K' o1
                have cn := Cel.new W1 23 #[.slice tt text.length tc]
                have OC : Off (fun _ => False) W1 (W1.alloc (.cells #[.slice tt text.length tc] 23)) := (Off.refl _ W1).alloc _
                replace own1 := own1.off OC (fun _ _ _ h => h)
                generalize hV0 : W1.alloc (.cells #[.slice tt text.length tc] 23) = W2 at cn OC own1 hS ⊢
                generalize hQ : W1.heap.size = g at cn ⊢
                clear hV0 hQ OC
                have hcn : ∀ j u, (bcs ⟨tt, tc, text⟩)[j]? = some u → W2.cell? ⟨g, j, none⟩ = some u := fun j u hj => by
                  rw [cn.cell j]
                  simpa [bcs] using hj
                clear cn
                obtain ⟨t3, c3, W3, hr, own3, o3, at3⟩ := appG_run (t := 22) (xs := [⟨tt, tc, text⟩]) (xc := 1) Try.underlying22 Try.infoBs rfl (by decide) bcs_len bcs_one own1 (.inr ⟨g, rfl, fun j u hj => hcn j u (by simpa using hj)⟩) (by simp; omega) 22
                have O3 : Off (fun _ => False) V W3 := ((hS.mono (fun _ _ h => h.elim)).trans o3 (fun _ _ h => h)).mono (fun j hj e => by have := fr1 j e; omega)
                have FR3 : Hid (∀ k, blk t3 = some k → V.heap.size ≤ k) := fun k hk => by
                  rcases at3 with e | e
                  · exact fr1 k (e ▸ hk)
                  · rw [e] at hk
                    simp at hk
                    have := hS.size
                    omega
                refine wpAnyH_ready (rs := [5]) (by kernel_rfl) (by simp) ?_
                refine AllReadyH.cons rfl (fun K' hK' => ?_) AllReadyH.nil
                refine wp_append_if rfl (.tmp 78) (.tmp 81) rfl rfl rfl hr 82 rfl ?_
                simp only [Act.put, List.setIfInBounds_toArray, List.set_cons_zero, List.set_cons_succ]
                refine hK'.out _ _ O3 (fun hS => ?_)
                clear hK' K' hr O3 o3 at3
                have OW3 : Hid _ := own3
                have HNL : Hid _ := (rfl : ql ++ [(⟨tt, tc, text⟩ : B)] = ql ++ [(⟨tt, tc, text⟩ : B)])
                obtain ⟨nl, hnl⟩ : ∃ nl, nl = ql ++ [(⟨tt, tc, text⟩ : B)] := ⟨_, rfl⟩
                rw [← hnl] at OW3
                rw [← hnl]
                clear HNL
                have HNL : Hid _ := hnl
                have nlb : nl.length ≤ 1000 := by rw [hnl, List.length_append]; simp; omega
                clear hnl own3
                refine take_at (i := 6) 9 (v := .slice t3 nl.length c3) rfl rfl (by kernel_rfl) (by kernel_rfl) (by kernel_rfl) (fun _ _ _ h => h) (Or.inl ⟨by rfl, fun w' hw' => by go_simp⟩) hS ?_
                simp only [Act.put, List.setIfInBounds_toArray, List.set_cons_zero, List.set_cons_succ]
                refine wpAnyH_done (by kernel_rfl) ?_ _
                obtain ⟨y0, y1, y2⟩ := cel3 (HQ.out.off hS (fun h => h))
                have OV3 : Hid _ := hS
                have A4 : Hid _ := append_ok (HP.out.std.free hS) (HX.out.free (HP.out.off.trans hS (fun _ _ h => h))) (by omega) (by rw [HSZ.out]; exact hfit)
                go_wp2_with fail
                refine Calls.mono A4.out ?_
                rintro e W4 ⟨rfl, D4, sd4, ch4⟩
                clear y0 y1 y2 A4
                go_wp2_with fail
                go_meet
                have P3 := HP.out.free OV3.out
                obtain ⟨o4, n4⟩ := ch4.new P3.off P3.new
                have no3 : ∀ k, blk t3 = some k → ¬ D k := fun k hk hD => by
                  have := FR3.out k hk
                  have := HP.out.std.lg.lt k hD
                  omega
                refine ⟨lb, t3, c3, nl, rfl, rfl, D4, o4, ?_, OW3.out.off ch4.off (fun c _ e => no3 c e), fun k hk => ch4.not (OW3.out.lt k hk) (no3 k hk), fun x hx => ?_, n4⟩
                · rw [HNL.out, List.map_append]
                  exact sd4
                · rw [HNL.out] at hx
                  rcases List.mem_append.1 hx with hx | hx
                  · exact HP.out.inp x hx
                  · rw [List.mem_singleton.1 hx]
                    exact HX.out
              · go_simp
                refine hK'.out _ _ (hS.alloc _) (fun hS => ?_)
                clear hK' K'
                have cn := Cel.new W0 23 #[.slice tt text.length tc]
                generalize hV0 : W0.alloc (.cells #[.slice tt text.length tc] 23) = W1 at cn hS ⊢
                generalize hQ : W0.heap.size = g at cn ⊢
                clear hV0 hQ
                obtain ⟨t1, c1, W2, hr, own1, o1, at1⟩ := appG_run (t := 22) Try.underlying22 Try.infoBs rfl (by decide) bcs_len bcs_one (OwnG.nil 23 1 bcs W1) (HP.out.own.off hS (fun _ _ _ h => h)).srcG (by simp; omega) 22
                rw [List.nil_append] at hr own1
                replace o1 : Off (fun _ => False) W1 W2 := o1.mono (fun _ _ h => by simp [blk] at h)
                have fr1 : ∀ k, blk t1 = some k → V.heap.size ≤ k := fun k hk => by
                  have := hS.size
                  rcases at1 with e | e <;> (rw [e] at hk; simp [blk] at hk; try omega)
                clear at1
                replace cn := cn.off o1 (fun h => h)
                refine wpAnyH_ready (rs := [1]) (by kernel_rfl) (by simp) ?_
                refine AllReadyH.cons rfl (fun K' hK' => ?_) AllReadyH.nil
                refine wp_append_if rfl (.const (.slice none 0 0)) (.tmp 77) rfl rfl rfl hr 78 rfl ?_
                simp only [Act.put, List.setIfInBounds_toArray, List.set_cons_zero, List.set_cons_succ]
                refine hK'.out _ _ (hS.trans o1 (fun _ _ h => h)) (fun hS => ?_)
                clear hK' K' hr o1
                have hcn : ∀ j u, (bcs ⟨tt, tc, text⟩)[j]? = some u → W2.cell? ⟨g, j, none⟩ = some u := fun j u hj => by
                  rw [cn.cell j]
                  simpa [bcs] using hj
                clear cn
                obtain ⟨t3, c3, W3, hr, own3, o3, at3⟩ := appG_run (t := 22) (xs := [⟨tt, tc, text⟩]) (xc := 1) Try.underlying22 Try.infoBs rfl (by decide) bcs_len bcs_one own1 (.inr ⟨g, rfl, fun j u hj => hcn j u (by simpa using hj)⟩) (by simp; omega) 22
                have O3 : Off (fun _ => False) V W3 := ((hS.mono (fun _ _ h => h.elim)).trans o3 (fun _ _ h => h)).mono (fun j hj e => by have := fr1 j e; omega)
                have FR3 : Hid (∀ k, blk t3 = some k → V.heap.size ≤ k) := fun k hk => by
                  rcases at3 with e | e
                  · exact fr1 k (e ▸ hk)
                  · rw [e] at hk
                    simp at hk
                    have := hS.size
                    omega
                refine wpAnyH_ready (rs := [5]) (by kernel_rfl) (by simp) ?_
                refine AllReadyH.cons rfl (fun K' hK' => ?_) AllReadyH.nil
                refine wp_append_if rfl (.tmp 78) (.tmp 81) rfl rfl rfl hr 82 rfl ?_
                simp only [Act.put, List.setIfInBounds_toArray, List.set_cons_zero, List.set_cons_succ]
                refine hK'.out _ _ O3 (fun hS => ?_)
                clear hK' K' hr O3 o3 at3
                have OW3 : Hid _ := own3
                have HNL : Hid _ := (rfl : ql ++ [(⟨tt, tc, text⟩ : B)] = ql ++ [(⟨tt, tc, text⟩ : B)])
                obtain ⟨nl, hnl⟩ : ∃ nl, nl = ql ++ [(⟨tt, tc, text⟩ : B)] := ⟨_, rfl⟩
                rw [← hnl] at OW3
                rw [← hnl]
                clear HNL
                have HNL : Hid _ := hnl
                have nlb : nl.length ≤ 1000 := by rw [hnl, List.length_append]; simp; omega
                clear hnl own3
                refine take_at (i := 6) 9 (v := .slice t3 nl.length c3) rfl rfl (by kernel_rfl) (by kernel_rfl) (by kernel_rfl) (fun _ _ _ h => h) (Or.inl ⟨by rfl, fun w' hw' => by go_simp⟩) hS ?_
                simp only [Act.put, List.setIfInBounds_toArray, List.set_cons_zero, List.set_cons_succ]
                refine wpAnyH_done (by kernel_rfl) ?_ _
                obtain ⟨y0, y1, y2⟩ := cel3 (HQ.out.off hS (fun h => h))
                have OV3 : Hid _ := hS
                have A4 : Hid _ := append_ok (HP.out.std.free hS) (HX.out.free (HP.out.off.trans hS (fun _ _ h => h))) (by omega) (by rw [HSZ.out]; exact hfit)
                go_wp2_with fail
                refine Calls.mono A4.out ?_
                rintro e W4 ⟨rfl, D4, sd4, ch4⟩
                clear y0 y1 y2 A4
                go_wp2_with fail
                go_meet
                have P3 := HP.out.free OV3.out
                obtain ⟨o4, n4⟩ := ch4.new P3.off P3.new
                have no3 : ∀ k, blk t3 = some k → ¬ D k := fun k hk hD => by
                  have := FR3.out k hk
                  have := HP.out.std.lg.lt k hD
                  omega
                refine ⟨lb, t3, c3, nl, rfl, rfl, D4, o4, ?_, OW3.out.off ch4.off (fun c _ e => no3 c e), fun k hk => ch4.not (OW3.out.lt k hk) (no3 k hk), fun x hx => ?_, n4⟩
                · rw [HNL.out, List.map_append]
                  exact sd4
                · rw [HNL.out] at hx
                  rcases List.mem_append.1 hx with hx | hx
                  · exact HP.out.inp x hx
                  · rw [List.mem_singleton.1 hx]
                    exact HX.out
            · have d3 : decide ((m : Int) < (S : Int) + (text.length : Int) + 8) = true := decide_eq_true (by omega)
              obtain ⟨y0, y1, y2⟩ := cel3 HQ1.out
              go_upto_region 21 with fail
              go_quiet (first | (go_at_call 22; refine Calls.quiet_of (HZ.out _)))
              have OQ : Off (fun _ => False) v1 (v1.drewN nq) := (Off.refl _ v1).drewN nq
              generalize v1.drewN nq = V at OQ ⊢
              have HP : Hid _ := HP1.out.free OQ
              have HQ : Hid _ := HQ1.out.off OQ (fun h => h)
              clear OQ
              clear y0 y1 y2
              obtain ⟨y0, y1, y2⟩ := cel3 HQ.out
              have A4 : Hid _ := append_no HP.out.std (HX.out.free HP.out.off) (by omega) (by rw [HSZ.out]; omega)
              go_wp2_with fail
              refine Calls.mono A4.out ?_
              rintro e W4 ⟨rfl, D4, sd4, ch4⟩
              clear y0 y1 y2 A4
              go_wp2_with fail
              go_meet
              obtain ⟨o4, n4⟩ := ch4.new HP.out.off HP.out.new
              exact ⟨lb, tr, cr, ql, rfl, rfl, D4, o4, sd4, HP.out.own.off ch4.off (fun c _ e => HP.out.no c e), fun k hk => ch4.not (HP.out.own.lt k hk) (HP.out.no k hk), HP.out.inp, n4⟩
          · have q0 : (act == 0) = false := by simpa using a0
            by_cases a1 : act = 1
            · subst a1
              obtain ⟨y0, y1, y2⟩ := cel3 HQ1.out
              have PS : Hid _ := small_kept (D := D) rc HRW.out HP1.out.off HP1.out.std.lg.lt
              go_wp2_with fail
              refine Calls.mono PS.out ?_
              rintro e v2 ⟨t6, c6, sl6, rfl, kp6, -, o6⟩
              have HP2 : Hid _ := HP1.out.free o6
              have KP : Hid _ := kp6
              have RW : Hid _ := kp6.rws HP2.out.off
              have s6 := kp6.len
              have Z2 : Hid _ := size_any RW.out.rg
              have RC : Hid _ := RW.out.rec_
              obtain ⟨L, hL⟩ : ∃ L, (frs (sl6.map B.data)).length = L := ⟨_, rfl⟩
              rw [hL] at Z2
              have HLL : Hid _ := hL
              have lb2 : L ≤ 12240 := by rw [← hL]; have := RW.out.fr_len sl6.length; rwa [fr_all] at this
              clear PS kp6 o6 hL y0 y1 y2
              go_wp2_with fail
              refine Calls.mono Z2.out ?_
              rintro e W4 ⟨rfl, hw⟩
              rw [hw]
              clear hw W4 Z2
              by_cases hfit : L ≤ m
              · have d3 : decide ((m : Int) < (L : Int)) = false := decide_eq_false (by omega)
                have d4 : decide (m < L) = false := decide_eq_false (by omega)
                have A4 : Hid _ := wcompact_ok HP2.out.std.lg RW.out (by rw [HLL.out]; exact hfit)
                go_wp2_with fail
                refine Calls.mono A4.out ?_
                rintro e W4 ⟨rfl, D4, lg4, ch4⟩
                go_wp2_with fail
                go_meet
                obtain ⟨o4, n4⟩ := ch4.new HP2.out.off HP2.out.new
                refine ⟨lb, t6, c6, sl6, rfl, rfl, D4, o4, ⟨?_, RC.out⟩, KP.out.own.off ch4.off (fun c _ e => KP.out.no c e), fun k hk => ch4.not (KP.out.own.lt k hk) (KP.out.no k hk), KP.out.inp, n4⟩
                rw [List.length_map]
                exact lg4
              · have d3 : decide ((m : Int) < (L : Int)) = true := decide_eq_true (by omega)
                have d4 : decide (m < L) = true := decide_eq_true (by omega)
                have A4 : Hid _ := wcompact_no HP2.out.std.lg RW.out (by rw [HLL.out]; omega)
                go_wp2_with fail
                refine Calls.mono A4.out ?_
                rintro e W4 ⟨rfl, D4, lg4, ch4⟩
                go_wp2_with fail
                go_meet
                obtain ⟨o4, n4⟩ := ch4.new HP2.out.off HP2.out.new
                exact ⟨lb, tr, cr, ql, rfl, rfl, D4, o4, ⟨lg4, HP2.out.std.rec_⟩, HP2.out.own.off ch4.off (fun c _ e => HP2.out.no c e), fun k hk => ch4.not (HP2.out.own.lt k hk) (HP2.out.no k hk), HP2.out.inp, n4⟩
            · have q1 : (act == 1) = false := by simpa using a1
              obtain ⟨D0, K0, ch0⟩ := HP1.out.std.lg.disk
              have P0 : Hid _ := wopen_ok K0 (frs_lt HP1.out.std.rec_) (al_frs HP1.out.std.rec_)
              have CH0 : Hid _ := ch0
              clear K0 ch0
              obtain ⟨y0, y1, y2⟩ := cel3 HQ1.out
              go_wp2_with fail
              refine Calls.mono P0.out ?_
              rintro e W4 ⟨lb4, t4, c4, rl, rfl, hd4, D4, tl4, lg4, ch4⟩
              have CH : Hid _ := CH0.out.trans ch4
              obtain ⟨o4, n4⟩ := CH.out.new HP1.out.off HP1.out.new
              have es : (if (frs (ql.map B.data)).length < (frs (ql.map B.data)).length then (frs (ql.map B.data)).length else (frs (ql.map B.data)).length) = (frs (ql.map B.data)).length := by split <;> rfl
              have el : rl.length = (ql.map B.data).length := by rw [← hd4, List.length_map]
              rw [es, el, List.take_length] at lg4
              have SB : Hid _ := samebytes_any t4 tr c4 cr rl ql W4 tl4.own (HP1.out.own.off CH.out.off (fun c _ e => HP1.out.no c e)) (fun x hx => (tl4.each x hx).1.src) (fun x hx => ((HP1.out.inp x hx).free o4).src) hd4 (by rw [el, List.length_map]; omega)
              have P4 : Hid (Pla w lb4 b m tr cr ql D4 W4) := ⟨o4, ⟨lg4, HP1.out.std.rec_⟩, HP1.out.own.off CH.out.off (fun c _ e => HP1.out.no c e), fun k hk => CH.out.not (HP1.out.own.lt k hk) (HP1.out.no k hk), HP1.out.inp, n4⟩
              have rlb : rl.length ≤ 1000 := by rw [el, List.length_map]; omega
              clear P0 CH0 CH hd4 tl4 lg4 ch4 o4 n4 es el y0 y1 y2
              go_wp2_with fail
              refine Calls.mono SB.out ?_
              rintro e W5 ⟨rfl, o5⟩
              have P5 : Hid _ := P4.out.free o5
              clear SB o5 P4
              go_wp2_with fail
              go_meet
              exact ⟨lb4, tr, cr, ql, rfl, rfl, D4, P5.out⟩
        case rest =>
          clear HP1 HQ1 HSZ hSm hqm S HX HRW
          obtain ⟨lb, tr, cr, ql, rfl, rfl, D, pla⟩ := hcut
          have HP : Hid _ := pla
          have few := pla.few
          have RG : Hid _ := pla.rg (by omega)
          obtain ⟨few1, few2⟩ := few
          have qlb : ql.length ≤ 375 := by omega
          clear pla
          go_wp2_with fail
          go_loopw [18, 121] (fun x y wr => ∃ (j : Nat) (t : Option Addr) (c : Nat), y = .int .i64 (j : Int) ∧ x = .slice t (fr ql j).length c ∧ j ≤ ql.length ∧ OwnR wr t c (fr ql j) ∧ (∀ k, blk t = some k → wc.heap.size ≤ k) ∧ Off (fun _ => False) wc wr) (fun _ y _ => (ql.length - intOf y).toNat)
          case atStart => exact ⟨0, none, 0, rfl, rfl, by omega, OwnR.nil _, fun k hk => by simp [blk] at hk, Off.refl _ _⟩
          case round =>
            obtain ⟨j, t2, c2, rfl, rfl, hj, own, hlo, O⟩ := hrel
            have HOWN : Hid _ := own
            have HLO : Hid _ := hlo
            have HO : Hid _ := O
            clear own hlo O
            by_cases hlt : j < ql.length
            · have e1 : decide ((j : Int) < (ql.length : Int)) = true := decide_eq_true (by omega)
              have e2 : decide (j < ql.length) = true := decide_eq_true hlt
              obtain ⟨x, g, hx, hmm, hts, kc⟩ := RG.out.at_ hlt
              subst hts
              replace kc := keep_cell HO.out kc
              have HST : Hid _ := fr_succ hx
              have l4 := RG.out.max x hmm
              have lf := RG.out.fr_len j
              have P1 : Hid _ := rframe_any ((RG.out.inp x hmm).free HO.out) (by omega)
              have hfb : (frm x.data).length ≤ 60008 := by rw [frm_len]; omega
              generalize frm x.data = fx at *
              generalize fr ql j = ys at *
              generalize hzz : fr ql (j + 1) = zs at *
              have HZZ : Hid _ := hzz
              clear hzz hx hmm
              go_wp2_with fail
              refine Calls.mono P1.out ?_
              rintro e w1 ⟨t1, c1, rfl, R1, fr1, O1⟩
              have HR1 : Hid _ := R1
              have HO1 : Hid _ := O1
              clear P1 R1 fr1 O1 kc
              go_wp2_with (at_builtin; refine wpList_app rfl (.tmp 125) (.tmp 127) rfl t2 c2 ys rfl (HOWN.out.off HO1.out (fun _ _ _ h => h)) t1 c1 fx rfl HR1.out.src (by omega) ?_; intro t' c' w' qs hqs own' off' at')
              have HQ : Hid (qs = zs) := hqs.out.trans HST.out.symm
              have HOW' : Hid _ := own'
              have HOF' : Hid _ := off'
              clear own' off' hqs
              go_wp2_with fail
              go_roundw
              case rel =>
                have s1 := HO.out.size
                have s2 := HO1.out.size
                refine ⟨j + 1, t', c', by go_num, by rw [HZZ.out, ← HQ.out], by omega, by rw [HZZ.out, ← HQ.out]; exact HOW'.out, fun k hk => ?_, (((HO.out.trans HO1.out (fun _ _ h => h)).mono (fun _ _ h => h.elim)).trans HOF'.out (fun _ _ h => h)).mono (fun n hn e => by have := HLO.out n e; omega)⟩
                rcases at' with h9 | h9
                · exact HLO.out k (h9 ▸ hk)
                · rw [h9] at hk
                  simp at hk
                  omega
              case measure => simp [intOf]; omega
            · have e1 : decide ((j : Int) < (ql.length : Int)) = false := decide_eq_false (by omega)
              have e2 : decide (j < ql.length) = false := decide_eq_false hlt
              have hil : fr ql j = frs (ql.map B.data) := by rw [show j = ql.length by omega, fr_all]
              have HWS : Hid _ := HOWN.out.src
              have HOV : Hid _ := HO.out
              obtain ⟨V, hV⟩ : ∃ x, x = wr := ⟨_, rfl⟩
              obtain ⟨tb, htb⟩ : ∃ x, x = t2 := ⟨_, rfl⟩
              obtain ⟨cb, hcb⟩ : ∃ x, x = c2 := ⟨_, rfl⟩
              rw [← hV, ← htb, ← hcb, hil] at HWS
              rw [← hV] at HOV
              rw [← hV, ← htb, ← hcb, hil]
              clear hV htb hcb hil HOWN HLO HO RG
              have LG : Hid _ := (HP.out.std.lg).free HOV.out
              have hrm := wroom_any LG.out (by omega)
              have HRM : Hid (∀ W, Off (fun _ => False) V W → Calls Try.prog 25 #[.pointer (some ⟨lb, 0, none⟩)] W fun e w' => e = .returned (.int .i64 (roomL m (frs (ql.map B.data)).length)) ∧ Off (fun _ => False) W w') := fun W o => wroom_any (LG.out.free o) (by omega)
              have HBY : Hid (∀ W, Off (fun _ => False) V W → Calls Try.prog 17 #[.pointer (some ⟨b, 0, none⟩)] W fun e w' => ∃ t c, e = .returned (.slice t (frs (ql.map B.data)).length c) ∧ OwnR w' t c (frs (ql.map B.data)) ∧ Off (fun _ => False) W w') := fun W o => by
                obtain ⟨D9, K9, -⟩ := LG.out.disk
                refine (dbytes_any (K9.free o)).mono ?_
                rintro e w' ⟨t, c, rfl, own, -, o'⟩
                exact ⟨t, c, rfl, own, o'⟩
              have HSU : Hid (∀ W, Off (fun _ => False) V W → Calls Try.prog 21 #[.pointer (some ⟨b, 0, none⟩)] W fun e w' => e = .returned (.int .i64 (((frs (ql.map B.data)).length : Nat) : Int)) ∧ w' = W) := fun W o => by
                obtain ⟨D9, K9, -⟩ := LG.out.disk
                exact dsure_any (K9.free o)
              rw [List.length_map] at LG
              clear hrm
              generalize frs (ql.map B.data) = ys at *
              have hmn : ∀ ts t W, (Builtin.min_ ts t #[.int .i64 ((m : Int) - (ys.length : Int) - 8), .int .i64 60000]).run Try.prog W = .ok (.int .i64 ((m : Int) - (ys.length : Int) - 8)) W := fun ts t W => by
                rw [min_int]
                congr 2
                omega
              by_cases hroom : m < ys.length + 8
              · have d9 : decide ((m : Int) - (ys.length : Int) - 8 < 0) = true := decide_eq_true (by omega)
                rw [roomL_no hroom] at HRM
                go_upto_region 42 with fail
                refine wp_region_held_drew (S := fun w' => Off (fun _ => False) V w') (by kernel_rfl) ((Off.refl _ V).drew) (fun hS => ?_)
                generalize hdr : V.drew = W0 at hS ⊢
                clear hdr
                refine take_at (i := 0) 138 (v := .pointer (some ⟨b, 0, none⟩)) rfl rfl (by kernel_rfl) (by kernel_rfl) (by kernel_rfl) (fun _ _ _ h => h) (Or.inl ⟨by rfl, fun w' hw' => by go_simp⟩) hS ?_
                simp only [Act.put, List.setIfInBounds_toArray, List.set_cons_zero, List.set_cons_succ]
                refine take_at (i := 3) 141 (v := .slice tb ys.length cb) rfl rfl (by kernel_rfl) (by kernel_rfl) (by kernel_rfl) (fun _ _ _ h => h) (Or.inl ⟨by rfl, fun w' hw' => by go_simp⟩) hS ?_
                simp only [Act.put, List.setIfInBounds_toArray, List.set_cons_zero, List.set_cons_succ]
                refine take_at (i := 4) 142 (v := .string (strOf ys)) rfl rfl (by kernel_rfl) (by kernel_rfl) (by kernel_rfl) (fun _ _ _ h => h) (Or.inl ⟨by rfl, fun w' hw' => by have hcs := conv_src (HWS.out.off hw' (fun _ _ _ h => h)); go_simp⟩) hS ?_
                simp only [Act.put, List.setIfInBounds_toArray, List.set_cons_zero, List.set_cons_succ]
                refine wpAnyH_ready (rs := [1]) (by kernel_rfl) (by simp) ?_
                refine AllReadyH.cons rfl (fun K' hK' => ?_) AllReadyH.nil
                go_simp
                refine Calls.mono (HBY.out _ hS) ?_
                rintro e W1 ⟨t6, c6, rfl, own6, o6⟩
                refine hK'.out _ _ (hS.trans o6 (fun _ _ h => h)) (fun hS => ?_)
                clear hK' K'
                have HS3 : Hid _ := own6.src
                clear own6 o6
                refine wpAnyH_ready (rs := [2]) (by kernel_rfl) (by simp) ?_
                refine AllReadyH.cons rfl (fun K' hK' => ?_) AllReadyH.nil
                have hcs := conv_src HS3.out
                go_simp
                refine hK'.out _ _ hS (fun hS => ?_)
                clear hK' K'
                refine take_at (i := 5) 143 (v := .bool false) rfl rfl (by kernel_rfl) (by kernel_rfl) (by kernel_rfl) (fun _ _ _ h => h) (Or.inl ⟨by rfl, fun w' hw' => by go_simp⟩) hS ?_
                simp only [Act.put, List.setIfInBounds_toArray, List.set_cons_zero, List.set_cons_succ]
                refine take_at (i := 6) 144 (v := .bool false) rfl rfl (by kernel_rfl) (by kernel_rfl) (by kernel_rfl) (fun _ _ _ h => h) (Or.inl ⟨by rfl, fun w' hw' => by go_simp⟩) hS ?_
                simp only [Act.put, List.setIfInBounds_toArray, List.set_cons_zero, List.set_cons_succ]
                refine take_at (i := 7) 145 (v := .pointer (some ⟨b, 0, none⟩)) rfl rfl (by kernel_rfl) (by kernel_rfl) (by kernel_rfl) (fun _ _ _ h => h) (Or.inl ⟨by rfl, fun w' hw' => by go_simp⟩) hS ?_
                simp only [Act.put, List.setIfInBounds_toArray, List.set_cons_zero, List.set_cons_succ]
                refine take_at (i := 9) 147 (v := .slice tb ys.length cb) rfl rfl (by kernel_rfl) (by kernel_rfl) (by kernel_rfl) (fun _ _ _ h => h) (Or.inl ⟨by rfl, fun w' hw' => by go_simp⟩) hS ?_
                simp only [Act.put, List.setIfInBounds_toArray, List.set_cons_zero, List.set_cons_succ]
                refine take_at (i := 10) 148 (v := .int .i64 (ys.length : Int)) rfl rfl (by kernel_rfl) (by kernel_rfl) (by kernel_rfl) (fun _ _ _ h => h) (Or.inl ⟨by rfl, fun w' hw' => by go_simp⟩) hS ?_
                simp only [Act.put, List.setIfInBounds_toArray, List.set_cons_zero, List.set_cons_succ]
                refine wpAnyH_ready (rs := [8]) (by kernel_rfl) (by simp) ?_
                refine AllReadyH.cons rfl (fun K' hK' => ?_) AllReadyH.nil
                go_simp
                refine Calls.mono (HSU.out _ hS) ?_
                rintro e W2 ⟨rfl, hw⟩
                refine hK'.out _ _ (by rw [hw]; exact hS) (fun hS => ?_)
                clear hK' K'
                clear hw
                refine take_at (i := 11) 149 (v := .bool false) rfl rfl (by kernel_rfl) (by kernel_rfl) (by kernel_rfl) (fun _ _ _ h => h) (Or.inl ⟨by rfl, fun w' hw' => by go_simp⟩) hS ?_
                simp only [Act.put, List.setIfInBounds_toArray, List.set_cons_zero, List.set_cons_succ]
                refine take_at (i := 12) 150 (v := .bool false) rfl rfl (by kernel_rfl) (by kernel_rfl) (by kernel_rfl) (fun _ _ _ h => h) (Or.inl ⟨by rfl, fun w' hw' => by go_simp⟩) hS ?_
                simp only [Act.put, List.setIfInBounds_toArray, List.set_cons_zero, List.set_cons_succ]
                refine take_at (i := 13) 151 (v := .bool false) rfl rfl (by kernel_rfl) (by kernel_rfl) (by kernel_rfl) (fun _ _ _ h => h) (Or.inl ⟨by rfl, fun w' hw' => by go_simp⟩) hS ?_
                simp only [Act.put, List.setIfInBounds_toArray, List.set_cons_zero, List.set_cons_succ]
                refine take_at (i := 14) 152 (v := .pointer (some ⟨lb, 0, none⟩)) rfl rfl (by kernel_rfl) (by kernel_rfl) (by kernel_rfl) (fun _ _ _ h => h) (Or.inl ⟨by rfl, fun w' hw' => by go_simp⟩) hS ?_
                simp only [Act.put, List.setIfInBounds_toArray, List.set_cons_zero, List.set_cons_succ]
                refine take_at (i := 16) 154 (v := .slice tr ql.length cr) rfl rfl (by kernel_rfl) (by kernel_rfl) (by kernel_rfl) (fun _ _ _ h => h) (Or.inl ⟨by rfl, fun w' hw' => by go_simp⟩) hS ?_
                simp only [Act.put, List.setIfInBounds_toArray, List.set_cons_zero, List.set_cons_succ]
                refine take_at (i := 17) 155 (v := .int .i64 (ql.length : Int)) rfl rfl (by kernel_rfl) (by kernel_rfl) (by kernel_rfl) (fun _ _ _ h => h) (Or.inl ⟨by rfl, fun w' hw' => by go_simp⟩) hS ?_
                simp only [Act.put, List.setIfInBounds_toArray, List.set_cons_zero, List.set_cons_succ]
                refine wpAnyH_ready (rs := [15]) (by kernel_rfl) (by simp) ?_
                refine AllReadyH.cons rfl (fun K' hK' => ?_) AllReadyH.nil
                go_simp
                refine Calls.mono (wlen_any (LG.out.free hS)) ?_
                rintro e W3 ⟨rfl, hw⟩
                refine hK'.out _ _ (by rw [hw]; exact hS) (fun hS => ?_)
                clear hK' K'
                clear hw
                refine take_at (i := 18) 156 (v := .bool false) rfl rfl (by kernel_rfl) (by kernel_rfl) (by kernel_rfl) (fun _ _ _ h => h) (Or.inl ⟨by rfl, fun w' hw' => by go_simp⟩) hS ?_
                simp only [Act.put, List.setIfInBounds_toArray, List.set_cons_zero, List.set_cons_succ]
                refine take_at (i := 19) 157 (v := .bool false) rfl rfl (by kernel_rfl) (by kernel_rfl) (by kernel_rfl) (fun _ _ _ h => h) (Or.inl ⟨by rfl, fun w' hw' => by go_simp⟩) hS ?_
                simp only [Act.put, List.setIfInBounds_toArray, List.set_cons_zero, List.set_cons_succ]
                refine take_at (i := 20) 158 (v := .bool false) rfl rfl (by kernel_rfl) (by kernel_rfl) (by kernel_rfl) (fun _ _ _ h => h) (Or.inl ⟨by rfl, fun w' hw' => by go_simp⟩) hS ?_
                simp only [Act.put, List.setIfInBounds_toArray, List.set_cons_zero, List.set_cons_succ]
                refine take_at (i := 21) 159 (v := .pointer (some ⟨lb, 0, none⟩)) rfl rfl (by kernel_rfl) (by kernel_rfl) (by kernel_rfl) (fun _ _ _ h => h) (Or.inl ⟨by rfl, fun w' hw' => by go_simp⟩) hS ?_
                simp only [Act.put, List.setIfInBounds_toArray, List.set_cons_zero, List.set_cons_succ]
                refine take_at (i := 23) 161 (v := .slice tb ys.length cb) rfl rfl (by kernel_rfl) (by kernel_rfl) (by kernel_rfl) (fun _ _ _ h => h) (Or.inl ⟨by rfl, fun w' hw' => by go_simp⟩) hS ?_
                simp only [Act.put, List.setIfInBounds_toArray, List.set_cons_zero, List.set_cons_succ]
                refine take_at (i := 24) 162 (v := .int .i64 (ys.length : Int)) rfl rfl (by kernel_rfl) (by kernel_rfl) (by kernel_rfl) (fun _ _ _ h => h) (Or.inl ⟨by rfl, fun w' hw' => by go_simp⟩) hS ?_
                simp only [Act.put, List.setIfInBounds_toArray, List.set_cons_zero, List.set_cons_succ]
                refine wpAnyH_ready (rs := [22]) (by kernel_rfl) (by simp) ?_
                refine AllReadyH.cons rfl (fun K' hK' => ?_) AllReadyH.nil
                go_simp
                refine Calls.mono (wsize_any (LG.out.free hS)) ?_
                rintro e W4 ⟨rfl, hw⟩
                refine hK'.out _ _ (by rw [hw]; exact hS) (fun hS => ?_)
                clear hK' K'
                clear hw
                refine take_at (i := 25) 163 (v := .bool false) rfl rfl (by kernel_rfl) (by kernel_rfl) (by kernel_rfl) (fun _ _ _ h => h) (Or.inl ⟨by rfl, fun w' hw' => by go_simp⟩) hS ?_
                simp only [Act.put, List.setIfInBounds_toArray, List.set_cons_zero, List.set_cons_succ]
                refine take_at (i := 26) 164 (v := .bool false) rfl rfl (by kernel_rfl) (by kernel_rfl) (by kernel_rfl) (fun _ _ _ h => h) (Or.inl ⟨by rfl, fun w' hw' => by go_simp⟩) hS ?_
                simp only [Act.put, List.setIfInBounds_toArray, List.set_cons_zero, List.set_cons_succ]
                refine take_at (i := 27) 165 (v := .bool false) rfl rfl (by kernel_rfl) (by kernel_rfl) (by kernel_rfl) (fun _ _ _ h => h) (Or.inl ⟨by rfl, fun w' hw' => by go_simp⟩) hS ?_
                simp only [Act.put, List.setIfInBounds_toArray, List.set_cons_zero, List.set_cons_succ]
                refine take_at (i := 28) 166 (v := .pointer (some ⟨lb, 0, none⟩)) rfl rfl (by kernel_rfl) (by kernel_rfl) (by kernel_rfl) (fun _ _ _ h => h) (Or.inl ⟨by rfl, fun w' hw' => by go_simp⟩) hS ?_
                simp only [Act.put, List.setIfInBounds_toArray, List.set_cons_zero, List.set_cons_succ]
                refine take_at (i := 30) 168 (v := .int .i64 (-1)) rfl rfl (by kernel_rfl) (by kernel_rfl) (by kernel_rfl) (fun _ _ _ h => h) (Or.inl ⟨by rfl, fun w' hw' => by go_simp⟩) hS ?_
                simp only [Act.put, List.setIfInBounds_toArray, List.set_cons_zero, List.set_cons_succ]
                refine wpAnyH_ready (rs := [29]) (by kernel_rfl) (by simp) ?_
                refine AllReadyH.cons rfl (fun K' hK' => ?_) AllReadyH.nil
                go_simp
                refine Calls.mono (HRM.out _ hS) ?_
                rintro e W5 ⟨rfl, o5⟩
                refine hK'.out _ _ (hS.trans o5 (fun _ _ h => h)) (fun hS => ?_)
                clear hK' K'
                clear o5
                refine take_at (i := 31) 169 (v := .bool false) rfl rfl (by kernel_rfl) (by kernel_rfl) (by kernel_rfl) (fun _ _ _ h => h) (Or.inl ⟨by rfl, fun w' hw' => by go_simp⟩) hS ?_
                simp only [Act.put, List.setIfInBounds_toArray, List.set_cons_zero, List.set_cons_succ]
                refine take_at (i := 32) 170 (v := .bool false) rfl rfl (by kernel_rfl) (by kernel_rfl) (by kernel_rfl) (fun _ _ _ h => h) (Or.inl ⟨by rfl, fun w' hw' => by go_simp⟩) hS ?_
                simp only [Act.put, List.setIfInBounds_toArray, List.set_cons_zero, List.set_cons_succ]
                refine wpAnyH_done (by kernel_rfl) ?_ _
                have P9 : Hid _ := HP.out.free (HOV.out.trans hS (fun _ _ h => h))
                go_wp2_with fail
                go_roundw
                case rel => exact ⟨i + 1, lb, tr, cr, ql, by go_num, rfl, rfl, by omega, by omega, D, P9.out⟩
                case measure => simp [intOf]; omega
              · obtain ⟨RR, hRR⟩ : ∃ RR : Nat, (m : Int) - (ys.length : Int) - 8 = (RR : Int) := ⟨m - ys.length - 8, by omega⟩
                have hr2 : roomL m ys.length = (RR : Int) := by rw [roomL_yes (by omega) (by omega)]; omega
                rw [hr2] at HRM
                have rrb : RR ≤ 3000 := by omega
                clear hr2
                have d9 : decide ((RR : Int) < 0) = false := decide_eq_false (by omega)
                rw [hRR] at hmn
                have HRR : Hid _ := hRR
                go_upto_region 42 with fail
                refine wp_region_held_drew (S := fun w' => Off (fun _ => False) V w') (by kernel_rfl) ((Off.refl _ V).drew) (fun hS => ?_)
                generalize hdr : V.drew = W0 at hS ⊢
                clear hdr
                refine take_at (i := 0) 138 (v := .pointer (some ⟨b, 0, none⟩)) rfl rfl (by kernel_rfl) (by kernel_rfl) (by kernel_rfl) (fun _ _ _ h => h) (Or.inl ⟨by rfl, fun w' hw' => by go_simp⟩) hS ?_
                simp only [Act.put, List.setIfInBounds_toArray, List.set_cons_zero, List.set_cons_succ]
                refine take_at (i := 3) 141 (v := .slice tb ys.length cb) rfl rfl (by kernel_rfl) (by kernel_rfl) (by kernel_rfl) (fun _ _ _ h => h) (Or.inl ⟨by rfl, fun w' hw' => by go_simp⟩) hS ?_
                simp only [Act.put, List.setIfInBounds_toArray, List.set_cons_zero, List.set_cons_succ]
                refine take_at (i := 4) 142 (v := .string (strOf ys)) rfl rfl (by kernel_rfl) (by kernel_rfl) (by kernel_rfl) (fun _ _ _ h => h) (Or.inl ⟨by rfl, fun w' hw' => by have hcs := conv_src (HWS.out.off hw' (fun _ _ _ h => h)); go_simp⟩) hS ?_
                simp only [Act.put, List.setIfInBounds_toArray, List.set_cons_zero, List.set_cons_succ]
                refine wpAnyH_ready (rs := [1]) (by kernel_rfl) (by simp) ?_
                refine AllReadyH.cons rfl (fun K' hK' => ?_) AllReadyH.nil
                go_simp
                refine Calls.mono (HBY.out _ hS) ?_
                rintro e W1 ⟨t6, c6, rfl, own6, o6⟩
                refine hK'.out _ _ (hS.trans o6 (fun _ _ h => h)) (fun hS => ?_)
                clear hK' K'
                have HS3 : Hid _ := own6.src
                clear own6 o6
                refine wpAnyH_ready (rs := [2]) (by kernel_rfl) (by simp) ?_
                refine AllReadyH.cons rfl (fun K' hK' => ?_) AllReadyH.nil
                have hcs := conv_src HS3.out
                go_simp
                refine hK'.out _ _ hS (fun hS => ?_)
                clear hK' K'
                refine take_at (i := 5) 143 (v := .bool false) rfl rfl (by kernel_rfl) (by kernel_rfl) (by kernel_rfl) (fun _ _ _ h => h) (Or.inl ⟨by rfl, fun w' hw' => by go_simp⟩) hS ?_
                simp only [Act.put, List.setIfInBounds_toArray, List.set_cons_zero, List.set_cons_succ]
                refine take_at (i := 6) 144 (v := .bool false) rfl rfl (by kernel_rfl) (by kernel_rfl) (by kernel_rfl) (fun _ _ _ h => h) (Or.inl ⟨by rfl, fun w' hw' => by go_simp⟩) hS ?_
                simp only [Act.put, List.setIfInBounds_toArray, List.set_cons_zero, List.set_cons_succ]
                refine take_at (i := 7) 145 (v := .pointer (some ⟨b, 0, none⟩)) rfl rfl (by kernel_rfl) (by kernel_rfl) (by kernel_rfl) (fun _ _ _ h => h) (Or.inl ⟨by rfl, fun w' hw' => by go_simp⟩) hS ?_
                simp only [Act.put, List.setIfInBounds_toArray, List.set_cons_zero, List.set_cons_succ]
                refine take_at (i := 9) 147 (v := .slice tb ys.length cb) rfl rfl (by kernel_rfl) (by kernel_rfl) (by kernel_rfl) (fun _ _ _ h => h) (Or.inl ⟨by rfl, fun w' hw' => by go_simp⟩) hS ?_
                simp only [Act.put, List.setIfInBounds_toArray, List.set_cons_zero, List.set_cons_succ]
                refine take_at (i := 10) 148 (v := .int .i64 (ys.length : Int)) rfl rfl (by kernel_rfl) (by kernel_rfl) (by kernel_rfl) (fun _ _ _ h => h) (Or.inl ⟨by rfl, fun w' hw' => by go_simp⟩) hS ?_
                simp only [Act.put, List.setIfInBounds_toArray, List.set_cons_zero, List.set_cons_succ]
                refine wpAnyH_ready (rs := [8]) (by kernel_rfl) (by simp) ?_
                refine AllReadyH.cons rfl (fun K' hK' => ?_) AllReadyH.nil
                go_simp
                refine Calls.mono (HSU.out _ hS) ?_
                rintro e W2 ⟨rfl, hw⟩
                refine hK'.out _ _ (by rw [hw]; exact hS) (fun hS => ?_)
                clear hK' K'
                clear hw
                refine take_at (i := 11) 149 (v := .bool false) rfl rfl (by kernel_rfl) (by kernel_rfl) (by kernel_rfl) (fun _ _ _ h => h) (Or.inl ⟨by rfl, fun w' hw' => by go_simp⟩) hS ?_
                simp only [Act.put, List.setIfInBounds_toArray, List.set_cons_zero, List.set_cons_succ]
                refine take_at (i := 12) 150 (v := .bool false) rfl rfl (by kernel_rfl) (by kernel_rfl) (by kernel_rfl) (fun _ _ _ h => h) (Or.inl ⟨by rfl, fun w' hw' => by go_simp⟩) hS ?_
                simp only [Act.put, List.setIfInBounds_toArray, List.set_cons_zero, List.set_cons_succ]
                refine take_at (i := 13) 151 (v := .bool false) rfl rfl (by kernel_rfl) (by kernel_rfl) (by kernel_rfl) (fun _ _ _ h => h) (Or.inl ⟨by rfl, fun w' hw' => by go_simp⟩) hS ?_
                simp only [Act.put, List.setIfInBounds_toArray, List.set_cons_zero, List.set_cons_succ]
                refine take_at (i := 14) 152 (v := .pointer (some ⟨lb, 0, none⟩)) rfl rfl (by kernel_rfl) (by kernel_rfl) (by kernel_rfl) (fun _ _ _ h => h) (Or.inl ⟨by rfl, fun w' hw' => by go_simp⟩) hS ?_
                simp only [Act.put, List.setIfInBounds_toArray, List.set_cons_zero, List.set_cons_succ]
                refine take_at (i := 16) 154 (v := .slice tr ql.length cr) rfl rfl (by kernel_rfl) (by kernel_rfl) (by kernel_rfl) (fun _ _ _ h => h) (Or.inl ⟨by rfl, fun w' hw' => by go_simp⟩) hS ?_
                simp only [Act.put, List.setIfInBounds_toArray, List.set_cons_zero, List.set_cons_succ]
                refine take_at (i := 17) 155 (v := .int .i64 (ql.length : Int)) rfl rfl (by kernel_rfl) (by kernel_rfl) (by kernel_rfl) (fun _ _ _ h => h) (Or.inl ⟨by rfl, fun w' hw' => by go_simp⟩) hS ?_
                simp only [Act.put, List.setIfInBounds_toArray, List.set_cons_zero, List.set_cons_succ]
                refine wpAnyH_ready (rs := [15]) (by kernel_rfl) (by simp) ?_
                refine AllReadyH.cons rfl (fun K' hK' => ?_) AllReadyH.nil
                go_simp
                refine Calls.mono (wlen_any (LG.out.free hS)) ?_
                rintro e W3 ⟨rfl, hw⟩
                refine hK'.out _ _ (by rw [hw]; exact hS) (fun hS => ?_)
                clear hK' K'
                clear hw
                refine take_at (i := 18) 156 (v := .bool false) rfl rfl (by kernel_rfl) (by kernel_rfl) (by kernel_rfl) (fun _ _ _ h => h) (Or.inl ⟨by rfl, fun w' hw' => by go_simp⟩) hS ?_
                simp only [Act.put, List.setIfInBounds_toArray, List.set_cons_zero, List.set_cons_succ]
                refine take_at (i := 19) 157 (v := .bool false) rfl rfl (by kernel_rfl) (by kernel_rfl) (by kernel_rfl) (fun _ _ _ h => h) (Or.inl ⟨by rfl, fun w' hw' => by go_simp⟩) hS ?_
                simp only [Act.put, List.setIfInBounds_toArray, List.set_cons_zero, List.set_cons_succ]
                refine take_at (i := 20) 158 (v := .bool false) rfl rfl (by kernel_rfl) (by kernel_rfl) (by kernel_rfl) (fun _ _ _ h => h) (Or.inl ⟨by rfl, fun w' hw' => by go_simp⟩) hS ?_
                simp only [Act.put, List.setIfInBounds_toArray, List.set_cons_zero, List.set_cons_succ]
                refine take_at (i := 21) 159 (v := .pointer (some ⟨lb, 0, none⟩)) rfl rfl (by kernel_rfl) (by kernel_rfl) (by kernel_rfl) (fun _ _ _ h => h) (Or.inl ⟨by rfl, fun w' hw' => by go_simp⟩) hS ?_
                simp only [Act.put, List.setIfInBounds_toArray, List.set_cons_zero, List.set_cons_succ]
                refine take_at (i := 23) 161 (v := .slice tb ys.length cb) rfl rfl (by kernel_rfl) (by kernel_rfl) (by kernel_rfl) (fun _ _ _ h => h) (Or.inl ⟨by rfl, fun w' hw' => by go_simp⟩) hS ?_
                simp only [Act.put, List.setIfInBounds_toArray, List.set_cons_zero, List.set_cons_succ]
                refine take_at (i := 24) 162 (v := .int .i64 (ys.length : Int)) rfl rfl (by kernel_rfl) (by kernel_rfl) (by kernel_rfl) (fun _ _ _ h => h) (Or.inl ⟨by rfl, fun w' hw' => by go_simp⟩) hS ?_
                simp only [Act.put, List.setIfInBounds_toArray, List.set_cons_zero, List.set_cons_succ]
                refine wpAnyH_ready (rs := [22]) (by kernel_rfl) (by simp) ?_
                refine AllReadyH.cons rfl (fun K' hK' => ?_) AllReadyH.nil
                go_simp
                refine Calls.mono (wsize_any (LG.out.free hS)) ?_
                rintro e W4 ⟨rfl, hw⟩
                refine hK'.out _ _ (by rw [hw]; exact hS) (fun hS => ?_)
                clear hK' K'
                clear hw
                refine take_at (i := 25) 163 (v := .bool false) rfl rfl (by kernel_rfl) (by kernel_rfl) (by kernel_rfl) (fun _ _ _ h => h) (Or.inl ⟨by rfl, fun w' hw' => by go_simp⟩) hS ?_
                simp only [Act.put, List.setIfInBounds_toArray, List.set_cons_zero, List.set_cons_succ]
                refine take_at (i := 26) 164 (v := .bool false) rfl rfl (by kernel_rfl) (by kernel_rfl) (by kernel_rfl) (fun _ _ _ h => h) (Or.inl ⟨by rfl, fun w' hw' => by go_simp⟩) hS ?_
                simp only [Act.put, List.setIfInBounds_toArray, List.set_cons_zero, List.set_cons_succ]
                refine take_at (i := 27) 165 (v := .bool false) rfl rfl (by kernel_rfl) (by kernel_rfl) (by kernel_rfl) (fun _ _ _ h => h) (Or.inl ⟨by rfl, fun w' hw' => by go_simp⟩) hS ?_
                simp only [Act.put, List.setIfInBounds_toArray, List.set_cons_zero, List.set_cons_succ]
                refine take_at (i := 28) 166 (v := .pointer (some ⟨lb, 0, none⟩)) rfl rfl (by kernel_rfl) (by kernel_rfl) (by kernel_rfl) (fun _ _ _ h => h) (Or.inl ⟨by rfl, fun w' hw' => by go_simp⟩) hS ?_
                simp only [Act.put, List.setIfInBounds_toArray, List.set_cons_zero, List.set_cons_succ]
                refine take_at (i := 30) 168 (v := .int .i64 (RR : Int)) rfl rfl (by kernel_rfl) (by kernel_rfl) (by kernel_rfl) (fun _ _ _ h => h) (Or.inl ⟨by rfl, fun w' hw' => by go_simp⟩) hS ?_
                simp only [Act.put, List.setIfInBounds_toArray, List.set_cons_zero, List.set_cons_succ]
                refine wpAnyH_ready (rs := [29]) (by kernel_rfl) (by simp) ?_
                refine AllReadyH.cons rfl (fun K' hK' => ?_) AllReadyH.nil
                go_simp
                refine Calls.mono (HRM.out _ hS) ?_
                rintro e W5 ⟨rfl, o5⟩
                refine hK'.out _ _ (hS.trans o5 (fun _ _ h => h)) (fun hS => ?_)
                clear hK' K'
                clear o5
                refine take_at (i := 31) 169 (v := .bool false) rfl rfl (by kernel_rfl) (by kernel_rfl) (by kernel_rfl) (fun _ _ _ h => h) (Or.inl ⟨by rfl, fun w' hw' => by go_simp⟩) hS ?_
                simp only [Act.put, List.setIfInBounds_toArray, List.set_cons_zero, List.set_cons_succ]
                refine take_at (i := 32) 170 (v := .bool false) rfl rfl (by kernel_rfl) (by kernel_rfl) (by kernel_rfl) (fun _ _ _ h => h) (Or.inl ⟨by rfl, fun w' hw' => by go_simp⟩) hS ?_
                simp only [Act.put, List.setIfInBounds_toArray, List.set_cons_zero, List.set_cons_succ]
                refine wpAnyH_done (by kernel_rfl) ?_ _
                have P9 : Hid _ := HP.out.free (HOV.out.trans hS (fun _ _ h => h))
                go_wp2_with fail
                go_roundw
                case rel => exact ⟨i + 1, lb, tr, cr, ql, by go_num, rfl, rfl, by omega, by omega, D, P9.out⟩
                case measure => simp [intOf]; omega
      · have t2 : decide ((i : Int) < 50) = false := decide_eq_false (by omega)
        go_wp2_with fail
        refine (awake_any _).mono ?_
        rintro e va ⟨rfl, oa⟩
        go_wp2_with fail
        go_ret
        exact ⟨rfl, HP.out.off.trans oa (fun _ _ h => h)⟩
    · have t1 : decide ((i : Int) < (len : Int)) = false := decide_eq_false (by omega)
      have t1' : decide (i < len) = false := decide_eq_false (by omega)
      go_wp2_with fail
      refine (awake_any _).mono ?_
      rintro e va ⟨rfl, oa⟩
      go_wp2_with fail
      go_ret
      exact ⟨rfl, HP.out.off.trans oa (fun _ _ h => h)⟩
end Go.Proofs.Ytmdhcoplhibbeaa
