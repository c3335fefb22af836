/- The walk of TableJoins. -/
import Derived.Test.YtbagahlphnafdaaLrp
import Derived.Test.YtbagahlphnafdaaSms
namespace Go.Proofs.Ytbagahlphnafdaa
open Go.RowKit

set_option maxRecDepth 100000 in
set_option maxHeartbeats 4000000 in
theorem joins_walk (a : Option Addr) (cap : Nat) (es : List E) (ar : Option Addr) (cr : Nat) (ss : List ByteArray) (key : ByteArray) (w : World) (hE : Ens w a cap es) (_ : ∀ e ∈ es, e.key.size ≤ maxLen) (hS : Strs w ar cr ss) (hkey0 : key.size ≤ 140737488351232) :
    Calls Try.prog 3 #[.slice a es.length cap, .slice ar ss.length cr, .string key] w fun e w' => e = .returned (.bool true) ∧ Off (fun _ => False) w w' := by
  have hnot := not_any
  have hqp := eql_ptr
  have hkey : key.size ≤ maxLen := by unfold maxLen; omega
  clear hkey0
  have HE : Hid _ := hE
  have HSS : Hid _ := hS
  clear hE hS
  cases hl : lightE es
  · go_enter Try.func3, Try.ntmps3
    go_wp2_with fail
    refine (light_any a cap es w HE.out).mono ?_
    rw [hl]
    rintro e w1 ⟨rfl, o1⟩
    go_wp2_with fail
    refine (awake_any _).mono ?_
    rintro e va ⟨rfl, oa⟩
    go_wp2_with fail
    go_ret
    exact ⟨rfl, o1.trans oa (fun _ _ h => h)⟩
  · have H60 : Hid (es.length ≤ 60) := (light_iff.1 hl).1
    go_enter Try.func3, Try.ntmps3
    go_wp2_with fail
    refine (light_any a cap es w HE.out).mono ?_
    rw [hl]
    rintro e w1 ⟨rfl, o1⟩
    go_wp2_with fail
    refine (tnew_any _).mono ?_
    rintro e w2 ⟨p, b, rfl, tb, hp, hb, o2⟩
    have HO2 : Hid _ := o1.trans o2 (fun _ _ h => h)
    have hsz := HO2.out.size
    have hp2 := tb.cel.lt
    have h1s := o1.size
    have HT2 : Hid _ := tb
    have HBB : Hid (w.heap.size ≤ b) := Nat.le_trans o1.size hb
    clear tb o1 o2 hl hp hb
    go_upto_region 4 with fail
    have Cq := Cel.new w2 30 #[.slice none 0 0]
    have OA : Off (fun _ => False) w2 (w2.alloc (.cells #[.slice none 0 0] 30)) := (Off.refl _ w2).alloc _
    generalize hq : w2.heap.size = q at Cq ⊢
    generalize hv : w2.alloc (.cells #[.slice none 0 0] 30) = V at Cq OA ⊢
    have HB : Hid (w.heap.size ≤ b ∧ w.heap.size ≤ q) := ⟨HBB.out, by omega⟩
    have H0 : Hid (Two p b q [] [] V) := ⟨HT2.out.free OA, ⟨⟨none, 0, Cq, Ens.nil _ none 0 (by omega), fun _ => rfl⟩, List.Pairwise.nil, by simp⟩, rfl, okT_nil, by omega⟩
    have HO0 : Hid _ := HO2.out.trans OA (fun _ _ h => h)
    clear hq hv Cq OA HT2 HO2 hsz hp2 h1s HBB
    go_wp2_with fail
    go_loopw [33] (fun y wr => ∃ (n : Nat) (t xs : List E), y = .int .i64 (n : Int) ∧ n ≤ es.length ∧ Two p b q t xs wr ∧ Off (fun _ => False) w wr) (fun y _ => (es.length - intOf y).toNat)
    case atStart => exact ⟨0, [], [], rfl, by omega, H0.out, HO0.out⟩
    case round =>
      clear H0 HO0
      obtain ⟨n, t, xs, rfl, hn, h2, O⟩ := hrel
      have H2 : Hid _ := h2
      have HO : Hid _ := O
      have h60 := H60.out
      clear h2 O
      by_cases hlt : n < es.length
      · have e1 : decide ((n : Int) < (es.length : Int)) = true := decide_eq_true (by omega)
        have e2 : decide (n < es.length) = true := decide_eq_true hlt
        obtain ⟨x, hx⟩ : ∃ x, es[n]? = some x := ⟨_, List.getElem?_eq_getElem hlt⟩
        have hE := HE.out.off HO.out
        obtain ⟨bx, ox, rfl, kx, rx⟩ := hE.at_ n x hx
        obtain ⟨k0, k1, k2, k3, k4, k5, k6, k7, k8, k9⟩ := ent10 kx
        have hix := idx_ents hlt
        have HRX : Hid _ := rx
        clear kx rx
        clear hE
        go_upto_region 9 with fail
        have Cq7 := Cel.new wr 37 #[.string x.key, .int .i64 (x.f 0), .int .i64 (x.f 1), .int .i64 (x.f 2), .int .i64 (x.f 3), .int .i64 (x.f 4), .int .i64 (x.f 5), .int .i64 (x.f 6), .int .i64 (x.f 7), .slice x.a x.l.length x.cap]
        have OA : Off (fun _ => False) wr (wr.alloc (.cells #[.string x.key, .int .i64 (x.f 0), .int .i64 (x.f 1), .int .i64 (x.f 2), .int .i64 (x.f 3), .int .i64 (x.f 4), .int .i64 (x.f 5), .int .i64 (x.f 6), .int .i64 (x.f 7), .slice x.a x.l.length x.cap] 37)) := (Off.refl _ wr).alloc _
        generalize hq : wr.heap.size = q7 at Cq7 ⊢
        generalize hv : wr.alloc (.cells #[.string x.key, .int .i64 (x.f 0), .int .i64 (x.f 1), .int .i64 (x.f 2), .int .i64 (x.f 3), .int .i64 (x.f 4), .int .i64 (x.f 5), .int .i64 (x.f 6), .int .i64 (x.f 7), .slice x.a x.l.length x.cap] 37) = V7 at Cq7 OA ⊢
        clear hq hv
        clear k0 k1 k2 k3 k4 k5 k6 k7 k8 k9 hix
        obtain ⟨x0, x1, x2, x3, x4, x5, x6, x7, x8, x9⟩ := cel10 Cq7
        have HQ7 : Hid _ := Cq7
        have H2V : Hid _ := H2.out.free OA
        have HRV : Hid _ := HRX.out.off OA
        have HOV : Hid _ := HO.out.trans OA (fun _ _ h => h)
        clear OA Cq7 HRX H2 HO
        go_wp2_with fail
        clear x0 x1 x2 x3 x4 x5 x6 x7 x8 x9
        refine (tjoin_any p b t x.key x.f x.a x.cap x.l _ H2V.out.tab HRV.out).mono ?_
        rintro e w3 ⟨g1, a1, c1, l1, sm1, er1, t', rfl, hj1, r1, -, tb, o3⟩
        have HJ1 : Hid _ := hj1
        have HR1 : Hid _ := r1
        have HT1 : Hid _ := tb
        have HX1 : Hid _ := H2V.out.ref.apart H2V.out.tab o3
        have HQ1 : Hid _ := HQ7.out.off o3 (H2V.out.tab.ne HQ7.out)
        have HRV1 : Hid _ := HRV.out.offN o3 H2V.out.tab.noI
        have HO1 : Hid _ := HOV.out.trans o3 (fun i hi e => by have := HB.out.1; omega)
        clear hj1 r1 tb o3
        go_upto_region 10 with fail
        have Cq8 := Cel.new w3 35 #[.int .i64 (g1 0), .int .i64 (g1 1), .int .i64 (g1 2), .int .i64 (g1 3), .int .i64 (g1 4), .int .i64 (g1 5), .int .i64 (g1 6), .int .i64 (g1 7), .slice a1 l1.length c1]
        have OA : Off (fun _ => False) w3 (w3.alloc (.cells #[.int .i64 (g1 0), .int .i64 (g1 1), .int .i64 (g1 2), .int .i64 (g1 3), .int .i64 (g1 4), .int .i64 (g1 5), .int .i64 (g1 6), .int .i64 (g1 7), .slice a1 l1.length c1] 35)) := (Off.refl _ w3).alloc _
        generalize hq : w3.heap.size = q8 at Cq8 ⊢
        have HQG : Hid (w3.heap.size ≤ q8) := by show _ ≤ _; omega
        generalize hv : w3.alloc (.cells #[.int .i64 (g1 0), .int .i64 (g1 1), .int .i64 (g1 2), .int .i64 (g1 3), .int .i64 (g1 4), .int .i64 (g1 5), .int .i64 (g1 6), .int .i64 (g1 7), .slice a1 l1.length c1] 35) = V8 at Cq8 OA ⊢
        clear hq hv
        obtain ⟨x0, x1, x2, x3, x4, x5, x6, x7, x8, x9⟩ := cel10 (HQ1.out.off OA (fun h => h))
        have HQ8 : Hid _ := Cq8
        have HR8 : Hid _ := HR1.out.off OA
        have HT8 : Hid _ := HT1.out.free OA
        have HX8 : Hid _ := HX1.out.free OA
        have HRV8 : Hid _ := HRV1.out.off OA
        have HO8 : Hid _ := HO1.out.trans OA (fun _ _ h => h)
        clear OA Cq8
        go_wp2_with fail
        clear x0 x1 x2 x3 x4 x5 x6 x7 x8 x9
        refine (rjoin_any q xs x.key x.f x.a x.cap x.l _ HX8.out HRV8.out).mono ?_
        rintro e w5 ⟨g2, a2, c2, l2, sm2, er2, xs', rfl, hj2, r2, rt, o5⟩
        rw [H2V.out.eq, HJ1.out] at hj2
        simp only [JR.mk.injEq] at hj2
        obtain ⟨y1, y2, y3, y4, y5⟩ := hj2
        have HG12 : Hid (sameS g1 g2 (cont l1) (cont l2) = true) := by show _ = true; rw [same_iff]; exact ⟨fun j _ => by rw [y2], y3⟩
        obtain rfl : sm1 = sm2 := y4
        obtain rfl : er1 = er2 := y5
        have HOK : Hid (OkT (absE t')) := by have h1 := okT_join H2V.out.ok x.key x.f (cont x.l); rw [HJ1.out] at h1; exact h1
        have H5 : Hid (Two p b q t' xs' w5) := ⟨HT8.out.apart HX8.out o5 H2V.out.ne, rt, y1.symm, HOK.out, H2V.out.ne⟩
        have HQ5 : Hid _ := HQ8.out.off o5 (fun e => by have h1 := HX1.out.lt; have h2 := HQG.out; omega)
        have HR5 : Hid _ := HR8.out.offN o5 HX8.out.noI
        have HR2 : Hid _ := r2
        have HO5 : Hid _ := HO8.out.trans o5 (fun i hi e => by have := HB.out.2; omega)
        clear y1 y2 y3 r2 rt o5 HQG
        go_upto_region 11 with fail
        have Cq9 := Cel.new w5 35 #[.int .i64 (g2 0), .int .i64 (g2 1), .int .i64 (g2 2), .int .i64 (g2 3), .int .i64 (g2 4), .int .i64 (g2 5), .int .i64 (g2 6), .int .i64 (g2 7), .slice a2 l2.length c2]
        have OA : Off (fun _ => False) w5 (w5.alloc (.cells #[.int .i64 (g2 0), .int .i64 (g2 1), .int .i64 (g2 2), .int .i64 (g2 3), .int .i64 (g2 4), .int .i64 (g2 5), .int .i64 (g2 6), .int .i64 (g2 7), .slice a2 l2.length c2] 35)) := (Off.refl _ w5).alloc _
        generalize hq : w5.heap.size = q9 at Cq9 ⊢
        generalize hv : w5.alloc (.cells #[.int .i64 (g2 0), .int .i64 (g2 1), .int .i64 (g2 2), .int .i64 (g2 3), .int .i64 (g2 4), .int .i64 (g2 5), .int .i64 (g2 6), .int .i64 (g2 7), .slice a2 l2.length c2] 35) = V9 at Cq9 OA ⊢
        clear hq hv
        have HQ9a : Hid _ := HQ5.out.off OA (fun h => h)
        have H9 : Hid _ := H5.out.free OA
        have HO9 : Hid _ := HO5.out.trans OA (fun _ _ h => h)
        have HRa : Hid _ := HR5.out.off OA
        have HRb : Hid _ := HR2.out.off OA
        obtain ⟨x0, x1, x2, x3, x4, x5, x6, x7, x8⟩ := cel9 HQ9a.out
        obtain ⟨y0, y1, y2, y3, y4, y5, y6, y7, y8⟩ := cel9 Cq9
        clear OA Cq9
        go_wp2_with fail
        clear x0 x1 x2 x3 x4 x5 x6 x7 x8 y0 y1 y2 y3 y4 y5 y6 y7 y8
        refine (gsame_any g1 g2 a1 a2 c1 c2 l1 l2 _ HRa.out HRb.out).mono ?_
        rw [HG12.out]
        rintro e w6 ⟨rfl, o6⟩
        have H6 : Hid _ := H9.out.free o6
        have HO6 : Hid _ := HO9.out.trans o6 (fun _ _ h => h)
        clear o6
        have hb1 : (sm1 != sm1) = false := by cases sm1 <;> rfl
        have hb2 : (er1 != er1) = false := by simp
        go_wp2_with fail
        go_roundw
        case rel => exact ⟨n + 1, t', xs', by go_num, by omega, H6.out, HO6.out⟩
        case measure => simp [intOf]; omega
      · obtain rfl : n = es.length := by omega
        have e1 : decide ((es.length : Int) < (es.length : Int)) = false := decide_eq_false (by omega)
        have e2 : decide (es.length < es.length) = false := decide_eq_false (by omega)
        go_upto_region 14 with fail
        refine wp_region_held_drew (S := fun _ => True) (by kernel_rfl) trivial (fun hS => ?_)
        generalize hdr : wr.drew = vd
        have OD : Off (fun _ => False) wr vd := by rw [← hdr]; exact (Off.refl _ wr).drew
        have HOD : Hid _ := HO.out.trans OD (fun _ _ h => h)
        have HD2 : Hid _ := H2.out.free OD
        clear hdr OD H2 HO
        refine take_at (i := 0) 66 (v := .pointer (some ⟨p, 0, none⟩)) rfl rfl (by kernel_rfl) (by kernel_rfl) (by kernel_rfl) (fun _ _ _ h => h) (Or.inl ⟨by rfl, fun w' hw' => by go_simp⟩) hS ?_
        simp only [Act.put, List.setIfInBounds_toArray, List.set_cons_zero, List.set_cons_succ]
        refine take_at (i := 1) 67 (v := .pointer (some ⟨q, 0, none⟩)) rfl rfl (by kernel_rfl) (by kernel_rfl) (by kernel_rfl) (fun _ _ _ h => h) (Or.inl ⟨by rfl, fun w' hw' => by go_simp⟩) hS ?_
        simp only [Act.put, List.setIfInBounds_toArray, List.set_cons_zero, List.set_cons_succ]
        refine take_at (i := 2) 68 (v := .slice ar ss.length cr) rfl rfl (by kernel_rfl) (by kernel_rfl) (by kernel_rfl) (fun _ _ _ h => h) (Or.inl ⟨by rfl, fun w' hw' => by go_simp⟩) hS ?_
        simp only [Act.put, List.setIfInBounds_toArray, List.set_cons_zero, List.set_cons_succ]
        refine wpAnyH_ready (rs := [3]) (by kernel_rfl) (by simp) ?_
        refine AllReadyH.cons rfl (fun K' hK' => ?_) AllReadyH.nil
        go_simp
        refine (lreap_any p b q t xs ar cr ss w _ HD2.out HSS.out HOD.out HB.out.1 HB.out.2).mono ?_
        rintro e v1 ⟨rfl, t1, xs1, h1, o1⟩
        refine hK'.out _ _ trivial (fun _ => ?_)
        have H1 : Hid _ := h1
        have HO1 : Hid _ := o1
        clear hK' K' h1 o1 hS HD2 HOD xs t
        refine wpAnyH_mono (S' := fun w' => Off (fun _ => False) v1 w') (fun _ _ => trivial) _ _ _ _ ?_
        have hS := Off.refl (fun _ => False) v1
        obtain ⟨ax, cx, hcx, hex, -⟩ := H1.out.ref.is
        have HCX : Hid _ := hcx
        have HEX : Hid _ := hex
        clear hcx hex
        refine take_at (i := 4) 70 (v := .bool false) rfl rfl (by kernel_rfl) (by kernel_rfl) (by kernel_rfl) (fun _ _ _ h => h) (Or.inl ⟨by rfl, fun w' hw' => by go_simp⟩) hS ?_
        simp only [Act.put, List.setIfInBounds_toArray, List.set_cons_zero, List.set_cons_succ]
        refine take_at (i := 5) 71 (v := .bool false) rfl rfl (by kernel_rfl) (by kernel_rfl) (by kernel_rfl) (fun _ _ _ h => h) (Or.inl ⟨by rfl, fun w' hw' => by go_simp⟩) hS ?_
        simp only [Act.put, List.setIfInBounds_toArray, List.set_cons_zero, List.set_cons_succ]
        refine take_at (i := 6) 72 (v := .pointer (some ⟨p, 0, none⟩)) rfl rfl (by kernel_rfl) (by kernel_rfl) (by kernel_rfl) (fun _ _ _ h => h) (Or.inl ⟨by rfl, fun w' hw' => by go_simp⟩) hS ?_
        simp only [Act.put, List.setIfInBounds_toArray, List.set_cons_zero, List.set_cons_succ]
        refine take_at (i := 8) 74 (v := .pointer (some ⟨q, 0, none⟩)) rfl rfl (by kernel_rfl) (by kernel_rfl) (by kernel_rfl) (fun _ _ _ h => h) (Or.inl ⟨by rfl, fun w' hw' => by go_simp⟩) hS ?_
        simp only [Act.put, List.setIfInBounds_toArray, List.set_cons_zero, List.set_cons_succ]
        refine take_at (i := 9) 75 (v := .pointer (some ⟨q, 0, none⟩)) rfl rfl (by kernel_rfl) (by kernel_rfl) (by kernel_rfl) (fun _ _ _ h => h) (Or.inl ⟨by rfl, fun w' hw' => by go_simp⟩) hS ?_
        simp only [Act.put, List.setIfInBounds_toArray, List.set_cons_zero, List.set_cons_succ]
        refine take_at (i := 10) 76 (v := .pointer (some ⟨q, 0, none⟩)) rfl rfl (by kernel_rfl) (by kernel_rfl) (by kernel_rfl) (fun _ _ _ h => h) (Or.inl ⟨by rfl, fun w' hw' => by go_simp⟩) hS ?_
        simp only [Act.put, List.setIfInBounds_toArray, List.set_cons_zero, List.set_cons_succ]
        refine take_at (i := 11) 77 (v := .slice ax xs1.length cx) rfl rfl (by kernel_rfl) (by kernel_rfl) (by kernel_rfl) (fun _ _ _ h => h) (Or.inl ⟨by rfl, fun w' hw' => by have e := (HCX.out.off hw' (fun h => h)).cell 0; simp only [List.getElem?_toArray, List.getElem?_cons_zero] at e; go_simp⟩) hS ?_
        simp only [Act.put, List.setIfInBounds_toArray, List.set_cons_zero, List.set_cons_succ]
        refine wpAnyH_ready (rs := [7]) (by kernel_rfl) (by simp) ?_
        refine AllReadyH.cons rfl (fun K' hK' => ?_) AllReadyH.nil
        go_simp
        refine (tall_any p b t1 _ (H1.out.tab.free hS) (okT_few H1.out.ok rfl)).mono ?_
        rintro e v2 ⟨al, cl, rs, rfl, hrs, og, rw_, -, o2⟩
        have hS2 := hS.trans o2 (fun _ _ h => h)
        refine hK'.out _ _ hS2 (fun hS => ?_)
        have HRS : Hid (absE rs = absE xs1) := by show _ = _; rw [hrs, H1.out.eq]
        have HEN : Hid _ := og.ens rw_
        have HRL : Hid (rs.length ≤ 1000) := by have h1 := congrArg List.length hrs; rw [absE_len, absE_len] at h1; have := H1.out.tab.few; show _ ≤ _; omega
        clear hK' K' hS2 hrs og rw_ o2
        refine wpAnyH_ready (rs := [12]) (by kernel_rfl) (by simp) ?_
        refine AllReadyH.cons rfl (fun K' hK' => ?_) AllReadyH.nil
        go_simp
        refine (sameents_any al ax cl cx rs xs1 _ HEN.out (HEX.out.off hS) HRS.out HRL.out).mono ?_
        rintro e v3 ⟨rfl, o3⟩
        have hS3 := hS.trans o3 (fun _ _ h => h)
        refine hK'.out _ _ hS3 (fun hS => ?_)
        clear hK' K' hS3 o3
        refine take_at (i := 13) 79 (v := .bool false) rfl rfl (by kernel_rfl) (by kernel_rfl) (by kernel_rfl) (fun _ _ _ h => h) (Or.inl ⟨by rfl, fun w' hw' => by go_simp⟩) hS ?_
        simp only [Act.put, List.setIfInBounds_toArray, List.set_cons_zero, List.set_cons_succ]
        refine take_at (i := 14) 80 (v := .bool false) rfl rfl (by kernel_rfl) (by kernel_rfl) (by kernel_rfl) (fun _ _ _ h => h) (Or.inl ⟨by rfl, fun w' hw' => by go_simp⟩) hS ?_
        simp only [Act.put, List.setIfInBounds_toArray, List.set_cons_zero, List.set_cons_succ]
        refine take_at (i := 15) 81 (v := .bool false) rfl rfl (by kernel_rfl) (by kernel_rfl) (by kernel_rfl) (fun _ _ _ h => h) (Or.inl ⟨by rfl, fun w' hw' => by go_simp⟩) hS ?_
        simp only [Act.put, List.setIfInBounds_toArray, List.set_cons_zero, List.set_cons_succ]
        refine take_at (i := 16) 82 (v := .pointer (some ⟨p, 0, none⟩)) rfl rfl (by kernel_rfl) (by kernel_rfl) (by kernel_rfl) (fun _ _ _ h => h) (Or.inl ⟨by rfl, fun w' hw' => by go_simp⟩) hS ?_
        simp only [Act.put, List.setIfInBounds_toArray, List.set_cons_zero, List.set_cons_succ]
        refine take_at (i := 18) 84 (v := .pointer (some ⟨q, 0, none⟩)) rfl rfl (by kernel_rfl) (by kernel_rfl) (by kernel_rfl) (fun _ _ _ h => h) (Or.inl ⟨by rfl, fun w' hw' => by go_simp⟩) hS ?_
        simp only [Act.put, List.setIfInBounds_toArray, List.set_cons_zero, List.set_cons_succ]
        refine take_at (i := 19) 85 (v := .pointer (some ⟨q, 0, none⟩)) rfl rfl (by kernel_rfl) (by kernel_rfl) (by kernel_rfl) (fun _ _ _ h => h) (Or.inl ⟨by rfl, fun w' hw' => by go_simp⟩) hS ?_
        simp only [Act.put, List.setIfInBounds_toArray, List.set_cons_zero, List.set_cons_succ]
        refine take_at (i := 20) 86 (v := .pointer (some ⟨q, 0, none⟩)) rfl rfl (by kernel_rfl) (by kernel_rfl) (by kernel_rfl) (fun _ _ _ h => h) (Or.inl ⟨by rfl, fun w' hw' => by go_simp⟩) hS ?_
        simp only [Act.put, List.setIfInBounds_toArray, List.set_cons_zero, List.set_cons_succ]
        refine take_at (i := 21) 87 (v := .slice ax xs1.length cx) rfl rfl (by kernel_rfl) (by kernel_rfl) (by kernel_rfl) (fun _ _ _ h => h) (Or.inl ⟨by rfl, fun w' hw' => by have e := (HCX.out.off hw' (fun h => h)).cell 0; simp only [List.getElem?_toArray, List.getElem?_cons_zero] at e; go_simp⟩) hS ?_
        simp only [Act.put, List.setIfInBounds_toArray, List.set_cons_zero, List.set_cons_succ]
        refine take_at (i := 22) 88 (v := .int .i64 (xs1.length : Int)) rfl rfl (by kernel_rfl) (by kernel_rfl) (by kernel_rfl) (fun _ _ _ h => h) (Or.inl ⟨by rfl, fun w' hw' => by go_simp⟩) hS ?_
        simp only [Act.put, List.setIfInBounds_toArray, List.set_cons_zero, List.set_cons_succ]
        refine wpAnyH_ready (rs := [17]) (by kernel_rfl) (by simp) ?_
        refine AllReadyH.cons rfl (fun K' hK' => ?_) AllReadyH.nil
        go_simp
        refine (tlen_any p b t1 _ (H1.out.tab.free hS)).mono ?_
        rintro e v4 ⟨rfl, hv4⟩
        rw [hv4]
        clear hv4 v4
        refine hK'.out _ _ hS (fun hS => ?_)
        clear hK' K'
        have hln : ((t1.length : Int) != (xs1.length : Int)) = false := by rw [H1.out.len]; simp
        refine take_at (i := 23) 89 (v := .bool false) rfl rfl (by kernel_rfl) (by kernel_rfl) (by kernel_rfl) (fun _ _ _ h => h) (Or.inl ⟨by rfl, fun w' hw' => by go_simp⟩) hS ?_
        simp only [Act.put, List.setIfInBounds_toArray, List.set_cons_zero, List.set_cons_succ]
        refine take_at (i := 24) 90 (v := .bool false) rfl rfl (by kernel_rfl) (by kernel_rfl) (by kernel_rfl) (fun _ _ _ h => h) (Or.inl ⟨by rfl, fun w' hw' => by go_simp⟩) hS ?_
        simp only [Act.put, List.setIfInBounds_toArray, List.set_cons_zero, List.set_cons_succ]
        refine wpAnyH_done (by kernel_rfl) ?_ _
        have H3 : Hid _ := H1.out.free hS
        have HO3 : Hid _ := HO1.out.trans hS (fun _ _ h => h)
        clear hS HEN HRS HRL HCX HEX H1 HO1 hln
        have HK32 : Hid (∀ e ∈ xs1, e.key.size ≤ 32) := fun e he => by
          have h1 := H3.out.ok.key e.abs (by rw [← H3.out.eq]; exact List.mem_map.2 ⟨e, he, rfl⟩)
          simp only [keyB, Bool.and_eq_true, decide_eq_true_eq] at h1
          exact h1.2
        go_wp2_with fail
        go_loopw [17] (fun y wr => ∃ n : Nat, y = .int .i64 ((n : Int) - 1) ∧ n ≤ 6 ∧ Two p b q t1 xs1 wr ∧ Off (fun _ => False) w wr) (fun y _ => (5 - intOf y).toNat)
        case atStart => exact ⟨0, rfl, by omega, H3.out, HO3.out⟩
        case round =>
          clear H3 HO3
          obtain ⟨n, rfl, hn, h2, O⟩ := hrel
          have H4 : Hid _ := h2
          have HO4 : Hid _ := O
          clear h2 O
          generalize hi : (n : Int) - 1 = i
          by_cases hlt : n < 6
          · have e1 : decide (i ≤ 4) = true := decide_eq_true (by omega)
            go_wp2_with fail
            refine (tbucket_any p b t1 i _ H4.out.tab (okT_few H4.out.ok rfl)).mono ?_
            rintro e w4 ⟨al, cl, rs, rfl, hrs, og, rw_, -, o4⟩
            have HRS : Hid _ := hrs
            have HEN : Hid _ := og.ens rw_
            have H5 : Hid _ := H4.out.free o4
            have HO5 : Hid _ := HO4.out.trans o4 (fun _ _ h => h)
            have HRL : Hid (rs.length ≤ 1000) := by
              have h1 := congrArg List.length hrs
              have h2 := List.length_filter_le (fun e : K => decide (((bkt (tx e.key) : Nat) : Int) = i)) (absE t1)
              rw [absE_len] at h1 h2
              have := H4.out.tab.few
              show _ ≤ _
              omega
            clear hrs og rw_ o4
            go_wp2_with fail
            refine (rbuckett_any q xs1 i _ H5.out.ref HK32.out).mono ?_
            rintro e w5 ⟨a2, c2, r2, rfl, hr2, og2, o5⟩
            have HRE : Hid (absE rs = absE r2) := by
              show _ = _
              rw [HRS.out, hr2, ← H4.out.eq]
              unfold absE
              rw [List.filter_map]
              rfl
            have HE5 : Hid _ := HEN.out.off o5
            have HE2 : Hid _ := og2.ens (fun e he => (H5.out.ref.row e (by rw [hr2] at he; exact (List.mem_filter.1 he).1)).off o5)
            have H6 : Hid _ := H5.out.free o5
            have HO6 : Hid _ := HO5.out.trans o5 (fun _ _ h => h)
            clear hr2 og2 o5
            go_wp2_with fail
            refine (sameents_any al a2 cl c2 rs r2 _ HE5.out HE2.out HRE.out HRL.out).mono ?_
            rintro e w6 ⟨rfl, o6⟩
            have H7 : Hid _ := H6.out.free o6
            have HO7 : Hid _ := HO6.out.trans o6 (fun _ _ h => h)
            clear o6
            go_wp2_with fail
            go_roundw
            case rel => exact ⟨n + 1, by rw [← hi]; go_num, by omega, H7.out, HO7.out⟩
            case measure => simp [intOf]; omega
          · have e1 : decide (i ≤ 4) = false := decide_eq_false (by omega)
            go_wp2_with fail
            refine (tget_any p b t1 key hkey _ H4.out.tab (okT_get H4.out.ok rfl key)).mono ?_
            rintro e w4 ⟨a1, c1, l1, rfl, hl1, r1, -, o4⟩
            have HL1 : Hid _ := hl1
            have HR1 : Hid _ := r1
            have H5 : Hid _ := H4.out.free o4
            have HO5 : Hid _ := HO4.out.trans o4 (fun _ _ h => h)
            clear hl1 r1 o4
            obtain ⟨u, hu⟩ : ∃ u, u = getE t1 key := ⟨_, rfl⟩
            obtain ⟨th, hth⟩ : ∃ th, th = (fndG E.key key t1).isSome := ⟨_, rfl⟩
            have HU : Hid _ := hu
            have HTH : Hid _ := hth
            rw [← hu, ← hth]
            rw [← hu] at HL1
            clear hu hth
            go_upto_region 22 with fail
            have Cq18 := Cel.new w4 35 #[.int .i64 (u.f 0), .int .i64 (u.f 1), .int .i64 (u.f 2), .int .i64 (u.f 3), .int .i64 (u.f 4), .int .i64 (u.f 5), .int .i64 (u.f 6), .int .i64 (u.f 7), .slice a1 l1.length c1]
            have OA : Off (fun _ => False) w4 (w4.alloc (.cells #[.int .i64 (u.f 0), .int .i64 (u.f 1), .int .i64 (u.f 2), .int .i64 (u.f 3), .int .i64 (u.f 4), .int .i64 (u.f 5), .int .i64 (u.f 6), .int .i64 (u.f 7), .slice a1 l1.length c1] 35)) := (Off.refl _ w4).alloc _
            generalize hq : w4.heap.size = q18 at Cq18 ⊢
            generalize hv : w4.alloc (.cells #[.int .i64 (u.f 0), .int .i64 (u.f 1), .int .i64 (u.f 2), .int .i64 (u.f 3), .int .i64 (u.f 4), .int .i64 (u.f 5), .int .i64 (u.f 6), .int .i64 (u.f 7), .slice a1 l1.length c1] 35) = V18 at Cq18 OA ⊢
            clear hq hv
            have HQ18 : Hid _ := Cq18
            have HR18 : Hid _ := HR1.out.off OA
            have H18 : Hid _ := H5.out.free OA
            have HO18 : Hid _ := HO5.out.trans OA (fun _ _ h => h)
            clear OA Cq18
            go_wp2_with fail
            refine (rget_any q xs1 key _ H18.out.ref).mono ?_
            obtain ⟨u2, hu2⟩ : ∃ u2, u2 = getE xs1 key := ⟨_, rfl⟩
            have hth2 : (fndG E.key key xs1).isSome = th := by rw [fnd_isSome, H18.out.eq, HTH.out, fnd_isSome]
            have habs : u2.abs = u.abs := by rw [hu2, HU.out, getE_abs, getE_abs, H18.out.eq]
            rw [← hu2, hth2]
            have HSM : Hid (sameS u.f u2.f (cont l1) (cont u2.l) = true) := by
              show _ = true
              rw [same_iff, HL1.out]
              have h1 : u2.f = u.f := congrArg K.f habs
              have h2 : cont u2.l = cont u.l := congrArg K.l habs
              exact ⟨fun j _ => by rw [h1], h2.symm⟩
            clear hu2 hth2 habs
            rintro e w7 ⟨rfl, r2, o7⟩
            have HR2 : Hid _ := r2
            have HR7 : Hid _ := HR18.out.off o7
            have HQ7 : Hid _ := HQ18.out.off o7 (fun h => h)
            have HO7 : Hid _ := HO18.out.trans o7 (fun _ _ h => h)
            clear r2 o7
            go_upto_region 23 with fail
            have Cq20 := Cel.new w7 35 #[.int .i64 (u2.f 0), .int .i64 (u2.f 1), .int .i64 (u2.f 2), .int .i64 (u2.f 3), .int .i64 (u2.f 4), .int .i64 (u2.f 5), .int .i64 (u2.f 6), .int .i64 (u2.f 7), .slice u2.a u2.l.length u2.cap]
            have OA : Off (fun _ => False) w7 (w7.alloc (.cells #[.int .i64 (u2.f 0), .int .i64 (u2.f 1), .int .i64 (u2.f 2), .int .i64 (u2.f 3), .int .i64 (u2.f 4), .int .i64 (u2.f 5), .int .i64 (u2.f 6), .int .i64 (u2.f 7), .slice u2.a u2.l.length u2.cap] 35)) := (Off.refl _ w7).alloc _
            generalize hq : w7.heap.size = q20 at Cq20 ⊢
            generalize hv : w7.alloc (.cells #[.int .i64 (u2.f 0), .int .i64 (u2.f 1), .int .i64 (u2.f 2), .int .i64 (u2.f 3), .int .i64 (u2.f 4), .int .i64 (u2.f 5), .int .i64 (u2.f 6), .int .i64 (u2.f 7), .slice u2.a u2.l.length u2.cap] 35) = V20 at Cq20 OA ⊢
            clear hq hv
            obtain ⟨x0, x1, x2, x3, x4, x5, x6, x7, x8⟩ := cel9 (HQ7.out.off OA (fun h => h))
            obtain ⟨y0, y1, y2, y3, y4, y5, y6, y7, y8⟩ := cel9 Cq20
            have HRa : Hid _ := HR7.out.off OA
            have HRb : Hid _ := HR2.out.off OA
            have HO20 : Hid _ := HO7.out.trans OA (fun _ _ h => h)
            clear OA Cq20
            go_wp2_with fail
            clear x0 x1 x2 x3 x4 x5 x6 x7 x8 y0 y1 y2 y3 y4 y5 y6 y7 y8
            refine (gsame_any u.f u2.f a1 u2.a c1 u2.cap l1 u2.l _ HRa.out HRb.out).mono ?_
            rw [HSM.out]
            rintro e w8 ⟨rfl, o8⟩
            have HO8 : Hid _ := HO20.out.trans o8 (fun _ _ h => h)
            clear o8
            have hb1 : (th == th) = true := by cases th <;> rfl
            go_wp2_with fail
            refine (awake_any _).mono ?_
            rintro e va ⟨rfl, oa⟩
            go_wp2_with fail
            go_ret
            exact ⟨rfl, HO8.out.trans oa (fun _ _ h => h)⟩
end Go.Proofs.Ytbagahlphnafdaa
