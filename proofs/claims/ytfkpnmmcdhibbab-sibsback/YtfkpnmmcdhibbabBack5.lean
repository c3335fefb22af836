/- The walk of SibsBack. -/
import Derived.Test.YtfkpnmmcdhibbabBkP
import Derived.Test.YtfkpnmmcdhibbabSl12
namespace Go.Proofs.Ytfkpnmmcdhibbab
open Go.RowKit

set_option maxRecDepth 100000 in
set_option maxHeartbeats 8000000 in
theorem back_walk (f : Nat → Int) (a : Option Addr) (ca : Nat) (l : List V) (key : ByteArray) (tad : Option Addr) (cap : Nat) (bs : List Nat) (w : World)
    (hr : ∀ j, j < 8 → -9223372036854775808 ≤ f j ∧ f j ≤ 9223372036854775807) (ra : Row w a ca l) (hks : key.size ≤ 140737488351232) (hA : ArgB w tad bs.length cap bs) :
    Calls Try.prog 4 #[.agg #[.int .i64 (f 0), .int .i64 (f 1), .int .i64 (f 2), .int .i64 (f 3), .int .i64 (f 4), .int .i64 (f 5), .int .i64 (f 6), .int .i64 (f 7), .slice a l.length ca], .string key, .slice tad bs.length cap] w fun e w' => e = .returned (.bool true) ∧ Off (fun _ => False) w w' := by
  have hnot := not_any
  obtain ⟨-, hlt, hsrc, hbd⟩ := hA
  obtain ⟨ste, hste⟩ : ∃ ste, ste = wrE 100000 (some []) key f (cont l) := ⟨_, rfl⟩
  have HLEE : Hid ((ste.getD []).length ≤ 100000) := by show _ ≤ _; rw [hste]; exact wrE_le (by simp) _ _ _
  obtain ⟨X, hX⟩ : ∃ X, X = ste.getD [] := ⟨_, rfl⟩
  have HLX : Hid (X.length ≤ 100000) := by show _ ≤ _; rw [hX]; exact HLEE.out
  have HRN : Hid (∀ x ∈ cont l, Rng x) := ra.rng
  have HXL : Hid (∀ x ∈ X, x < 256) := by rw [hX, hste]; exact wrE_lt HRN.out _
  have HXX : Hid _ := hX
  have HSTE : Hid _ := hste
  obtain ⟨W, hW⟩ : ∃ W, W = w.alloc (.cells #[.int .i64 (f 0), .int .i64 (f 1), .int .i64 (f 2), .int .i64 (f 3), .int .i64 (f 4), .int .i64 (f 5), .int .i64 (f 6), .int .i64 (f 7), .slice a l.length ca] 26) := ⟨_, rfl⟩
  have O : Off (fun _ => False) w W := by rw [hW]; exact (Off.refl _ w).alloc _
  have C0 : Cel w.heap.size 26 #[.int .i64 (f 0), .int .i64 (f 1), .int .i64 (f 2), .int .i64 (f 3), .int .i64 (f 4), .int .i64 (f 5), .int .i64 (f 6), .int .i64 (f 7), .slice a l.length ca] W := by rw [hW]; exact Cel.new w _ _
  have HW : Hid _ := hW.symm
  have H0 : Hid _ := C0
  have HO : Hid _ := O
  have HRA : Hid _ := ra.off O
  have HLT : Hid _ := hlt
  have HSR : Hid (Src W tad cap bs) := hsrc.off O (fun _ _ _ h => h)
  have HRG : Hid _ := hr
  have HKS : Hid _ := hks
  clear hW C0 O ra hlt hsrc hr hks hste hX
  by_cases h40 : l.length ≤ 40
  · have hlb : lightB [⟨f, a, ca, l⟩] = true := by simp [lightB]; omega
    have HLN : Hid ((cont l).length ≤ 140737488355328) := by show _ ≤ _; rw [cont_len]; omega
    go_enter Try.func4, Try.ntmps4
    go_upto_region 1 with fail
    rw [HW.out]
    generalize hq0 : w.heap.size = q0 at H0 ⊢
    clear hq0
    obtain ⟨x0, x1, x2, x3, x4, x5, x6, x7, x8⟩ := cel9 H0.out
    have OA : Off (fun _ => False) W (W.alloc (.cells #[.int .i64 (f 0), .int .i64 (f 1), .int .i64 (f 2), .int .i64 (f 3), .int .i64 (f 4), .int .i64 (f 5), .int .i64 (f 6), .int .i64 (f 7), .slice a l.length ca] 26)) := (Off.refl _ W).alloc _
    have HSL : Hid _ := sl1 (Cel.new W 26 #[.int .i64 (f 0), .int .i64 (f 1), .int .i64 (f 2), .int .i64 (f 3), .int .i64 (f 4), .int .i64 (f 5), .int .i64 (f 6), .int .i64 (f 7), .slice a l.length ca]) (HRA.out.off OA)
    have HOA : Hid _ := OA
    clear OA
    go_wp2_with fail
    refine (light_any _ 1 _ _ HSL.out (by simp)).mono ?_
    rw [hlb]
    rintro e w2 ⟨rfl, o2⟩
    clear x0 x1 x2 x3 x4 x5 x6 x7 x8 HSL
    have HO2 : Hid _ := HOA.out.trans o2 (fun _ _ h => h)
    clear o2 HOA
    obtain ⟨x0, x1, x2, x3, x4, x5, x6, x7, x8⟩ := cel9 (H0.out.off HO2.out (fun h => h))
    go_upto_region 4 with fail
    clear x0 x1 x2 x3 x4 x5 x6 x7 x8
    obtain ⟨V1, hV⟩ : ∃ V1, V1 = w2.alloc (.cells #[.string key, .int .i64 (f 0), .int .i64 (f 1), .int .i64 (f 2), .int .i64 (f 3), .int .i64 (f 4), .int .i64 (f 5), .int .i64 (f 6), .int .i64 (f 7), .slice a l.length ca] 46) := ⟨_, rfl⟩
    have ooV1 : Off (fun _ => False) w2 V1 := by rw [hV]; exact (Off.refl _ w2).alloc _
    have G1 : Cel w2.heap.size 46 #[.string key, .int .i64 (f 0), .int .i64 (f 1), .int .i64 (f 2), .int .i64 (f 3), .int .i64 (f 4), .int .i64 (f 5), .int .i64 (f 6), .int .i64 (f 7), .slice a l.length ca] V1 := by rw [hV]; exact Cel.new w2 _ _
    rw [← hV]
    obtain ⟨q7, hq⟩ : ∃ q, q = w2.heap.size := ⟨_, rfl⟩
    rw [← hq] at G1 ⊢
    have hlq7 : w2.heap.size ≤ q7 := by omega
    clear hq hV
    have HCq7 : Hid _ := G1
    have HLq7 : Hid (q7 < V1.heap.size) := G1.lt
    clear G1
    have HO3 : Hid (Off (fun _ => False) W V1) := HO2.out.trans ooV1 (fun _ _ h => h)
    clear ooV1 HO2
    go_wp2_with fail
    refine (newWriter_any 100000 (by decide) V1).mono ?_
    rintro e y ⟨rfl, hW, o3⟩
    rw [show Int.toNat 100000 = 100000 from rfl] at hW
    have hp0 : W.heap.size ≤ V1.heap.size := HO3.out.size
    have hp7 : q7 < V1.heap.size := HLq7.out
    have HOy : Hid (Off (fun _ => False) W y) := HO3.out.trans o3 (fun _ _ h => h)
    have HCy : Hid _ := HCq7.out.off o3 (fun h => h)
    generalize hp1 : V1.heap.size = p1 at hW hp0 hp7 ⊢
    have HWy : Hid _ := hW
    clear hp1 hW o3 HO3 HCq7 HLq7 hlq7
    obtain ⟨z0, z1, z2, z3, z4, z5, z6, z7, z8, z9⟩ := cel10 HCy.out
    go_wp2_with fail
    clear z0 z1 z2 z3 z4 z5 z6 z7 z8 z9
    refine (writeEntry_any HWy.out (by decide) (by simp) key HKS.out f HRG.out a ca l (fun w' o => HRA.out.off (HOy.out.trans o (fun i hi h => absurd (show i = p1 from h) (by omega))))).mono ?_
    rw [← HSTE.out]
    rintro e w4 ⟨rfl, D', hW4, o4, gD⟩
    have HO4 : Hid (Off (fun _ => False) W w4) := HOy.out.trans o4 (fun i hi h => absurd (show i = p1 from h) (by omega))
    have HC4 : Hid _ := HCy.out.off o4 (fun h => absurd (show q7 = p1 from h) (by omega))
    have HW4 : Hid _ := hW4
    clear hW4 o4 gD HWy HCy HOy hp0 hp7
    go_wp2_with fail
    refine (done_any HW4.out (by have := HLEE.out; omega)).mono ?_
    rintro e w6 ⟨t6, c6, rfl, own6, hb6, o6⟩
    rw [← HXX.out] at own6 ⊢
    obtain ⟨er, her⟩ : ∃ er : Int, er = ((errW ste : Nat) : Int) := ⟨_, rfl⟩
    rw [← her]
    have HER : Hid _ := her
    have HO6 : Hid (Off (fun _ => False) W w6) := HO4.out.trans o6 (fun _ _ h => h)
    have HC6 : Hid _ := HC4.out.off o6 (fun h => h)
    have HSX : Hid (Src w6 t6 c6 X) := own6.src
    clear own6 hb6 o6 her HW4 HC4 HO4
    go_wp2_with fail
    refine (newReader_any t6 c6 X (by have := HLX.out; omega) HXL.out w6 HSX.out).mono ?_
    rintro e x1 ⟨rb, Dr, rfl, hrb, hDlo, R, o7⟩
    have HO7 : Hid (Off (fun _ => False) W x1) := HO6.out.trans o7 (fun _ _ h => h)
    have HC7 : Hid _ := HC6.out.off o7 (fun h => h)
    have HR : Hid _ := R
    have hrW : W.heap.size ≤ rb := Nat.le_trans HO6.out.size hrb
    have hrq : q7 < rb := Nat.lt_of_lt_of_le HC6.out.lt hrb
    clear R o7 hrb hDlo HO6 HC6 HSX
    go_wp2_with fail
    refine (readEntry_any HR.out).mono ?_
    rintro e x3 ⟨key1, h1, a1, c1, l1, rfl, hk1, hh1, hl1, row1, fr1, R1, o1⟩
    have HK1 : Hid _ := hk1
    have HH1 : Hid _ := hh1
    have HL1 : Hid _ := hl1
    obtain ⟨ok, hok⟩ : ∃ ok, ok = reB nodeP (X, 0) := ⟨_, rfl⟩
    rw [← hok]
    have HOK : Hid _ := hok
    have HO8 : Hid (Off (fun _ => False) W x3) := HO7.out.trans o1 (fun i hi h => absurd (show i = rb from h) (by omega))
    have HC8 : Hid _ := HC7.out.off o1 (fun h => absurd (show q7 = rb from h) (by omega))
    have HR8 : Hid _ := R1
    have HROW8 : Hid _ := row1
    clear hk1 hh1 hl1 hok R1 row1 fr1 o1 HO7 HC7 HR hrW hrq
    go_upto_region 9 with fail
    obtain ⟨X1, hV⟩ : ∃ V1, V1 = x3.alloc (.cells #[.string key1, .int .i64 (h1 0), .int .i64 (h1 1), .int .i64 (h1 2), .int .i64 (h1 3), .int .i64 (h1 4), .int .i64 (h1 5), .int .i64 (h1 6), .int .i64 (h1 7), .slice a1 l1.length c1] 46) := ⟨_, rfl⟩
    have ooX1 : Off (fun _ => False) x3 X1 := by rw [hV]; exact (Off.refl _ x3).alloc _
    have G1 : Cel x3.heap.size 46 #[.string key1, .int .i64 (h1 0), .int .i64 (h1 1), .int .i64 (h1 2), .int .i64 (h1 3), .int .i64 (h1 4), .int .i64 (h1 5), .int .i64 (h1 6), .int .i64 (h1 7), .slice a1 l1.length c1] X1 := by rw [hV]; exact Cel.new x3 _ _
    rw [← hV]
    obtain ⟨q12, hq⟩ : ∃ q, q = x3.heap.size := ⟨_, rfl⟩
    rw [← hq] at G1 ⊢
    have hlq12 : x3.heap.size ≤ q12 := by omega
    clear hq hV
    have HCq12 : Hid _ := G1
    have HLq12 : Hid (q12 < X1.heap.size) := G1.lt
    clear G1
    have HO9 : Hid (Off (fun _ => False) W X1) := HO8.out.trans ooX1 (fun _ _ h => h)
    have HC9 : Hid _ := HC8.out.off ooX1 (fun h => h)
    have HR9 : Hid _ := HR8.out.off ooX1 (fun h => h) (fun _ _ _ h => h)
    have HROW9 : Hid _ := HROW8.out.off ooX1
    have HRA9 : Hid _ := HRA.out.off HO9.out
    have H09 : Hid _ := H0.out.off HO9.out (fun h => h)
    clear ooX1 HO8 HC8 HR8 HROW8 hlq12 HLq12
    rcases three HKS.out HRG.out HRN.out HLN.out ste HSTE.out X HXX.out with ⟨w1, w2⟩ | ⟨w1, w2, w3⟩ | ⟨w1, w2, w3, w4, w5⟩
    · have HME : Hid _ := w2
      rw [w1] at HOK
      obtain rfl : ok = false := HOK.out
      clear w1 w2 HOK HER
      obtain ⟨z0, z1, z2, z3, z4, z5, z6, z7, z8, z9⟩ := cel10 HC9.out
      go_wp2_with fail
      clear z0 z1 z2 z3 z4 z5 z6 z7 z8 z9
      refine (smayentry_any key f a ca l _ HRA9.out).mono ?_
      rw [HME.out]
      rintro e v1 ⟨rfl, on⟩
      have HOb : Hid (Off (fun _ => False) W v1) := HO9.out.trans on (fun _ _ h => h)
      clear on
      clear HC9 HCq12 HR9 HROW9 HRA9 H09 HO9
      go_wp2_with fail
      refine (newReader_any tad cap bs (by omega) HLT.out _ (HSR.out.off HOb.out (fun _ _ _ h => h))).mono ?_
      rintro e y1 ⟨rc, Ds, rfl, hrc, -, R, o1⟩
      have HO1 : Hid (Off (fun _ => False) W y1) := HOb.out.trans o1 (fun _ _ h => h)
      have hrW : W.heap.size ≤ rc := Nat.le_trans HOb.out.size hrc
      have HR : Hid _ := R
      clear R o1 hrc HOb
      go_wp2_with fail
      refine (readEntry_any HR.out).mono ?_
      rintro e y3 ⟨key2, h2, a2, c2, l2, rfl, hk2, hh2, hl2, row2, -, R1, o1⟩
      have HK2 : Hid _ := hk2
      have HH2 : Hid _ := hh2
      have HL2 : Hid _ := hl2
      have HO3 : Hid (Off (fun _ => False) W y3) := HO1.out.trans o1 (fun i hi h => absurd (show i = rc from h) (by omega))
      have HR3 : Hid _ := R1
      have HROW3 : Hid _ := row2
      clear hk2 hh2 hl2 R1 row2 o1 HO1 HR hrW
      go_upto_region 13 with fail
      obtain ⟨Y1, hV⟩ : ∃ V1, V1 = y3.alloc (.cells #[.string key2, .int .i64 (h2 0), .int .i64 (h2 1), .int .i64 (h2 2), .int .i64 (h2 3), .int .i64 (h2 4), .int .i64 (h2 5), .int .i64 (h2 6), .int .i64 (h2 7), .slice a2 l2.length c2] 46) := ⟨_, rfl⟩
      have ooY1 : Off (fun _ => False) y3 Y1 := by rw [hV]; exact (Off.refl _ y3).alloc _
      have G1 : Cel y3.heap.size 46 #[.string key2, .int .i64 (h2 0), .int .i64 (h2 1), .int .i64 (h2 2), .int .i64 (h2 3), .int .i64 (h2 4), .int .i64 (h2 5), .int .i64 (h2 6), .int .i64 (h2 7), .slice a2 l2.length c2] Y1 := by rw [hV]; exact Cel.new y3 _ _
      rw [← hV]
      obtain ⟨q15, hq⟩ : ∃ q, q = y3.heap.size := ⟨_, rfl⟩
      rw [← hq] at G1 ⊢
      have hlq15 : y3.heap.size ≤ q15 := by omega
      clear hq hV
      have HCq15 : Hid _ := G1
      have HLq15 : Hid (q15 < Y1.heap.size) := G1.lt
      clear G1
      have HO4 : Hid (Off (fun _ => False) W Y1) := HO3.out.trans ooY1 (fun _ _ h => h)
      have HR4 : Hid _ := HR3.out.off ooY1 (fun h => h) (fun _ _ _ h => h)
      have HROW4 : Hid _ := HROW3.out.off ooY1
      clear ooY1 HO3 HR3 HROW3 hlq15
      obtain ⟨B2, hB2⟩ : ∃ B2, B2 = reB nodeP (bs, 0) := ⟨_, rfl⟩
      rw [← hB2]
      have HB2 : Hid _ := hB2
      clear hB2
      cases B2
      · go_wp2_with fail
        refine (awake_any _).mono ?_
        rintro e w9 ⟨rfl, o9⟩
        go_wp2_with fail
        go_ret
        exact ⟨rfl, HO.out.trans (HO4.out.trans o9 (fun _ _ h => h)) (fun _ _ h => h)⟩
      · go_wp2_with fail
        refine (rend_any HR4.out).mono ?_
        rintro e z ⟨rfl, hz⟩
        rw [hz]
        clear hz z
        by_cases he : endS (reS (bs, 0)) = 0
        · rw [he]
          have HWR : Hid (wrE bs.length (some []) key2 h2 (cont l2) = some bs) := by show _ = _; rw [HK2.out, HH2.out, HL2.out]; exact fw_re HLT.out HB2.out.symm he
          have HR2 : Hid (∀ j, j < 8 → -9223372036854775808 ≤ h2 j ∧ h2 j ≤ 9223372036854775807) := by rw [HH2.out]; exact (re_rng HB2.out.symm).1
          have HK3 : Hid (key2.size ≤ 140737488351232) := by rw [HK2.out]; exact (re_rng HB2.out.symm).2
          clear he HK2 HH2 HL2 HB2 HR4
          go_wp2_with fail
          refine (newWriter_any (bs.length : Int) (by omega) Y1).mono ?_
          rintro e u1 ⟨rfl, hW, o3⟩
          rw [Int.toNat_natCast] at hW
          have hp0 : W.heap.size ≤ Y1.heap.size := HO4.out.size
          have hp7 : q15 < Y1.heap.size := HLq15.out
          have HO5 : Hid (Off (fun _ => False) W u1) := HO4.out.trans o3 (fun _ _ h => h)
          have HC5 : Hid _ := HCq15.out.off o3 (fun h => h)
          have HOY : Hid (Off (fun _ => False) Y1 u1) := o3
          obtain ⟨p2, hp2⟩ : ∃ p2, p2 = Y1.heap.size := ⟨_, rfl⟩
          rw [← hp2] at hW hp0 hp7 ⊢
          have hpY : Y1.heap.size ≤ p2 := by omega
          have HW5 : Hid _ := hW
          clear hp2 hW o3 HO4 HCq15 HLq15
          obtain ⟨z0, z1, z2, z3, z4, z5, z6, z7, z8, z9⟩ := cel10 HC5.out
          go_wp2_with fail
          clear z0 z1 z2 z3 z4 z5 z6 z7 z8 z9
          refine (writeEntry_any HW5.out (by omega) (by simp) key2 HK3.out h2 HR2.out a2 c2 l2 (fun w' o => HROW4.out.off (HOY.out.trans o (fun i hi h => absurd (show i = p2 from h) (by omega))))).mono ?_
          rw [HWR.out]
          rintro e u4 ⟨rfl, D', hW4, o4, -⟩
          have HO6 : Hid (Off (fun _ => False) W u4) := HO5.out.trans o4 (fun i hi h => absurd (show i = p2 from h) (by omega))
          have HW6 : Hid _ := hW4
          clear hW4 o4 HW5 HC5 HO5 hp0 hp7 hpY HOY HROW4
          go_wp2_with fail
          refine (done_any HW6.out (by simp only [Option.getD_some]; omega)).mono ?_
          simp only [Option.getD_some, errW]
          rintro e u6 ⟨t9, c9, rfl, own9, -, o6⟩
          have HO7 : Hid (Off (fun _ => False) W u6) := HO6.out.trans o6 (fun _ _ h => h)
          have HN : Hid (Src u6 t9 c9 bs) := own9.src
          have HM : Hid (Src u6 tad cap bs) := HSR.out.off HO7.out (fun _ _ _ h => h)
          clear own9 o6 HW6 HO6
          have cs1 := conv_src HN.out
          have cs2 := conv_src HM.out
          go_wp2_with fail
          clear cs1 cs2
          refine (awake_any _).mono ?_
          rintro e w9 ⟨rfl, o9⟩
          go_wp2_with fail
          go_ret
          exact ⟨rfl, HO.out.trans (HO7.out.trans o9 (fun _ _ h => h)) (fun _ _ h => h)⟩
        · have e0 : (((endS (reS (bs, 0)) : Nat) : Int) == 0) = false := by rw [beq_eq_false_iff_ne]; omega
          generalize endS (reS (bs, 0)) = en at e0 ⊢
          clear he
          go_wp2_with fail
          refine (awake_any _).mono ?_
          rintro e w9 ⟨rfl, o9⟩
          go_wp2_with fail
          go_ret
          exact ⟨rfl, HO.out.trans (HO4.out.trans o9 (fun _ _ h => h)) (fun _ _ h => h)⟩
    · have HME : Hid _ := w2
      rw [w1] at HOK
      obtain rfl : ok = false := HOK.out
      rw [w3] at HER
      obtain rfl : er = 4 := HER.out
      clear w1 w2 w3 HOK HER
      obtain ⟨z0, z1, z2, z3, z4, z5, z6, z7, z8, z9⟩ := cel10 HC9.out
      go_wp2_with fail
      clear z0 z1 z2 z3 z4 z5 z6 z7 z8 z9
      refine (smayentry_any key f a ca l _ HRA9.out).mono ?_
      rw [HME.out]
      rintro e v1 ⟨rfl, on⟩
      have HOb : Hid (Off (fun _ => False) W v1) := HO9.out.trans on (fun _ _ h => h)
      clear on
      clear HC9 HCq12 HR9 HROW9 HRA9 H09 HO9
      go_wp2_with fail
      refine (newReader_any tad cap bs (by omega) HLT.out _ (HSR.out.off HOb.out (fun _ _ _ h => h))).mono ?_
      rintro e y1 ⟨rc, Ds, rfl, hrc, -, R, o1⟩
      have HO1 : Hid (Off (fun _ => False) W y1) := HOb.out.trans o1 (fun _ _ h => h)
      have hrW : W.heap.size ≤ rc := Nat.le_trans HOb.out.size hrc
      have HR : Hid _ := R
      clear R o1 hrc HOb
      go_wp2_with fail
      refine (readEntry_any HR.out).mono ?_
      rintro e y3 ⟨key2, h2, a2, c2, l2, rfl, hk2, hh2, hl2, row2, -, R1, o1⟩
      have HK2 : Hid _ := hk2
      have HH2 : Hid _ := hh2
      have HL2 : Hid _ := hl2
      have HO3 : Hid (Off (fun _ => False) W y3) := HO1.out.trans o1 (fun i hi h => absurd (show i = rc from h) (by omega))
      have HR3 : Hid _ := R1
      have HROW3 : Hid _ := row2
      clear hk2 hh2 hl2 R1 row2 o1 HO1 HR hrW
      go_upto_region 13 with fail
      obtain ⟨Y1, hV⟩ : ∃ V1, V1 = y3.alloc (.cells #[.string key2, .int .i64 (h2 0), .int .i64 (h2 1), .int .i64 (h2 2), .int .i64 (h2 3), .int .i64 (h2 4), .int .i64 (h2 5), .int .i64 (h2 6), .int .i64 (h2 7), .slice a2 l2.length c2] 46) := ⟨_, rfl⟩
      have ooY1 : Off (fun _ => False) y3 Y1 := by rw [hV]; exact (Off.refl _ y3).alloc _
      have G1 : Cel y3.heap.size 46 #[.string key2, .int .i64 (h2 0), .int .i64 (h2 1), .int .i64 (h2 2), .int .i64 (h2 3), .int .i64 (h2 4), .int .i64 (h2 5), .int .i64 (h2 6), .int .i64 (h2 7), .slice a2 l2.length c2] Y1 := by rw [hV]; exact Cel.new y3 _ _
      rw [← hV]
      obtain ⟨q15, hq⟩ : ∃ q, q = y3.heap.size := ⟨_, rfl⟩
      rw [← hq] at G1 ⊢
      have hlq15 : y3.heap.size ≤ q15 := by omega
      clear hq hV
      have HCq15 : Hid _ := G1
      have HLq15 : Hid (q15 < Y1.heap.size) := G1.lt
      clear G1
      have HO4 : Hid (Off (fun _ => False) W Y1) := HO3.out.trans ooY1 (fun _ _ h => h)
      have HR4 : Hid _ := HR3.out.off ooY1 (fun h => h) (fun _ _ _ h => h)
      have HROW4 : Hid _ := HROW3.out.off ooY1
      clear ooY1 HO3 HR3 HROW3 hlq15
      obtain ⟨B2, hB2⟩ : ∃ B2, B2 = reB nodeP (bs, 0) := ⟨_, rfl⟩
      rw [← hB2]
      have HB2 : Hid _ := hB2
      clear hB2
      cases B2
      · go_wp2_with fail
        refine (awake_any _).mono ?_
        rintro e w9 ⟨rfl, o9⟩
        go_wp2_with fail
        go_ret
        exact ⟨rfl, HO.out.trans (HO4.out.trans o9 (fun _ _ h => h)) (fun _ _ h => h)⟩
      · go_wp2_with fail
        refine (rend_any HR4.out).mono ?_
        rintro e z ⟨rfl, hz⟩
        rw [hz]
        clear hz z
        by_cases he : endS (reS (bs, 0)) = 0
        · rw [he]
          have HWR : Hid (wrE bs.length (some []) key2 h2 (cont l2) = some bs) := by show _ = _; rw [HK2.out, HH2.out, HL2.out]; exact fw_re HLT.out HB2.out.symm he
          have HR2 : Hid (∀ j, j < 8 → -9223372036854775808 ≤ h2 j ∧ h2 j ≤ 9223372036854775807) := by rw [HH2.out]; exact (re_rng HB2.out.symm).1
          have HK3 : Hid (key2.size ≤ 140737488351232) := by rw [HK2.out]; exact (re_rng HB2.out.symm).2
          clear he HK2 HH2 HL2 HB2 HR4
          go_wp2_with fail
          refine (newWriter_any (bs.length : Int) (by omega) Y1).mono ?_
          rintro e u1 ⟨rfl, hW, o3⟩
          rw [Int.toNat_natCast] at hW
          have hp0 : W.heap.size ≤ Y1.heap.size := HO4.out.size
          have hp7 : q15 < Y1.heap.size := HLq15.out
          have HO5 : Hid (Off (fun _ => False) W u1) := HO4.out.trans o3 (fun _ _ h => h)
          have HC5 : Hid _ := HCq15.out.off o3 (fun h => h)
          have HOY : Hid (Off (fun _ => False) Y1 u1) := o3
          obtain ⟨p2, hp2⟩ : ∃ p2, p2 = Y1.heap.size := ⟨_, rfl⟩
          rw [← hp2] at hW hp0 hp7 ⊢
          have hpY : Y1.heap.size ≤ p2 := by omega
          have HW5 : Hid _ := hW
          clear hp2 hW o3 HO4 HCq15 HLq15
          obtain ⟨z0, z1, z2, z3, z4, z5, z6, z7, z8, z9⟩ := cel10 HC5.out
          go_wp2_with fail
          clear z0 z1 z2 z3 z4 z5 z6 z7 z8 z9
          refine (writeEntry_any HW5.out (by omega) (by simp) key2 HK3.out h2 HR2.out a2 c2 l2 (fun w' o => HROW4.out.off (HOY.out.trans o (fun i hi h => absurd (show i = p2 from h) (by omega))))).mono ?_
          rw [HWR.out]
          rintro e u4 ⟨rfl, D', hW4, o4, -⟩
          have HO6 : Hid (Off (fun _ => False) W u4) := HO5.out.trans o4 (fun i hi h => absurd (show i = p2 from h) (by omega))
          have HW6 : Hid _ := hW4
          clear hW4 o4 HW5 HC5 HO5 hp0 hp7 hpY HOY HROW4
          go_wp2_with fail
          refine (done_any HW6.out (by simp only [Option.getD_some]; omega)).mono ?_
          simp only [Option.getD_some, errW]
          rintro e u6 ⟨t9, c9, rfl, own9, -, o6⟩
          have HO7 : Hid (Off (fun _ => False) W u6) := HO6.out.trans o6 (fun _ _ h => h)
          have HN : Hid (Src u6 t9 c9 bs) := own9.src
          have HM : Hid (Src u6 tad cap bs) := HSR.out.off HO7.out (fun _ _ _ h => h)
          clear own9 o6 HW6 HO6
          have cs1 := conv_src HN.out
          have cs2 := conv_src HM.out
          go_wp2_with fail
          clear cs1 cs2
          refine (awake_any _).mono ?_
          rintro e w9 ⟨rfl, o9⟩
          go_wp2_with fail
          go_ret
          exact ⟨rfl, HO.out.trans (HO7.out.trans o9 (fun _ _ h => h)) (fun _ _ h => h)⟩
        · have e0 : (((endS (reS (bs, 0)) : Nat) : Int) == 0) = false := by rw [beq_eq_false_iff_ne]; omega
          generalize endS (reS (bs, 0)) = en at e0 ⊢
          clear he
          go_wp2_with fail
          refine (awake_any _).mono ?_
          rintro e w9 ⟨rfl, o9⟩
          go_wp2_with fail
          go_ret
          exact ⟨rfl, HO.out.trans (HO4.out.trans o9 (fun _ _ h => h)) (fun _ _ h => h)⟩
    · have HME : Hid _ := w2
      rw [w1] at HOK
      obtain rfl : ok = true := HOK.out
      have hkk : key1 = key := HK1.out.trans w3
      rw [hkk] at HCq12
      clear hkk
      have HSM : Hid (sameS h1 f (cont l1) (cont l) = true) := by show _ = _; rw [HH1.out, HL1.out]; exact w4
      have HEN : Hid _ := w5
      clear w1 w2 w3 w4 w5 HOK HER
      obtain ⟨z0, z1, z2, z3, z4, z5, z6, z7, z8, z9⟩ := cel10 HC9.out
      go_wp2_with fail
      clear z0 z1 z2 z3 z4 z5 z6 z7 z8 z9
      refine (smayentry_any key f a ca l _ HRA9.out).mono ?_
      rw [HME.out]
      rintro e v1 ⟨rfl, on⟩
      obtain ⟨g0, g1, g2, g3, g4, g5, g6, g7, g8, g9⟩ := cel10 (HCq12.out.off on (fun h => h))
      obtain ⟨x0, x1, x2, x3, x4, x5, x6, x7, x8⟩ := cel9 (H09.out.off on (fun h => h))
      have HP1 : Hid (Off (fun _ => False) X1 v1) := on
      clear on
      go_wp2_with fail
      clear g0 g1 g2 g3 g4 g5 g6 g7 g8 g9 x0 x1 x2 x3 x4 x5 x6 x7 x8
      refine (ssame_any h1 f a1 a c1 ca l1 l _ (HROW9.out.off HP1.out) (HRA9.out.off HP1.out)).mono ?_
      rw [HSM.out]
      rintro e v2 ⟨rfl, on⟩
      have HP2 : Hid (Off (fun _ => False) X1 v2) := HP1.out.trans on (fun _ _ h => h)
      clear on HP1
      go_wp2_with fail
      refine (rend_any (HR9.out.off HP2.out (fun h => h) (fun _ _ _ h => h))).mono ?_
      rw [HEN.out]
      rintro e z ⟨rfl, hz⟩
      rw [hz]
      clear hz z
      have HOb : Hid (Off (fun _ => False) W v2) := HO9.out.trans HP2.out (fun _ _ h => h)
      clear HP2
      clear HC9 HCq12 HR9 HROW9 HRA9 H09 HO9
      go_wp2_with fail
      refine (newReader_any tad cap bs (by omega) HLT.out _ (HSR.out.off HOb.out (fun _ _ _ h => h))).mono ?_
      rintro e y1 ⟨rc, Ds, rfl, hrc, -, R, o1⟩
      have HO1 : Hid (Off (fun _ => False) W y1) := HOb.out.trans o1 (fun _ _ h => h)
      have hrW : W.heap.size ≤ rc := Nat.le_trans HOb.out.size hrc
      have HR : Hid _ := R
      clear R o1 hrc HOb
      go_wp2_with fail
      refine (readEntry_any HR.out).mono ?_
      rintro e y3 ⟨key2, h2, a2, c2, l2, rfl, hk2, hh2, hl2, row2, -, R1, o1⟩
      have HK2 : Hid _ := hk2
      have HH2 : Hid _ := hh2
      have HL2 : Hid _ := hl2
      have HO3 : Hid (Off (fun _ => False) W y3) := HO1.out.trans o1 (fun i hi h => absurd (show i = rc from h) (by omega))
      have HR3 : Hid _ := R1
      have HROW3 : Hid _ := row2
      clear hk2 hh2 hl2 R1 row2 o1 HO1 HR hrW
      go_upto_region 13 with fail
      obtain ⟨Y1, hV⟩ : ∃ V1, V1 = y3.alloc (.cells #[.string key2, .int .i64 (h2 0), .int .i64 (h2 1), .int .i64 (h2 2), .int .i64 (h2 3), .int .i64 (h2 4), .int .i64 (h2 5), .int .i64 (h2 6), .int .i64 (h2 7), .slice a2 l2.length c2] 46) := ⟨_, rfl⟩
      have ooY1 : Off (fun _ => False) y3 Y1 := by rw [hV]; exact (Off.refl _ y3).alloc _
      have G1 : Cel y3.heap.size 46 #[.string key2, .int .i64 (h2 0), .int .i64 (h2 1), .int .i64 (h2 2), .int .i64 (h2 3), .int .i64 (h2 4), .int .i64 (h2 5), .int .i64 (h2 6), .int .i64 (h2 7), .slice a2 l2.length c2] Y1 := by rw [hV]; exact Cel.new y3 _ _
      rw [← hV]
      obtain ⟨q15, hq⟩ : ∃ q, q = y3.heap.size := ⟨_, rfl⟩
      rw [← hq] at G1 ⊢
      have hlq15 : y3.heap.size ≤ q15 := by omega
      clear hq hV
      have HCq15 : Hid _ := G1
      have HLq15 : Hid (q15 < Y1.heap.size) := G1.lt
      clear G1
      have HO4 : Hid (Off (fun _ => False) W Y1) := HO3.out.trans ooY1 (fun _ _ h => h)
      have HR4 : Hid _ := HR3.out.off ooY1 (fun h => h) (fun _ _ _ h => h)
      have HROW4 : Hid _ := HROW3.out.off ooY1
      clear ooY1 HO3 HR3 HROW3 hlq15
      obtain ⟨B2, hB2⟩ : ∃ B2, B2 = reB nodeP (bs, 0) := ⟨_, rfl⟩
      rw [← hB2]
      have HB2 : Hid _ := hB2
      clear hB2
      cases B2
      · go_wp2_with fail
        refine (awake_any _).mono ?_
        rintro e w9 ⟨rfl, o9⟩
        go_wp2_with fail
        go_ret
        exact ⟨rfl, HO.out.trans (HO4.out.trans o9 (fun _ _ h => h)) (fun _ _ h => h)⟩
      · go_wp2_with fail
        refine (rend_any HR4.out).mono ?_
        rintro e z ⟨rfl, hz⟩
        rw [hz]
        clear hz z
        by_cases he : endS (reS (bs, 0)) = 0
        · rw [he]
          have HWR : Hid (wrE bs.length (some []) key2 h2 (cont l2) = some bs) := by show _ = _; rw [HK2.out, HH2.out, HL2.out]; exact fw_re HLT.out HB2.out.symm he
          have HR2 : Hid (∀ j, j < 8 → -9223372036854775808 ≤ h2 j ∧ h2 j ≤ 9223372036854775807) := by rw [HH2.out]; exact (re_rng HB2.out.symm).1
          have HK3 : Hid (key2.size ≤ 140737488351232) := by rw [HK2.out]; exact (re_rng HB2.out.symm).2
          clear he HK2 HH2 HL2 HB2 HR4
          go_wp2_with fail
          refine (newWriter_any (bs.length : Int) (by omega) Y1).mono ?_
          rintro e u1 ⟨rfl, hW, o3⟩
          rw [Int.toNat_natCast] at hW
          have hp0 : W.heap.size ≤ Y1.heap.size := HO4.out.size
          have hp7 : q15 < Y1.heap.size := HLq15.out
          have HO5 : Hid (Off (fun _ => False) W u1) := HO4.out.trans o3 (fun _ _ h => h)
          have HC5 : Hid _ := HCq15.out.off o3 (fun h => h)
          have HOY : Hid (Off (fun _ => False) Y1 u1) := o3
          obtain ⟨p2, hp2⟩ : ∃ p2, p2 = Y1.heap.size := ⟨_, rfl⟩
          rw [← hp2] at hW hp0 hp7 ⊢
          have hpY : Y1.heap.size ≤ p2 := by omega
          have HW5 : Hid _ := hW
          clear hp2 hW o3 HO4 HCq15 HLq15
          obtain ⟨z0, z1, z2, z3, z4, z5, z6, z7, z8, z9⟩ := cel10 HC5.out
          go_wp2_with fail
          clear z0 z1 z2 z3 z4 z5 z6 z7 z8 z9
          refine (writeEntry_any HW5.out (by omega) (by simp) key2 HK3.out h2 HR2.out a2 c2 l2 (fun w' o => HROW4.out.off (HOY.out.trans o (fun i hi h => absurd (show i = p2 from h) (by omega))))).mono ?_
          rw [HWR.out]
          rintro e u4 ⟨rfl, D', hW4, o4, -⟩
          have HO6 : Hid (Off (fun _ => False) W u4) := HO5.out.trans o4 (fun i hi h => absurd (show i = p2 from h) (by omega))
          have HW6 : Hid _ := hW4
          clear hW4 o4 HW5 HC5 HO5 hp0 hp7 hpY HOY HROW4
          go_wp2_with fail
          refine (done_any HW6.out (by simp only [Option.getD_some]; omega)).mono ?_
          simp only [Option.getD_some, errW]
          rintro e u6 ⟨t9, c9, rfl, own9, -, o6⟩
          have HO7 : Hid (Off (fun _ => False) W u6) := HO6.out.trans o6 (fun _ _ h => h)
          have HN : Hid (Src u6 t9 c9 bs) := own9.src
          have HM : Hid (Src u6 tad cap bs) := HSR.out.off HO7.out (fun _ _ _ h => h)
          clear own9 o6 HW6 HO6
          have cs1 := conv_src HN.out
          have cs2 := conv_src HM.out
          go_wp2_with fail
          clear cs1 cs2
          refine (awake_any _).mono ?_
          rintro e w9 ⟨rfl, o9⟩
          go_wp2_with fail
          go_ret
          exact ⟨rfl, HO.out.trans (HO7.out.trans o9 (fun _ _ h => h)) (fun _ _ h => h)⟩
        · have e0 : (((endS (reS (bs, 0)) : Nat) : Int) == 0) = false := by rw [beq_eq_false_iff_ne]; omega
          generalize endS (reS (bs, 0)) = en at e0 ⊢
          clear he
          go_wp2_with fail
          refine (awake_any _).mono ?_
          rintro e w9 ⟨rfl, o9⟩
          go_wp2_with fail
          go_ret
          exact ⟨rfl, HO.out.trans (HO4.out.trans o9 (fun _ _ h => h)) (fun _ _ h => h)⟩
  · have hlb : lightB [⟨f, a, ca, l⟩] = false := by simp [lightB]; omega
    go_enter Try.func4, Try.ntmps4
    go_upto_region 1 with fail
    rw [HW.out]
    generalize hq0 : w.heap.size = q0 at H0 ⊢
    clear hq0
    obtain ⟨x0, x1, x2, x3, x4, x5, x6, x7, x8⟩ := cel9 H0.out
    have OA : Off (fun _ => False) W (W.alloc (.cells #[.int .i64 (f 0), .int .i64 (f 1), .int .i64 (f 2), .int .i64 (f 3), .int .i64 (f 4), .int .i64 (f 5), .int .i64 (f 6), .int .i64 (f 7), .slice a l.length ca] 26)) := (Off.refl _ W).alloc _
    have HSL : Hid _ := sl1 (Cel.new W 26 #[.int .i64 (f 0), .int .i64 (f 1), .int .i64 (f 2), .int .i64 (f 3), .int .i64 (f 4), .int .i64 (f 5), .int .i64 (f 6), .int .i64 (f 7), .slice a l.length ca]) (HRA.out.off OA)
    have HOA : Hid _ := OA
    clear OA
    go_wp2_with fail
    refine (light_any _ 1 _ _ HSL.out (by simp)).mono ?_
    rw [hlb]
    rintro e w2 ⟨rfl, o2⟩
    clear x0 x1 x2 x3 x4 x5 x6 x7 x8 HSL
    have HO2 : Hid _ := HOA.out.trans o2 (fun _ _ h => h)
    clear o2 HOA
    go_wp2_with fail
    refine (awake_any _).mono ?_
    rintro e w9 ⟨rfl, o9⟩
    go_wp2_with fail
    go_ret
    exact ⟨rfl, HO.out.trans (HO2.out.trans o9 (fun _ _ h => h)) (fun _ _ h => h)⟩
end Go.Proofs.Ytfkpnmmcdhibbab
