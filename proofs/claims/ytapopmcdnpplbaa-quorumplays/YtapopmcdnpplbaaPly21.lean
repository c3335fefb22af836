/- The walk of QuorumPlays. -/
import Derived.Test.YtapopmcdnpplbaaArg21
namespace Go.Proofs.Ytapopmcdnpplbaa
set_option maxRecDepth 100000
open Go.RowKit

theorem put_run {B : Nat → Int} {i n : Nat} (h : B i = (n : Int)) (hn : n < 8) : run B (i + 1) = put (run B i) n := by
  show (if okN (B i) then put (run B i) (B i).toNat else run B i) = _
  rw [h, if_pos (okN_of hn), Int.toNat_natCast]
theorem no_run {B : Nat → Int} {i : Nat} (h : okN (B i) = false) : run B (i + 1) = run B i := by
  show (if okN (B i) then put (run B i) (B i).toNat else run B i) = _
  rw [h]
  rfl
set_option maxHeartbeats 4000000 in
theorem plays_walk (m : Int) (a : Option Addr) (len cap : Nat) (B : Nat → Int) (w : World) (_ : -9223372036854775808 ≤ m ∧ m ≤ 9223372036854775807) (hb : Inz w a len cap B) :
    Calls Try.prog 3 #[.int .i64 m, .slice a len cap] w fun e w' => e = .returned (.bool true) ∧ Off (fun _ => False) w w' := by
  have HB : Hid (∀ i, i < len → ∃ b off, a = some ⟨b, off, none⟩ ∧ w.cell? ⟨b, off + i, none⟩ = some (.int .i64 (B i))) := hb.at_
  have hlen := hb.hlen
  clear hb
  have HN : Hid _ := qnew_any m w
  go_enter Try.func3, Try.ntmps3
  go_wp2_with fail
  refine Calls.mono HN.out ?_
  rintro e w1 ⟨rfl, h1, o1⟩
  have O1 : Hid _ := o1
  have HC1 : Hid _ := h1
  obtain ⟨b, hb⟩ : ∃ b, b = w.heap.size := ⟨_, rfl⟩
  have HBW : Hid (b = w.heap.size) := hb
  rw [← hb] at HC1 ⊢
  have HQ : Hid (b < w1.heap.size) := HC1.out.lt
  clear h1 o1 hb HN
  obtain ⟨q, hq⟩ : ∃ q, q = w1.heap.size := ⟨_, rfl⟩
  have HQW : Hid (q = w1.heap.size) := hq
  have HR : Hid (Cel q 25 #[.bool ((run B 0) 0), .bool ((run B 0) 1), .bool ((run B 0) 2), .bool ((run B 0) 3), .bool ((run B 0) 4), .bool ((run B 0) 5), .bool ((run B 0) 6), .bool ((run B 0) 7)] (w1.alloc (.cells #[.bool ((run B 0) 0), .bool ((run B 0) 1), .bool ((run B 0) 2), .bool ((run B 0) 3), .bool ((run B 0) 4), .bool ((run B 0) 5), .bool ((run B 0) 6), .bool ((run B 0) 7)] 25))) := by rw [hq]; exact Cel.new w1 _ _
  have HD : Hid (Cnt b m (run B 0) (w1.alloc (.cells #[.bool ((run B 0) 0), .bool ((run B 0) 1), .bool ((run B 0) 2), .bool ((run B 0) 3), .bool ((run B 0) 4), .bool ((run B 0) 5), .bool ((run B 0) 6), .bool ((run B 0) 7)] 25))) := HC1.out.off ((Off.refl (fun _ => False) w1).alloc _) (fun h => h)
  have HO : Hid (Off (fun _ => False) w (w1.alloc (.cells #[.bool ((run B 0) 0), .bool ((run B 0) 1), .bool ((run B 0) 2), .bool ((run B 0) 3), .bool ((run B 0) 4), .bool ((run B 0) 5), .bool ((run B 0) 6), .bool ((run B 0) 7)] 25))) := O1.out.alloc _
  have HE : Hid (b ≠ q ∧ w.heap.size ≤ b ∧ w.heap.size ≤ q) := ⟨by have := HQ.out; omega, by have := HBW.out; omega, by have := HBW.out; have := HQ.out; omega⟩
  go_upto_region 3 with fail
  rw [← hq]
  rw [show (.cells #[.bool false, .bool false, .bool false, .bool false, .bool false, .bool false, .bool false, .bool false] 25 : Obj) = .cells #[.bool ((run B 0) 0), .bool ((run B 0) 1), .bool ((run B 0) 2), .bool ((run B 0) 3), .bool ((run B 0) 4), .bool ((run B 0) 5), .bool ((run B 0) 6), .bool ((run B 0) 7)] 25 from rfl]
  generalize w1.alloc (.cells #[.bool ((run B 0) 0), .bool ((run B 0) 1), .bool ((run B 0) 2), .bool ((run B 0) 3), .bool ((run B 0) 4), .bool ((run B 0) 5), .bool ((run B 0) 6), .bool ((run B 0) 7)] 25) = v at *
  clear hq HQ HQW O1 HC1 HBW
  go_wp2_with fail
  go_loopw [7, 8, 18] (fun s7 s8 s18 wr => ∃ (i : Nat) (N t : Int), s18 = .int .i64 (i : Int) ∧ s7 = .int .i64 N ∧ s8 = .int .i64 t ∧ N = (cnt (run B i) 8 : Int) ∧ t = (tld m (cnt (run B i) 8) : Int) ∧ i ≤ len ∧ i ≤ 60 ∧ Cnt b m (run B i) wr ∧ Cel q 25 #[.bool ((run B i) 0), .bool ((run B i) 1), .bool ((run B i) 2), .bool ((run B i) 3), .bool ((run B i) 4), .bool ((run B i) 5), .bool ((run B i) 6), .bool ((run B i) 7)] wr ∧ Off (fun _ => False) w wr) (fun _ _ i _ => ((len : Int) - intOf i).toNat)
  case atStart => exact ⟨0, 0, 0, rfl, rfl, rfl, rfl, by unfold tld; rw [if_neg (by show ¬ (1 ≤ m ∧ m ≤ ((0 : Nat) : Int)); omega)]; rfl, by omega, by omega, HD.out, HR.out, HO.out⟩
  case round =>
    obtain ⟨i, N, t, rfl, rfl, rfl, hN, ht, hi, hi6, hc, hr, ho⟩ := hrel
    clear HR HD HO
    have HC : Hid _ := hc
    have HR : Hid _ := hr
    have HO : Hid _ := ho
    have HN : Hid _ := hN
    have HT : Hid _ := ht
    have nb := cnt_le (run B i) 8
    have tb := tld_le m (cnt (run B i) 8)
    have n0 : 0 ≤ N := by omega
    have n1 : N ≤ 8 := by omega
    have t0 : 0 ≤ t := by omega
    have t1 : t ≤ 1 := by omega
    clear hc hr ho hN ht nb tb
    by_cases hlt : i < len
    · obtain ⟨g0, off, rfl, c0⟩ := HB.out i hlt
      replace c0 := off_cell HO.out c0
      by_cases h60 : 60 ≤ i
      · obtain ⟨g, hg⟩ : ∃ g, g = run B i := ⟨_, rfl⟩
        have HCT : Hid (Cnt b m g wr) := by rw [hg]; exact HC.out
        have HRT : Hid (Cel q 25 #[.bool (g 0), .bool (g 1), .bool (g 2), .bool (g 3), .bool (g 4), .bool (g 5), .bool (g 6), .bool (g 7)] wr) := by rw [hg]; exact HR.out
        have HOT : Hid (Off (fun _ => False) w wr) := HO.out
        clear HC HR HO hg HN HT
        go_wp2_with fail
        go_loopw [83] (fun s83 wr' => ∃ j : Nat, s83 = .int .i64 (j : Int) ∧ j ≤ 8 ∧ Cnt b m g wr' ∧ Cel q 25 #[.bool (g 0), .bool (g 1), .bool (g 2), .bool (g 3), .bool (g 4), .bool (g 5), .bool (g 6), .bool (g 7)] wr' ∧ Off (fun _ => False) w wr') (fun j _ => (8 - intOf j).toNat)
        case atStart => exact ⟨0, rfl, by omega, HCT.out, HRT.out, HOT.out⟩
        case round =>
          obtain ⟨j, rfl, hj, hc, hr, ho⟩ := hrel
          have HC5 : Hid _ := hc
          have HR5 : Hid _ := hr
          have HO5 : Hid _ := ho
          clear hc hr ho HCT HRT HOT
          by_cases hj8 : j < 8
          · have ca := at8 q hj8
            have cc := (HR5.out.cell j).trans (get8 g hj8)
            have d1 : decide ((j : Int) < 8) = true := decide_eq_true (by omega)
            have HG : Hid (∀ k, _) := fun k => has_at (HC5.out.drewN k) hj8
            obtain ⟨y, hy⟩ : ∃ y, y = g j := ⟨_, rfl⟩
            rw [← hy] at cc HG
            clear hy
            cases y
            · go_wp2_with fail
              go_quiet ((go_at_call 11; refine Calls.quiet_of_same (HG.out _)))
              go_wp2_with fail
              go_roundw
              case rel => exact ⟨j + 1, by go_num, by omega, HC5.out.drewN _, ⟨HR5.out.is⟩, HO5.out.drewN _⟩
              case measure => simp [intOf]; omega
            · go_wp2_with fail
              go_quiet ((go_at_call 11; refine Calls.quiet_of_same (HG.out _)))
              go_wp2_with fail
              go_roundw
              case rel => exact ⟨j + 1, by go_num, by omega, HC5.out.drewN _, ⟨HR5.out.is⟩, HO5.out.drewN _⟩
              case measure => simp [intOf]; omega
          · obtain rfl : j = 8 := by omega
            have d1 : decide (((8 : Nat) : Int) < 8) = false := rfl
            go_wp2_with fail
            refine Calls.mono (has_no (x := -1) rfl b _) ?_
            rintro e v5 ⟨rfl, hw⟩
            rw [hw]
            clear hw v5
            go_wp2_with fail
            refine Calls.mono (has_no (x := 8) rfl b _) ?_
            rintro e v5 ⟨rfl, hw⟩
            rw [hw]
            clear hw v5
            go_wp2_with fail
            refine Calls.mono (awake_any _) ?_
            rintro e v5 ⟨rfl, o5⟩
            have HO6 : Hid _ := HO5.out.trans o5 (fun _ _ h => h)
            clear o5
            go_wp2_with fail
            go_ret
            exact ⟨rfl, HO6.out⟩
      · have HTC : Hid _ := tells_cnt m B i
        by_cases hx0 : 0 ≤ B i
        · by_cases hx8 : B i < 8
          · obtain ⟨n, hn8, hxn⟩ : ∃ n : Nat, n < 8 ∧ B i = (n : Int) := ⟨(B i).toNat, by omega, by omega⟩
            have HX : Hid _ := hxn
            have ca := at8 q hn8
            have cc := (HR.out.cell n).trans (get8 (run B i) hn8)
            have cf := HR.out.free n
            have d1 : decide ((n : Int) < 8) = true := decide_eq_true (by omega)
            rw [hxn] at c0
            clear hxn hx0 hx8
            by_cases hf : run B i n = true
            · rw [hf] at cc
              have HRUN : Hid (run B (i + 1) = run B i) := (by rw [put_run HX.out hn8, put_old hf] : run B (i + 1) = run B i)
              have HHS : Hid ((okN (B i) && run B (i + 1) (B i).toNat) = true) := by rw [HRUN.out, HX.out, okN_of hn8, Int.toNat_natCast, hf]; rfl

              have HTT : Hid (tells m (run B i) (B i) = false) := by show _ = _; unfold tells; rw [HX.out, okN_of hn8, Int.toNat_natCast, hf]; rfl
              have HN2 : Hid ((cnt (run B (i + 1)) 8 : Int) = N) := by rw [HRUN.out]; exact HN.out.symm
              have HT2 : Hid (t = (tld m (cnt (run B (i + 1)) 8) : Int)) := by rw [HRUN.out]; exact HT.out
              clear hf
              by_cases hM : m ≤ N
              · have HRV : Hid (Cel q 25 #[.bool ((run B (i + 1)) 0), .bool ((run B (i + 1)) 1), .bool ((run B (i + 1)) 2), .bool ((run B (i + 1)) 3), .bool ((run B (i + 1)) 4), .bool ((run B (i + 1)) 5), .bool ((run B (i + 1)) 6), .bool ((run B (i + 1)) 7)] wr) := by rw [HRUN.out]; exact HR.out
                have HOV : Hid (Off (fun _ => False) w wr) := HO.out
                have HCV : Hid (Cnt b m (run B i) wr) := HC.out
                have HA : Hid _ := add_any HCV.out
                rw [HTT.out, HX.out] at HA

                clear HR HO HC
                have hm2 : decide (m ≤ N) = true := by exact decide_eq_true hM
                have HM : Hid (decide (m ≤ N) = true) := hm2
                have HH : Hid (∀ V, Cnt b m (run B (i + 1)) V → _) := fun V (h : Cnt b m (run B (i + 1)) V) => has_any h (B i)
                rw [HHS.out, HX.out] at HH
                go_wp2_with fail

                refine Calls.mono HA.out ?_
                rintro e v3 ⟨rfl, h3, o3⟩
                have HC3 : Hid _ := h3
                have HR3 : Hid _ := HRV.out.off o3 (fun e => by have e : q = b := e; exact HE.out.1 e.symm)
                have HO3 : Hid (Off (fun _ => False) w v3) := HOV.out.trans o3 (fun i hi e => absurd hi (by have e : i = b := e; have := HE.out; omega))
                clear h3 o3 HA HCV HRV HOV 
                go_wp2_with fail
                refine Calls.mono (len_any HC3.out) ?_
                rw [HN2.out]
                rintro e v4 ⟨rfl, hw⟩
                rw [hw]
                clear hw v4
                go_wp2_with fail
                refine Calls.mono (done_any HC3.out) ?_
                rw [HN2.out, HM.out]
                rintro e v4 ⟨rfl, k, hw⟩
                have HC4 : Hid (Cnt b m (run B (i + 1)) v4) := by rw [hw]; exact HC3.out.drewN _
                have HR4 : Hid (Cel q 25 #[.bool ((run B (i + 1)) 0), .bool ((run B (i + 1)) 1), .bool ((run B (i + 1)) 2), .bool ((run B (i + 1)) 3), .bool ((run B (i + 1)) 4), .bool ((run B (i + 1)) 5), .bool ((run B (i + 1)) 6), .bool ((run B (i + 1)) 7)] v4) := by rw [hw]; exact ⟨HR3.out.is⟩
                have HO4 : Hid (Off (fun _ => False) w v4) := by rw [hw]; exact HO3.out.drewN _
                clear hw HC3 HR3 HO3
                go_wp2_with fail
                refine Calls.mono (HH.out v4 HC4.out) ?_
                rintro e v5 ⟨rfl, hw⟩
                rw [hw]
                clear hw v5
                go_wp2_with fail
                go_roundw
                case rel => exact ⟨i + 1, N, t, by go_num, by first | rfl | go_num, by first | rfl | go_num, HN2.out.symm, HT2.out, by omega, by omega, HC4.out, HR4.out, HO4.out⟩
                case measure => simp [intOf]; omega
              · have HRV : Hid (Cel q 25 #[.bool ((run B (i + 1)) 0), .bool ((run B (i + 1)) 1), .bool ((run B (i + 1)) 2), .bool ((run B (i + 1)) 3), .bool ((run B (i + 1)) 4), .bool ((run B (i + 1)) 5), .bool ((run B (i + 1)) 6), .bool ((run B (i + 1)) 7)] wr) := by rw [HRUN.out]; exact HR.out
                have HOV : Hid (Off (fun _ => False) w wr) := HO.out
                have HCV : Hid (Cnt b m (run B i) wr) := HC.out
                have HA : Hid _ := add_any HCV.out
                rw [HTT.out, HX.out] at HA

                clear HR HO HC
                have hm2 : decide (m ≤ N) = false := by exact decide_eq_false hM
                have HM : Hid (decide (m ≤ N) = false) := hm2
                have HH : Hid (∀ V, Cnt b m (run B (i + 1)) V → _) := fun V (h : Cnt b m (run B (i + 1)) V) => has_any h (B i)
                rw [HHS.out, HX.out] at HH
                go_wp2_with fail

                refine Calls.mono HA.out ?_
                rintro e v3 ⟨rfl, h3, o3⟩
                have HC3 : Hid _ := h3
                have HR3 : Hid _ := HRV.out.off o3 (fun e => by have e : q = b := e; exact HE.out.1 e.symm)
                have HO3 : Hid (Off (fun _ => False) w v3) := HOV.out.trans o3 (fun i hi e => absurd hi (by have e : i = b := e; have := HE.out; omega))
                clear h3 o3 HA HCV HRV HOV 
                go_wp2_with fail
                refine Calls.mono (len_any HC3.out) ?_
                rw [HN2.out]
                rintro e v4 ⟨rfl, hw⟩
                rw [hw]
                clear hw v4
                go_wp2_with fail
                refine Calls.mono (done_any HC3.out) ?_
                rw [HN2.out, HM.out]
                rintro e v4 ⟨rfl, k, hw⟩
                have HC4 : Hid (Cnt b m (run B (i + 1)) v4) := by rw [hw]; exact HC3.out.drewN _
                have HR4 : Hid (Cel q 25 #[.bool ((run B (i + 1)) 0), .bool ((run B (i + 1)) 1), .bool ((run B (i + 1)) 2), .bool ((run B (i + 1)) 3), .bool ((run B (i + 1)) 4), .bool ((run B (i + 1)) 5), .bool ((run B (i + 1)) 6), .bool ((run B (i + 1)) 7)] v4) := by rw [hw]; exact ⟨HR3.out.is⟩
                have HO4 : Hid (Off (fun _ => False) w v4) := by rw [hw]; exact HO3.out.drewN _
                clear hw HC3 HR3 HO3
                go_wp2_with fail
                refine Calls.mono (HH.out v4 HC4.out) ?_
                rintro e v5 ⟨rfl, hw⟩
                rw [hw]
                clear hw v5
                go_wp2_with fail
                go_roundw
                case rel => exact ⟨i + 1, N, t, by go_num, by first | rfl | go_num, by first | rfl | go_num, HN2.out.symm, HT2.out, by omega, by omega, HC4.out, HR4.out, HO4.out⟩
                case measure => simp [intOf]; omega
            · simp only [Bool.not_eq_true] at hf
              rw [hf] at cc
              by_cases hM1 : N + 1 = m
              · have dM : decide (N + 1 = m) = true := decide_eq_true hM1
                have HRUN : Hid (run B (i + 1) = put (run B i) n) := put_run HX.out hn8
                have HHS : Hid ((okN (B i) && run B (i + 1) (B i).toNat) = true) := by rw [HRUN.out, HX.out, okN_of hn8, Int.toNat_natCast, put_same]; rfl
                have HTT : Hid (tells m (run B i) (B i) = true) := by show _ = _; unfold tells; rw [HX.out, okN_of hn8, Int.toNat_natCast, hf, ← HN.out, dM]; rfl
                have HN2 : Hid ((cnt (run B (i + 1)) 8 : Int) = N + 1) := by rw [HRUN.out, cnt_put hf hn8]; have := HN.out; show _ = _; omega
                have HT2 : Hid (t + 1 = (tld m (cnt (run B (i + 1)) 8) : Int)) := by have := HTC.out; rw [HTT.out] at this; have := HT.out; show _ = _; simp at *; omega
                clear hf
                have hM : m ≤ N + 1 := by omega

                have HRV : Hid (Cel q 25 #[.bool ((run B (i + 1)) 0), .bool ((run B (i + 1)) 1), .bool ((run B (i + 1)) 2), .bool ((run B (i + 1)) 3), .bool ((run B (i + 1)) 4), .bool ((run B (i + 1)) 5), .bool ((run B (i + 1)) 6), .bool ((run B (i + 1)) 7)] (wr.setCell ⟨q, n, none⟩ (.bool true))) := by have := HR.out.set n (.bool true); rw [set8 (run B i) hn8] at this; rw [HRUN.out]; exact this
                have HOV0 : Hid (Off (fun c => c = q) wr (wr.setCell ⟨q, n, none⟩ (.bool true))) := (Off.refl (fun c => c = q) wr).setCell (p := ⟨q, n, none⟩) (.inl rfl) _
                have HOV : Hid (Off (fun _ => False) w (wr.setCell ⟨q, n, none⟩ (.bool true))) := HO.out.setCell (p := ⟨q, n, none⟩) (.inr HE.out.2.2) _
                have HCV : Hid (Cnt b m (run B i) (wr.setCell ⟨q, n, none⟩ (.bool true))) := HC.out.off HOV0.out (fun e => by have e : b = q := e; exact HE.out.1 e)
                have HA : Hid _ := add_any HCV.out
                rw [HTT.out, HX.out] at HA
                clear HOV0
                generalize hv2 : wr.setCell ⟨q, n, none⟩ (.bool true) = v2 at HRV HOV HCV HA
                have HV2 : Hid _ := hv2
                clear hv2

                clear HR HO HC
                have hm2 : decide (m ≤ N + 1) = true := by exact decide_eq_true hM
                have HM : Hid (decide (m ≤ N + 1) = true) := hm2
                have HH : Hid (∀ V, Cnt b m (run B (i + 1)) V → _) := fun V (h : Cnt b m (run B (i + 1)) V) => has_any h (B i)
                rw [HHS.out, HX.out] at HH
                go_wp2_with fail
                rw [HV2.out]
                refine Calls.mono HA.out ?_
                rintro e v3 ⟨rfl, h3, o3⟩
                have HC3 : Hid _ := h3
                have HR3 : Hid _ := HRV.out.off o3 (fun e => by have e : q = b := e; exact HE.out.1 e.symm)
                have HO3 : Hid (Off (fun _ => False) w v3) := HOV.out.trans o3 (fun i hi e => absurd hi (by have e : i = b := e; have := HE.out; omega))
                clear h3 o3 HA HCV HRV HOV HV2
                go_wp2_with fail
                refine Calls.mono (len_any HC3.out) ?_
                rw [HN2.out]
                rintro e v4 ⟨rfl, hw⟩
                rw [hw]
                clear hw v4
                go_wp2_with fail
                refine Calls.mono (done_any HC3.out) ?_
                rw [HN2.out, HM.out]
                rintro e v4 ⟨rfl, k, hw⟩
                have HC4 : Hid (Cnt b m (run B (i + 1)) v4) := by rw [hw]; exact HC3.out.drewN _
                have HR4 : Hid (Cel q 25 #[.bool ((run B (i + 1)) 0), .bool ((run B (i + 1)) 1), .bool ((run B (i + 1)) 2), .bool ((run B (i + 1)) 3), .bool ((run B (i + 1)) 4), .bool ((run B (i + 1)) 5), .bool ((run B (i + 1)) 6), .bool ((run B (i + 1)) 7)] v4) := by rw [hw]; exact ⟨HR3.out.is⟩
                have HO4 : Hid (Off (fun _ => False) w v4) := by rw [hw]; exact HO3.out.drewN _
                clear hw HC3 HR3 HO3
                go_wp2_with fail
                refine Calls.mono (HH.out v4 HC4.out) ?_
                rintro e v5 ⟨rfl, hw⟩
                rw [hw]
                clear hw v5
                go_wp2_with fail
                go_roundw
                case rel => exact ⟨i + 1, N + 1, t + 1, by go_num, by first | rfl | go_num, by first | rfl | go_num, HN2.out.symm, HT2.out, by omega, by omega, HC4.out, HR4.out, HO4.out⟩
                case measure => simp [intOf]; omega
              · have dM : decide (N + 1 = m) = false := decide_eq_false hM1
                have HRUN : Hid (run B (i + 1) = put (run B i) n) := put_run HX.out hn8
                have HHS : Hid ((okN (B i) && run B (i + 1) (B i).toNat) = true) := by rw [HRUN.out, HX.out, okN_of hn8, Int.toNat_natCast, put_same]; rfl
                have HTT : Hid (tells m (run B i) (B i) = false) := by show _ = _; unfold tells; rw [HX.out, okN_of hn8, Int.toNat_natCast, hf, ← HN.out, dM]; rfl
                have HN2 : Hid ((cnt (run B (i + 1)) 8 : Int) = N + 1) := by rw [HRUN.out, cnt_put hf hn8]; have := HN.out; show _ = _; omega
                have HT2 : Hid (t = (tld m (cnt (run B (i + 1)) 8) : Int)) := by have := HTC.out; rw [HTT.out] at this; have := HT.out; show _ = _; simp at *; omega
                clear hf
                by_cases hM : m ≤ N + 1
                · have HRV : Hid (Cel q 25 #[.bool ((run B (i + 1)) 0), .bool ((run B (i + 1)) 1), .bool ((run B (i + 1)) 2), .bool ((run B (i + 1)) 3), .bool ((run B (i + 1)) 4), .bool ((run B (i + 1)) 5), .bool ((run B (i + 1)) 6), .bool ((run B (i + 1)) 7)] (wr.setCell ⟨q, n, none⟩ (.bool true))) := by have := HR.out.set n (.bool true); rw [set8 (run B i) hn8] at this; rw [HRUN.out]; exact this
                  have HOV0 : Hid (Off (fun c => c = q) wr (wr.setCell ⟨q, n, none⟩ (.bool true))) := (Off.refl (fun c => c = q) wr).setCell (p := ⟨q, n, none⟩) (.inl rfl) _
                  have HOV : Hid (Off (fun _ => False) w (wr.setCell ⟨q, n, none⟩ (.bool true))) := HO.out.setCell (p := ⟨q, n, none⟩) (.inr HE.out.2.2) _
                  have HCV : Hid (Cnt b m (run B i) (wr.setCell ⟨q, n, none⟩ (.bool true))) := HC.out.off HOV0.out (fun e => by have e : b = q := e; exact HE.out.1 e)
                  have HA : Hid _ := add_any HCV.out
                  rw [HTT.out, HX.out] at HA
                  clear HOV0
                  generalize hv2 : wr.setCell ⟨q, n, none⟩ (.bool true) = v2 at HRV HOV HCV HA
                  have HV2 : Hid _ := hv2
                  clear hv2

                  clear HR HO HC
                  have hm2 : decide (m ≤ N + 1) = true := by exact decide_eq_true hM
                  have HM : Hid (decide (m ≤ N + 1) = true) := hm2
                  have HH : Hid (∀ V, Cnt b m (run B (i + 1)) V → _) := fun V (h : Cnt b m (run B (i + 1)) V) => has_any h (B i)
                  rw [HHS.out, HX.out] at HH
                  go_wp2_with fail
                  rw [HV2.out]
                  refine Calls.mono HA.out ?_
                  rintro e v3 ⟨rfl, h3, o3⟩
                  have HC3 : Hid _ := h3
                  have HR3 : Hid _ := HRV.out.off o3 (fun e => by have e : q = b := e; exact HE.out.1 e.symm)
                  have HO3 : Hid (Off (fun _ => False) w v3) := HOV.out.trans o3 (fun i hi e => absurd hi (by have e : i = b := e; have := HE.out; omega))
                  clear h3 o3 HA HCV HRV HOV HV2
                  go_wp2_with fail
                  refine Calls.mono (len_any HC3.out) ?_
                  rw [HN2.out]
                  rintro e v4 ⟨rfl, hw⟩
                  rw [hw]
                  clear hw v4
                  go_wp2_with fail
                  refine Calls.mono (done_any HC3.out) ?_
                  rw [HN2.out, HM.out]
                  rintro e v4 ⟨rfl, k, hw⟩
                  have HC4 : Hid (Cnt b m (run B (i + 1)) v4) := by rw [hw]; exact HC3.out.drewN _
                  have HR4 : Hid (Cel q 25 #[.bool ((run B (i + 1)) 0), .bool ((run B (i + 1)) 1), .bool ((run B (i + 1)) 2), .bool ((run B (i + 1)) 3), .bool ((run B (i + 1)) 4), .bool ((run B (i + 1)) 5), .bool ((run B (i + 1)) 6), .bool ((run B (i + 1)) 7)] v4) := by rw [hw]; exact ⟨HR3.out.is⟩
                  have HO4 : Hid (Off (fun _ => False) w v4) := by rw [hw]; exact HO3.out.drewN _
                  clear hw HC3 HR3 HO3
                  go_wp2_with fail
                  refine Calls.mono (HH.out v4 HC4.out) ?_
                  rintro e v5 ⟨rfl, hw⟩
                  rw [hw]
                  clear hw v5
                  go_wp2_with fail
                  go_roundw
                  case rel => exact ⟨i + 1, N + 1, t, by go_num, by first | rfl | go_num, by first | rfl | go_num, HN2.out.symm, HT2.out, by omega, by omega, HC4.out, HR4.out, HO4.out⟩
                  case measure => simp [intOf]; omega
                · have HRV : Hid (Cel q 25 #[.bool ((run B (i + 1)) 0), .bool ((run B (i + 1)) 1), .bool ((run B (i + 1)) 2), .bool ((run B (i + 1)) 3), .bool ((run B (i + 1)) 4), .bool ((run B (i + 1)) 5), .bool ((run B (i + 1)) 6), .bool ((run B (i + 1)) 7)] (wr.setCell ⟨q, n, none⟩ (.bool true))) := by have := HR.out.set n (.bool true); rw [set8 (run B i) hn8] at this; rw [HRUN.out]; exact this
                  have HOV0 : Hid (Off (fun c => c = q) wr (wr.setCell ⟨q, n, none⟩ (.bool true))) := (Off.refl (fun c => c = q) wr).setCell (p := ⟨q, n, none⟩) (.inl rfl) _
                  have HOV : Hid (Off (fun _ => False) w (wr.setCell ⟨q, n, none⟩ (.bool true))) := HO.out.setCell (p := ⟨q, n, none⟩) (.inr HE.out.2.2) _
                  have HCV : Hid (Cnt b m (run B i) (wr.setCell ⟨q, n, none⟩ (.bool true))) := HC.out.off HOV0.out (fun e => by have e : b = q := e; exact HE.out.1 e)
                  have HA : Hid _ := add_any HCV.out
                  rw [HTT.out, HX.out] at HA
                  clear HOV0
                  generalize hv2 : wr.setCell ⟨q, n, none⟩ (.bool true) = v2 at HRV HOV HCV HA
                  have HV2 : Hid _ := hv2
                  clear hv2

                  clear HR HO HC
                  have hm2 : decide (m ≤ N + 1) = false := by exact decide_eq_false hM
                  have HM : Hid (decide (m ≤ N + 1) = false) := hm2
                  have HH : Hid (∀ V, Cnt b m (run B (i + 1)) V → _) := fun V (h : Cnt b m (run B (i + 1)) V) => has_any h (B i)
                  rw [HHS.out, HX.out] at HH
                  go_wp2_with fail
                  rw [HV2.out]
                  refine Calls.mono HA.out ?_
                  rintro e v3 ⟨rfl, h3, o3⟩
                  have HC3 : Hid _ := h3
                  have HR3 : Hid _ := HRV.out.off o3 (fun e => by have e : q = b := e; exact HE.out.1 e.symm)
                  have HO3 : Hid (Off (fun _ => False) w v3) := HOV.out.trans o3 (fun i hi e => absurd hi (by have e : i = b := e; have := HE.out; omega))
                  clear h3 o3 HA HCV HRV HOV HV2
                  go_wp2_with fail
                  refine Calls.mono (len_any HC3.out) ?_
                  rw [HN2.out]
                  rintro e v4 ⟨rfl, hw⟩
                  rw [hw]
                  clear hw v4
                  go_wp2_with fail
                  refine Calls.mono (done_any HC3.out) ?_
                  rw [HN2.out, HM.out]
                  rintro e v4 ⟨rfl, k, hw⟩
                  have HC4 : Hid (Cnt b m (run B (i + 1)) v4) := by rw [hw]; exact HC3.out.drewN _
                  have HR4 : Hid (Cel q 25 #[.bool ((run B (i + 1)) 0), .bool ((run B (i + 1)) 1), .bool ((run B (i + 1)) 2), .bool ((run B (i + 1)) 3), .bool ((run B (i + 1)) 4), .bool ((run B (i + 1)) 5), .bool ((run B (i + 1)) 6), .bool ((run B (i + 1)) 7)] v4) := by rw [hw]; exact ⟨HR3.out.is⟩
                  have HO4 : Hid (Off (fun _ => False) w v4) := by rw [hw]; exact HO3.out.drewN _
                  clear hw HC3 HR3 HO3
                  go_wp2_with fail
                  refine Calls.mono (HH.out v4 HC4.out) ?_
                  rintro e v5 ⟨rfl, hw⟩
                  rw [hw]
                  clear hw v5
                  go_wp2_with fail
                  go_roundw
                  case rel => exact ⟨i + 1, N + 1, t, by go_num, by first | rfl | go_num, by first | rfl | go_num, HN2.out.symm, HT2.out, by omega, by omega, HC4.out, HR4.out, HO4.out⟩
                  case measure => simp [intOf]; omega
          · obtain ⟨x, hx⟩ : ∃ x, x = B i := ⟨_, rfl⟩
            have HX : Hid (B i = x) := hx.symm
            have d1 : decide (x < 8) = false := decide_eq_false (by omega)
            have d0 : decide (0 ≤ x) = true := decide_eq_true (by omega)
            have hok : okN (B i) = false := by simp [okN]; omega
            have HRUN : Hid (run B (i + 1) = run B i) := no_run hok
            have HHS : Hid ((okN (B i) && run B (i + 1) (B i).toNat) = false) := by rw [hok]; rfl

            have HTT : Hid (tells m (run B i) (B i) = false) := by show _ = _; unfold tells; rw [hok]; rfl
            have HN2 : Hid ((cnt (run B (i + 1)) 8 : Int) = N) := by rw [HRUN.out]; exact HN.out.symm
            have HT2 : Hid (t = (tld m (cnt (run B (i + 1)) 8) : Int)) := by rw [HRUN.out]; exact HT.out
            clear hok
            rw [← hx] at c0
            clear hx hx0 hx8
            by_cases hM : m ≤ N
            · have HRV : Hid (Cel q 25 #[.bool ((run B (i + 1)) 0), .bool ((run B (i + 1)) 1), .bool ((run B (i + 1)) 2), .bool ((run B (i + 1)) 3), .bool ((run B (i + 1)) 4), .bool ((run B (i + 1)) 5), .bool ((run B (i + 1)) 6), .bool ((run B (i + 1)) 7)] wr) := by rw [HRUN.out]; exact HR.out
              have HOV : Hid (Off (fun _ => False) w wr) := HO.out
              have HCV : Hid (Cnt b m (run B i) wr) := HC.out
              have HA : Hid _ := add_any HCV.out
              rw [HTT.out, HX.out] at HA

              clear HR HO HC
              have hm2 : decide (m ≤ N) = true := by exact decide_eq_true hM
              have HM : Hid (decide (m ≤ N) = true) := hm2
              have HH : Hid (∀ V, Cnt b m (run B (i + 1)) V → _) := fun V (h : Cnt b m (run B (i + 1)) V) => has_any h (B i)
              rw [HHS.out, HX.out] at HH
              go_wp2_with fail

              refine Calls.mono HA.out ?_
              rintro e v3 ⟨rfl, h3, o3⟩
              have HC3 : Hid _ := h3
              have HR3 : Hid _ := HRV.out.off o3 (fun e => by have e : q = b := e; exact HE.out.1 e.symm)
              have HO3 : Hid (Off (fun _ => False) w v3) := HOV.out.trans o3 (fun i hi e => absurd hi (by have e : i = b := e; have := HE.out; omega))
              clear h3 o3 HA HCV HRV HOV 
              go_wp2_with fail
              refine Calls.mono (len_any HC3.out) ?_
              rw [HN2.out]
              rintro e v4 ⟨rfl, hw⟩
              rw [hw]
              clear hw v4
              go_wp2_with fail
              refine Calls.mono (done_any HC3.out) ?_
              rw [HN2.out, HM.out]
              rintro e v4 ⟨rfl, k, hw⟩
              have HC4 : Hid (Cnt b m (run B (i + 1)) v4) := by rw [hw]; exact HC3.out.drewN _
              have HR4 : Hid (Cel q 25 #[.bool ((run B (i + 1)) 0), .bool ((run B (i + 1)) 1), .bool ((run B (i + 1)) 2), .bool ((run B (i + 1)) 3), .bool ((run B (i + 1)) 4), .bool ((run B (i + 1)) 5), .bool ((run B (i + 1)) 6), .bool ((run B (i + 1)) 7)] v4) := by rw [hw]; exact ⟨HR3.out.is⟩
              have HO4 : Hid (Off (fun _ => False) w v4) := by rw [hw]; exact HO3.out.drewN _
              clear hw HC3 HR3 HO3
              go_wp2_with fail
              refine Calls.mono (HH.out v4 HC4.out) ?_
              rintro e v5 ⟨rfl, hw⟩
              rw [hw]
              clear hw v5
              go_wp2_with fail
              go_roundw
              case rel => exact ⟨i + 1, N, t, by go_num, by first | rfl | go_num, by first | rfl | go_num, HN2.out.symm, HT2.out, by omega, by omega, HC4.out, HR4.out, HO4.out⟩
              case measure => simp [intOf]; omega
            · have HRV : Hid (Cel q 25 #[.bool ((run B (i + 1)) 0), .bool ((run B (i + 1)) 1), .bool ((run B (i + 1)) 2), .bool ((run B (i + 1)) 3), .bool ((run B (i + 1)) 4), .bool ((run B (i + 1)) 5), .bool ((run B (i + 1)) 6), .bool ((run B (i + 1)) 7)] wr) := by rw [HRUN.out]; exact HR.out
              have HOV : Hid (Off (fun _ => False) w wr) := HO.out
              have HCV : Hid (Cnt b m (run B i) wr) := HC.out
              have HA : Hid _ := add_any HCV.out
              rw [HTT.out, HX.out] at HA

              clear HR HO HC
              have hm2 : decide (m ≤ N) = false := by exact decide_eq_false hM
              have HM : Hid (decide (m ≤ N) = false) := hm2
              have HH : Hid (∀ V, Cnt b m (run B (i + 1)) V → _) := fun V (h : Cnt b m (run B (i + 1)) V) => has_any h (B i)
              rw [HHS.out, HX.out] at HH
              go_wp2_with fail

              refine Calls.mono HA.out ?_
              rintro e v3 ⟨rfl, h3, o3⟩
              have HC3 : Hid _ := h3
              have HR3 : Hid _ := HRV.out.off o3 (fun e => by have e : q = b := e; exact HE.out.1 e.symm)
              have HO3 : Hid (Off (fun _ => False) w v3) := HOV.out.trans o3 (fun i hi e => absurd hi (by have e : i = b := e; have := HE.out; omega))
              clear h3 o3 HA HCV HRV HOV 
              go_wp2_with fail
              refine Calls.mono (len_any HC3.out) ?_
              rw [HN2.out]
              rintro e v4 ⟨rfl, hw⟩
              rw [hw]
              clear hw v4
              go_wp2_with fail
              refine Calls.mono (done_any HC3.out) ?_
              rw [HN2.out, HM.out]
              rintro e v4 ⟨rfl, k, hw⟩
              have HC4 : Hid (Cnt b m (run B (i + 1)) v4) := by rw [hw]; exact HC3.out.drewN _
              have HR4 : Hid (Cel q 25 #[.bool ((run B (i + 1)) 0), .bool ((run B (i + 1)) 1), .bool ((run B (i + 1)) 2), .bool ((run B (i + 1)) 3), .bool ((run B (i + 1)) 4), .bool ((run B (i + 1)) 5), .bool ((run B (i + 1)) 6), .bool ((run B (i + 1)) 7)] v4) := by rw [hw]; exact ⟨HR3.out.is⟩
              have HO4 : Hid (Off (fun _ => False) w v4) := by rw [hw]; exact HO3.out.drewN _
              clear hw HC3 HR3 HO3
              go_wp2_with fail
              refine Calls.mono (HH.out v4 HC4.out) ?_
              rintro e v5 ⟨rfl, hw⟩
              rw [hw]
              clear hw v5
              go_wp2_with fail
              go_roundw
              case rel => exact ⟨i + 1, N, t, by go_num, by first | rfl | go_num, by first | rfl | go_num, HN2.out.symm, HT2.out, by omega, by omega, HC4.out, HR4.out, HO4.out⟩
              case measure => simp [intOf]; omega
        · obtain ⟨x, hx⟩ : ∃ x, x = B i := ⟨_, rfl⟩
          have HX : Hid (B i = x) := hx.symm
          have d0 : decide (0 ≤ x) = false := decide_eq_false (by omega)
          have hok : okN (B i) = false := by simp [okN]; omega
          have HRUN : Hid (run B (i + 1) = run B i) := no_run hok
          have HHS : Hid ((okN (B i) && run B (i + 1) (B i).toNat) = false) := by rw [hok]; rfl

          have HTT : Hid (tells m (run B i) (B i) = false) := by show _ = _; unfold tells; rw [hok]; rfl
          have HN2 : Hid ((cnt (run B (i + 1)) 8 : Int) = N) := by rw [HRUN.out]; exact HN.out.symm
          have HT2 : Hid (t = (tld m (cnt (run B (i + 1)) 8) : Int)) := by rw [HRUN.out]; exact HT.out
          clear hok
          rw [← hx] at c0
          clear hx hx0
          by_cases hM : m ≤ N
          · have HRV : Hid (Cel q 25 #[.bool ((run B (i + 1)) 0), .bool ((run B (i + 1)) 1), .bool ((run B (i + 1)) 2), .bool ((run B (i + 1)) 3), .bool ((run B (i + 1)) 4), .bool ((run B (i + 1)) 5), .bool ((run B (i + 1)) 6), .bool ((run B (i + 1)) 7)] wr) := by rw [HRUN.out]; exact HR.out
            have HOV : Hid (Off (fun _ => False) w wr) := HO.out
            have HCV : Hid (Cnt b m (run B i) wr) := HC.out
            have HA : Hid _ := add_any HCV.out
            rw [HTT.out, HX.out] at HA

            clear HR HO HC
            have hm2 : decide (m ≤ N) = true := by exact decide_eq_true hM
            have HM : Hid (decide (m ≤ N) = true) := hm2
            have HH : Hid (∀ V, Cnt b m (run B (i + 1)) V → _) := fun V (h : Cnt b m (run B (i + 1)) V) => has_any h (B i)
            rw [HHS.out, HX.out] at HH
            go_wp2_with fail

            refine Calls.mono HA.out ?_
            rintro e v3 ⟨rfl, h3, o3⟩
            have HC3 : Hid _ := h3
            have HR3 : Hid _ := HRV.out.off o3 (fun e => by have e : q = b := e; exact HE.out.1 e.symm)
            have HO3 : Hid (Off (fun _ => False) w v3) := HOV.out.trans o3 (fun i hi e => absurd hi (by have e : i = b := e; have := HE.out; omega))
            clear h3 o3 HA HCV HRV HOV 
            go_wp2_with fail
            refine Calls.mono (len_any HC3.out) ?_
            rw [HN2.out]
            rintro e v4 ⟨rfl, hw⟩
            rw [hw]
            clear hw v4
            go_wp2_with fail
            refine Calls.mono (done_any HC3.out) ?_
            rw [HN2.out, HM.out]
            rintro e v4 ⟨rfl, k, hw⟩
            have HC4 : Hid (Cnt b m (run B (i + 1)) v4) := by rw [hw]; exact HC3.out.drewN _
            have HR4 : Hid (Cel q 25 #[.bool ((run B (i + 1)) 0), .bool ((run B (i + 1)) 1), .bool ((run B (i + 1)) 2), .bool ((run B (i + 1)) 3), .bool ((run B (i + 1)) 4), .bool ((run B (i + 1)) 5), .bool ((run B (i + 1)) 6), .bool ((run B (i + 1)) 7)] v4) := by rw [hw]; exact ⟨HR3.out.is⟩
            have HO4 : Hid (Off (fun _ => False) w v4) := by rw [hw]; exact HO3.out.drewN _
            clear hw HC3 HR3 HO3
            go_wp2_with fail
            refine Calls.mono (HH.out v4 HC4.out) ?_
            rintro e v5 ⟨rfl, hw⟩
            rw [hw]
            clear hw v5
            go_wp2_with fail
            go_roundw
            case rel => exact ⟨i + 1, N, t, by go_num, by first | rfl | go_num, by first | rfl | go_num, HN2.out.symm, HT2.out, by omega, by omega, HC4.out, HR4.out, HO4.out⟩
            case measure => simp [intOf]; omega
          · have HRV : Hid (Cel q 25 #[.bool ((run B (i + 1)) 0), .bool ((run B (i + 1)) 1), .bool ((run B (i + 1)) 2), .bool ((run B (i + 1)) 3), .bool ((run B (i + 1)) 4), .bool ((run B (i + 1)) 5), .bool ((run B (i + 1)) 6), .bool ((run B (i + 1)) 7)] wr) := by rw [HRUN.out]; exact HR.out
            have HOV : Hid (Off (fun _ => False) w wr) := HO.out
            have HCV : Hid (Cnt b m (run B i) wr) := HC.out
            have HA : Hid _ := add_any HCV.out
            rw [HTT.out, HX.out] at HA

            clear HR HO HC
            have hm2 : decide (m ≤ N) = false := by exact decide_eq_false hM
            have HM : Hid (decide (m ≤ N) = false) := hm2
            have HH : Hid (∀ V, Cnt b m (run B (i + 1)) V → _) := fun V (h : Cnt b m (run B (i + 1)) V) => has_any h (B i)
            rw [HHS.out, HX.out] at HH
            go_wp2_with fail

            refine Calls.mono HA.out ?_
            rintro e v3 ⟨rfl, h3, o3⟩
            have HC3 : Hid _ := h3
            have HR3 : Hid _ := HRV.out.off o3 (fun e => by have e : q = b := e; exact HE.out.1 e.symm)
            have HO3 : Hid (Off (fun _ => False) w v3) := HOV.out.trans o3 (fun i hi e => absurd hi (by have e : i = b := e; have := HE.out; omega))
            clear h3 o3 HA HCV HRV HOV 
            go_wp2_with fail
            refine Calls.mono (len_any HC3.out) ?_
            rw [HN2.out]
            rintro e v4 ⟨rfl, hw⟩
            rw [hw]
            clear hw v4
            go_wp2_with fail
            refine Calls.mono (done_any HC3.out) ?_
            rw [HN2.out, HM.out]
            rintro e v4 ⟨rfl, k, hw⟩
            have HC4 : Hid (Cnt b m (run B (i + 1)) v4) := by rw [hw]; exact HC3.out.drewN _
            have HR4 : Hid (Cel q 25 #[.bool ((run B (i + 1)) 0), .bool ((run B (i + 1)) 1), .bool ((run B (i + 1)) 2), .bool ((run B (i + 1)) 3), .bool ((run B (i + 1)) 4), .bool ((run B (i + 1)) 5), .bool ((run B (i + 1)) 6), .bool ((run B (i + 1)) 7)] v4) := by rw [hw]; exact ⟨HR3.out.is⟩
            have HO4 : Hid (Off (fun _ => False) w v4) := by rw [hw]; exact HO3.out.drewN _
            clear hw HC3 HR3 HO3
            go_wp2_with fail
            refine Calls.mono (HH.out v4 HC4.out) ?_
            rintro e v5 ⟨rfl, hw⟩
            rw [hw]
            clear hw v5
            go_wp2_with fail
            go_roundw
            case rel => exact ⟨i + 1, N, t, by go_num, by first | rfl | go_num, by first | rfl | go_num, HN2.out.symm, HT2.out, by omega, by omega, HC4.out, HR4.out, HO4.out⟩
            case measure => simp [intOf]; omega
    · have d9 : decide ((i : Int) < (len : Int)) = false := decide_eq_false (by omega)
      obtain ⟨g, hg⟩ : ∃ g, g = run B i := ⟨_, rfl⟩
      have HCT : Hid (Cnt b m g wr) := by rw [hg]; exact HC.out
      have HRT : Hid (Cel q 25 #[.bool (g 0), .bool (g 1), .bool (g 2), .bool (g 3), .bool (g 4), .bool (g 5), .bool (g 6), .bool (g 7)] wr) := by rw [hg]; exact HR.out
      have HOT : Hid (Off (fun _ => False) w wr) := HO.out
      clear HC HR HO hg HN HT
      go_wp2_with fail
      go_loopw [83] (fun s83 wr' => ∃ j : Nat, s83 = .int .i64 (j : Int) ∧ j ≤ 8 ∧ Cnt b m g wr' ∧ Cel q 25 #[.bool (g 0), .bool (g 1), .bool (g 2), .bool (g 3), .bool (g 4), .bool (g 5), .bool (g 6), .bool (g 7)] wr' ∧ Off (fun _ => False) w wr') (fun j _ => (8 - intOf j).toNat)
      case atStart => exact ⟨0, rfl, by omega, HCT.out, HRT.out, HOT.out⟩
      case round =>
        obtain ⟨j, rfl, hj, hc, hr, ho⟩ := hrel
        have HC5 : Hid _ := hc
        have HR5 : Hid _ := hr
        have HO5 : Hid _ := ho
        clear hc hr ho HCT HRT HOT
        by_cases hj8 : j < 8
        · have ca := at8 q hj8
          have cc := (HR5.out.cell j).trans (get8 g hj8)
          have d1 : decide ((j : Int) < 8) = true := decide_eq_true (by omega)
          have HG : Hid (∀ k, _) := fun k => has_at (HC5.out.drewN k) hj8
          obtain ⟨y, hy⟩ : ∃ y, y = g j := ⟨_, rfl⟩
          rw [← hy] at cc HG
          clear hy
          cases y
          · go_wp2_with fail
            go_quiet ((go_at_call 11; refine Calls.quiet_of_same (HG.out _)))
            go_wp2_with fail
            go_roundw
            case rel => exact ⟨j + 1, by go_num, by omega, HC5.out.drewN _, ⟨HR5.out.is⟩, HO5.out.drewN _⟩
            case measure => simp [intOf]; omega
          · go_wp2_with fail
            go_quiet ((go_at_call 11; refine Calls.quiet_of_same (HG.out _)))
            go_wp2_with fail
            go_roundw
            case rel => exact ⟨j + 1, by go_num, by omega, HC5.out.drewN _, ⟨HR5.out.is⟩, HO5.out.drewN _⟩
            case measure => simp [intOf]; omega
        · obtain rfl : j = 8 := by omega
          have d1 : decide (((8 : Nat) : Int) < 8) = false := rfl
          go_wp2_with fail
          refine Calls.mono (has_no (x := -1) rfl b _) ?_
          rintro e v5 ⟨rfl, hw⟩
          rw [hw]
          clear hw v5
          go_wp2_with fail
          refine Calls.mono (has_no (x := 8) rfl b _) ?_
          rintro e v5 ⟨rfl, hw⟩
          rw [hw]
          clear hw v5
          go_wp2_with fail
          refine Calls.mono (awake_any _) ?_
          rintro e v5 ⟨rfl, o5⟩
          have HO6 : Hid _ := HO5.out.trans o5 (fun _ _ h => h)
          clear o5
          go_wp2_with fail
          go_ret
          exact ⟨rfl, HO6.out⟩
end Go.Proofs.Ytapopmcdnpplbaa
