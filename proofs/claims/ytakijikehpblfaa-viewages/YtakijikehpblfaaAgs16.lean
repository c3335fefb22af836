/- The walk of ViewAges. -/
import Derived.Test.YtakijikehpblfaaThv16
import Derived.Test.YtakijikehpblfaaVa16
namespace Go.Proofs.Ytakijikehpblfaa
set_option maxRecDepth 100000
open Go.RowKit

set_option maxHeartbeats 4000000 in
theorem ages_walk (q0 q1 q2 : Int) (ms mi : Int) (w : World) (_ : -9223372036854775808 ≤ q0 ∧ q0 ≤ 9223372036854775807) (_ : -9223372036854775808 ≤ q1 ∧ q1 ≤ 9223372036854775807) (_ : -9223372036854775808 ≤ q2 ∧ q2 ≤ 9223372036854775807) :
    Calls Try.prog 6 #[.int .i64 q0, .int .i64 q1, .int .i64 q2, .agg #[.int .i64 ms, .int .i64 mi]] w fun e w' => e = .returned (.bool true) ∧ Off (fun _ => False) w w' := by
  have HAW : Hid _ := awake_any
  have k0 : 0 ≤ (IntKind.u64.wrap q0).tmod 7 ∧ (IntKind.u64.wrap q0).tmod 7 < 7 := by
    have hnn : 0 ≤ IntKind.u64.wrap q0 := by rw [IntKind.wrap_u64]; omega
    rw [Int.tmod_eq_emod_of_nonneg hnn]
    exact ⟨Int.emod_nonneg _ (by omega), Int.emod_lt_of_pos _ (by omega)⟩
  obtain ⟨k7, ek⟩ := Int.eq_ofNat_of_zero_le k0.1
  have hk7 : k7 < 7 := by omega
  clear k0
  obtain ⟨n, hn⟩ : ∃ n : Nat, n = k7 + 2 := ⟨_, rfl⟩
  go_enter Try.func6, Try.ntmps6
  go_upto_region 2 with fail
  rw [show ((k7 : Int) + 2) = (n : Int) by omega]
  have hn2 : 2 ≤ n := by omega
  have hn8 : n ≤ 8 := by omega
  clear ek hk7 hn
  have r0 : 0 ≤ (IntKind.u64.wrap q1).tmod ((n : Int) - 1) ∧ (IntKind.u64.wrap q1).tmod ((n : Int) - 1) < ((n : Int) - 1) := by
    have hnn : 0 ≤ IntKind.u64.wrap q1 := by rw [IntKind.wrap_u64]; omega
    rw [Int.tmod_eq_emod_of_nonneg hnn]
    exact ⟨Int.emod_nonneg _ (by omega), Int.emod_lt_of_pos _ (by omega)⟩
  obtain ⟨r, er⟩ := Int.eq_ofNat_of_zero_le r0.1
  have ew : IntKind.u64.wrap ((n : Int) - 1) = (n : Int) - 1 := by rw [IntKind.wrap_u64]; omega
  have hr : r + 1 < n := by omega
  clear r0
  obtain ⟨node, hnode⟩ : ∃ node : Nat, node = r + 1 := ⟨_, rfl⟩
  go_upto_region 3 with fail
  rw [show ((1 : Int) + (r : Int)) = (node : Int) by omega]
  have hnp : 0 < node := by omega
  have hnn : node < n := by omega
  clear er ew hr hnode
  have t0 : 0 ≤ (IntKind.u64.wrap q2).tmod 9 ∧ (IntKind.u64.wrap q2).tmod 9 < 9 := by
    have hnn : 0 ≤ IntKind.u64.wrap q2 := by rw [IntKind.wrap_u64]; omega
    rw [Int.tmod_eq_emod_of_nonneg hnn]
    exact ⟨Int.emod_nonneg _ (by omega), Int.emod_lt_of_pos _ (by omega)⟩
  obtain ⟨t, et⟩ := Int.eq_ofNat_of_zero_le t0.1
  have ht : t < 9 := by omega
  clear t0
  go_upto_region 4 with fail
  clear et
  generalize hW : w.alloc (.cells #[.int .i64 ms, .int .i64 mi] 46) = W
  have HB0 : Hid (Cel w.heap.size 46 #[.int .i64 ms, .int .i64 mi] W) := by rw [← hW]; exact Cel.new w _ _
  have HO0 : Hid (Off (fun _ => False) w W) := by rw [← hW]; exact (Off.refl _ w).alloc _
  clear hW
  have y0 : 0 ≤ (IntKind.u64.wrap mi).tmod 1000 ∧ (IntKind.u64.wrap mi).tmod 1000 < 1000 := by
    have hnn : 0 ≤ IntKind.u64.wrap mi := by rw [IntKind.wrap_u64]; omega
    rw [Int.tmod_eq_emod_of_nonneg hnn]
    exact ⟨Int.emod_nonneg _ (by omega), Int.emod_lt_of_pos _ (by omega)⟩
  obtain ⟨y, ey⟩ := Int.eq_ofNat_of_zero_le y0.1
  have hy : y < 1000 := by omega
  clear y0
  have HCL : Hid (clN (n : Int) = n) := by show _ = _; unfold clN; omega
  have HN : Hid _ := new_yes (q := (n : Int)) (i := 0) (by rw [HCL.out]; omega) W
  rw [HCL.out] at HN
  have hmk := makeM n (by omega)
  go_wp2_with fail
  refine Calls.mono HN.out ?_
  rintro e w1 ⟨rfl, v1, o1⟩
  have HPW : Hid (w.heap.size ≤ W.heap.size) := HO0.out.size
  have HBP : Hid (w.heap.size ≠ W.heap.size) := by show _ ≠ _; have := HB0.out.lt; omega
  generalize W.heap.size = p at *
  have HSU : Hid _ := Sole.sus (n := n) hnp hnn
  have HC0 : Hid _ := suspect_any (node : Int) v1
  rw [HSU.out.1] at HC0
  have HO1 : Hid _ := HO0.out.trans o1 (fun _ _ h => h)
  have HB1 : Hid _ := HB0.out.off o1 (fun h => h)
  have HS1 : Hid _ := HSU.out.2
  clear v1 o1 HN HSU HO0 HB0
  generalize susD (d0 n 0) (node : Int) = D0 at *
  go_wp2_with fail
  refine Calls.mono HC0.out ?_
  rintro e w2 ⟨rfl, v2, o2⟩
  have HC1 : Hid _ := suspect_any (node : Int) v2
  rw [HS1.out.again] at HC1
  have HAG : Hid (susD D0 (node : Int) = D0) := if_neg (by rw [HS1.out.again]; simp)
  rw [HAG.out] at HC1
  have HO2 : Hid _ := HO1.out.trans o2 (fun k hk e => absurd hk (by have e : k = p := e; have := HPW.out; omega))
  have HB2 : Hid _ := HB1.out.off o2 HBP.out
  clear v2 o2 HC0 HO1 HB1
  go_wp2_with fail
  refine Calls.mono HC1.out ?_
  rintro e w3 ⟨rfl, v3, o3⟩
  have HV3 : Hid _ := v3
  have HO3 : Hid _ := HO2.out.trans o3 (fun k hk e => absurd hk (by have e : k = p := e; have := HPW.out; omega))
  have HB3 : Hid _ := HB2.out.off o3 HBP.out
  clear v3 o3 HC1 HO2 HB2 HAG
  go_wp2_with fail
  go_loopw [40] (fun s40 wr => ∃ k : Nat, s40 = .int .i64 (k : Int) ∧ k ≤ t ∧ Vw p (tks D0 k) wr ∧ Off (fun _ => False) w wr ∧ Cel w.heap.size 46 #[.int .i64 ms, .int .i64 mi] wr) (fun i _ => ((t : Int) - intOf i).toNat)
  case atStart => exact ⟨0, rfl, by omega, HV3.out, HO3.out, HB3.out⟩
  case round =>
    obtain ⟨k, rfl, hk, v, o, b⟩ := hrel
    clear HV3 HO3 HB3
    have HV : Hid _ := v
    have HO : Hid _ := o
    have HB : Hid _ := b
    clear v o b
    by_cases hlt : k < t
    · have HC : Hid _ := tick_any (HS1.out.inv.tks k).few HV.out
      go_wp2_with fail
      refine Calls.mono HC.out ?_
      rintro e w4 ⟨rfl, v4, o4⟩
      have HV4 : Hid (Vw p (tks D0 (k + 1)) w4) := v4
      have HO4 : Hid _ := HO.out.trans o4 (fun k hk e => absurd hk (by have e : k = p := e; have := HPW.out; omega))
      have HB4 : Hid _ := HB.out.off o4 HBP.out
      clear v4 o4
      go_wp2_with fail
      go_roundw
      case rel => exact ⟨k + 1, by go_num, by omega, HV4.out, HO4.out, HB4.out⟩
      case measure => simp [intOf]; omega
    · obtain rfl : k = t := by omega
      have HS : Hid _ := HS1.out.tks k
      clear HS1 hk
      generalize tks D0 k = D at *
      by_cases h6 : k < 6
      · rw [if_pos h6, if_pos h6] at HS
        have HST : Hid (∀ W, Vw p D W → Calls Try.prog 13 #[.pointer (some ⟨p, 0, none⟩), .int .i64 (node : Int)] W fun e w' => e = .returned (.int .i64 1) ∧ w' = W) := fun W h => by
          have h := state_any (node : Int) h
          rw [hasB_nat, HS.out.nn, decide_eq_true HS.out.lt, if_pos rfl, Int.toNat_natCast, HS.out.at_] at h
          exact h
        have HC1 : Hid _ := HST.out _ HV.out
        clear HST
        go_wp2_with fail
        refine Calls.mono (HC1.out) ?_
        rintro e w3 ⟨rfl, hw⟩
        rw [hw]
        clear hw w3
        go_wp2_with fail
        refine Calls.mono (HC1.out) ?_
        rintro e w3 ⟨rfl, hw⟩
        rw [hw]
        clear hw w3
        go_upto_region 14 with fail
        obtain ⟨V, hV⟩ : ∃ V, V = wr.alloc (.cells (madeM n) 46) := ⟨_, rfl⟩
        rw [← hV]
        have HR : Hid (MRow wr.heap.size n (fun _ => (0, 0)) V) := by rw [hV]; exact MRow.new wr n
        have HVV : Hid (Vw p D V) := by rw [hV]; exact HV.out.alloc _
        have HOV : Hid (Off (fun _ => False) w V) := by rw [hV]; exact HO.out.alloc _
        have HBV : Hid (Cel w.heap.size 46 #[.int .i64 ms, .int .i64 mi] V) := by rw [hV]; exact HB.out.alloc _
        have HQP : Hid (¬ wr.heap.size = p) := by show ¬ _; have := HV.out.lt; omega
        have HQW : Hid (w.heap.size ≤ wr.heap.size) := HO.out.size
        clear hV hmk HV HO HB HC1
        generalize wr.heap.size = q at *
        have b1 : V.cell? ⟨w.heap.size, 1, none⟩ = some (.int .i64 mi) := HBV.out.cell 1
        have y0 := HR.out.m0 hnn
        have y1 := HR.out.m1 hnn
        have fr := HR.out.free
        go_upto_region 15 with fail
        have HR2 : Hid (MRow q n (upd (fun _ => (0, 0)) node (0, 1 + (y : Int))) ((V.setCell ⟨q, node * 2, none⟩ (.int .i64 0)).setCell ⟨q, node * 2 + 1, none⟩ (.int .i64 (1 + (y : Int))))) := HR.out.set node hnn (0, 1 + (y : Int))
        generalize hV2 : (V.setCell ⟨q, node * 2, none⟩ (.int .i64 0)).setCell ⟨q, node * 2 + 1, none⟩ (.int .i64 (1 + (y : Int))) = V2 at HR2 ⊢
        have HVV2 : Hid (Vw p D V2) := by rw [← hV2]; exact HVV.out.off (((Off.refl (fun c => c = q) V).setCell (.inl rfl) _).setCell (.inl rfl) _) (fun e => HQP.out e.symm)
        have HOV2 : Hid (Off (fun _ => False) w V2) := by rw [← hV2]; exact (HOV.out.setCell (.inr HQW.out) _).setCell (.inr HQW.out) _
        clear hV2 b1 y0 y1 fr HVV HOV HBV HR
        obtain ⟨l, hl⟩ : ∃ l : List Mb, l = lsM (upd (fun _ => (0, 0)) node (0, 1 + (y : Int))) n := ⟨_, rfl⟩
        have HJ : Hid (joinB D l n = true ∧ Sole (joinK D l n) n node 0 (1 + (y : Int)) 0) := HS.out.told (by omega) hl
        have HC2 : Hid _ := join_row (some ⟨q, 0, none⟩) n l (by rw [hl]; exact HR2.out.mls (by omega)) (fun _ e => HQP.out (by simpa [blk] using e)) HVV2.out
        rw [show l.length = n by rw [hl, lsM_len]] at HC2
        rw [HJ.out.1] at HC2
        have HS2 : Hid _ := HJ.out.2
        clear HJ hl HS HVV2 HR2
        generalize joinK D l n = E at *
        go_wp2_with fail
        refine Calls.mono HC2.out ?_
        rintro e w4 ⟨rfl, v4, o4⟩
        have HV4 : Hid _ := v4
        have HO4 : Hid _ := HOV2.out.trans o4 (fun k hk e => absurd hk (by have e : k = p := e; have := HPW.out; omega))
        clear v4 o4 HC2 HOV2
        have HS3 : Hid (∀ W D a, Sole D n node 0 (1 + (y : Int)) a → Vw p D W → Calls Try.prog 13 #[.pointer (some ⟨p, 0, none⟩), .int .i64 (node : Int)] W fun e w' => e = .returned (.int .i64 0) ∧ w' = W) := fun W D a hs h => by
          have h := state_any (node : Int) h
          rw [hasB_nat, hs.nn, decide_eq_true hs.lt, if_pos rfl, Int.toNat_natCast, hs.at_] at h
          exact h
        have HC3 : Hid _ := HS3.out _ _ _ HS2.out HV4.out
        go_wp2_with fail
        refine Calls.mono (HC3.out) ?_
        rintro e w5 ⟨rfl, hw⟩
        rw [hw]
        clear hw w5
        clear HC3
        go_wp2_with fail
        go_loopw [80] (fun s80 wx => ∃ (k : Nat) (F : VD), s80 = .int .i64 (k : Int) ∧ k ≤ 20 ∧ Sole F n node 0 (1 + (y : Int)) 0 ∧ Vw p F wx ∧ Off (fun _ => False) w wx) (fun i _ => ((20 : Int) - intOf i).toNat)
        case atStart => exact ⟨0, E, rfl, by omega, HS2.out, HV4.out, HO4.out⟩
        case round =>
          obtain ⟨k, F, rfl, hk, so, v, o⟩ := hrel
          clear HS2 HV4 HO4
          have HS2 : Hid _ := so
          have HV : Hid _ := v
          have HO : Hid _ := o
          clear so v o
          by_cases hlt : k < 20
          · have HC : Hid _ := tick_any HS2.out.inv.few HV.out
            have HA : Hid _ := HS2.out.alive
            rw [HS2.out.nn, HA.out.1] at HC
            go_wp2_with fail
            refine Calls.mono HC.out ?_
            rintro e w6 ⟨rfl, v6, o6⟩
            have HV6 : Hid _ := v6
            have HO6 : Hid _ := HO.out.trans o6 (fun k hk e => absurd hk (by have e : k = p := e; have := HPW.out; omega))
            clear v6 o6
            go_wp2_with fail
            go_roundw
            case rel => exact ⟨k + 1, _, by go_num, by omega, HA.out.2, HV6.out, HO6.out⟩
            case measure => simp [intOf]; omega
          · have HC3 : Hid _ := HS3.out _ _ _ HS2.out HV.out
            go_wp2_with fail
            refine Calls.mono (HC3.out) ?_
            rintro e w5 ⟨rfl, hw⟩
            rw [hw]
            clear hw w5
            go_wp2_with fail
            refine Calls.mono (HAW.out _) ?_
            rintro e wB ⟨rfl, oB⟩
            have HFC : Hid _ := HO.out.trans oB (fun _ _ h => h)
            clear oB
            go_wp2_with fail
            go_ret
            exact ⟨rfl, HFC.out⟩
      · rw [if_neg h6, if_neg h6] at HS
        have HST : Hid (∀ W, Vw p D W → Calls Try.prog 13 #[.pointer (some ⟨p, 0, none⟩), .int .i64 (node : Int)] W fun e w' => e = .returned (.int .i64 2) ∧ w' = W) := fun W h => by
          have h := state_any (node : Int) h
          rw [hasB_nat, HS.out.nn, decide_eq_true HS.out.lt, if_pos rfl, Int.toNat_natCast, HS.out.at_] at h
          exact h
        have HC1 : Hid _ := HST.out _ HV.out
        clear HST
        go_wp2_with fail
        refine Calls.mono (HC1.out) ?_
        rintro e w3 ⟨rfl, hw⟩
        rw [hw]
        clear hw w3
        go_wp2_with fail
        refine Calls.mono (HC1.out) ?_
        rintro e w3 ⟨rfl, hw⟩
        rw [hw]
        clear hw w3
        go_upto_region 14 with fail
        obtain ⟨V, hV⟩ : ∃ V, V = wr.alloc (.cells (madeM n) 46) := ⟨_, rfl⟩
        rw [← hV]
        have HR : Hid (MRow wr.heap.size n (fun _ => (0, 0)) V) := by rw [hV]; exact MRow.new wr n
        have HVV : Hid (Vw p D V) := by rw [hV]; exact HV.out.alloc _
        have HOV : Hid (Off (fun _ => False) w V) := by rw [hV]; exact HO.out.alloc _
        have HBV : Hid (Cel w.heap.size 46 #[.int .i64 ms, .int .i64 mi] V) := by rw [hV]; exact HB.out.alloc _
        have HQP : Hid (¬ wr.heap.size = p) := by show ¬ _; have := HV.out.lt; omega
        have HQW : Hid (w.heap.size ≤ wr.heap.size) := HO.out.size
        clear hV hmk HV HO HB HC1
        generalize wr.heap.size = q at *
        have b1 : V.cell? ⟨w.heap.size, 1, none⟩ = some (.int .i64 mi) := HBV.out.cell 1
        have y0 := HR.out.m0 hnn
        have y1 := HR.out.m1 hnn
        have fr := HR.out.free
        go_upto_region 15 with fail
        have HR2 : Hid (MRow q n (upd (fun _ => (0, 0)) node (0, 1 + (y : Int))) ((V.setCell ⟨q, node * 2, none⟩ (.int .i64 0)).setCell ⟨q, node * 2 + 1, none⟩ (.int .i64 (1 + (y : Int))))) := HR.out.set node hnn (0, 1 + (y : Int))
        generalize hV2 : (V.setCell ⟨q, node * 2, none⟩ (.int .i64 0)).setCell ⟨q, node * 2 + 1, none⟩ (.int .i64 (1 + (y : Int))) = V2 at HR2 ⊢
        have HVV2 : Hid (Vw p D V2) := by rw [← hV2]; exact HVV.out.off (((Off.refl (fun c => c = q) V).setCell (.inl rfl) _).setCell (.inl rfl) _) (fun e => HQP.out e.symm)
        have HOV2 : Hid (Off (fun _ => False) w V2) := by rw [← hV2]; exact (HOV.out.setCell (.inr HQW.out) _).setCell (.inr HQW.out) _
        clear hV2 b1 y0 y1 fr HVV HOV HBV HR
        obtain ⟨l, hl⟩ : ∃ l : List Mb, l = lsM (upd (fun _ => (0, 0)) node (0, 1 + (y : Int))) n := ⟨_, rfl⟩
        have HJ : Hid (joinB D l n = true ∧ Sole (joinK D l n) n node 0 (1 + (y : Int)) 0) := HS.out.told (by omega) hl
        have HC2 : Hid _ := join_row (some ⟨q, 0, none⟩) n l (by rw [hl]; exact HR2.out.mls (by omega)) (fun _ e => HQP.out (by simpa [blk] using e)) HVV2.out
        rw [show l.length = n by rw [hl, lsM_len]] at HC2
        rw [HJ.out.1] at HC2
        have HS2 : Hid _ := HJ.out.2
        clear HJ hl HS HVV2 HR2
        generalize joinK D l n = E at *
        go_wp2_with fail
        refine Calls.mono HC2.out ?_
        rintro e w4 ⟨rfl, v4, o4⟩
        have HV4 : Hid _ := v4
        have HO4 : Hid _ := HOV2.out.trans o4 (fun k hk e => absurd hk (by have e : k = p := e; have := HPW.out; omega))
        clear v4 o4 HC2 HOV2
        have HS3 : Hid (∀ W D a, Sole D n node 0 (1 + (y : Int)) a → Vw p D W → Calls Try.prog 13 #[.pointer (some ⟨p, 0, none⟩), .int .i64 (node : Int)] W fun e w' => e = .returned (.int .i64 0) ∧ w' = W) := fun W D a hs h => by
          have h := state_any (node : Int) h
          rw [hasB_nat, hs.nn, decide_eq_true hs.lt, if_pos rfl, Int.toNat_natCast, hs.at_] at h
          exact h
        have HC3 : Hid _ := HS3.out _ _ _ HS2.out HV4.out
        go_wp2_with fail
        refine Calls.mono (HC3.out) ?_
        rintro e w5 ⟨rfl, hw⟩
        rw [hw]
        clear hw w5
        clear HC3
        go_wp2_with fail
        go_loopw [80] (fun s80 wx => ∃ (k : Nat) (F : VD), s80 = .int .i64 (k : Int) ∧ k ≤ 20 ∧ Sole F n node 0 (1 + (y : Int)) 0 ∧ Vw p F wx ∧ Off (fun _ => False) w wx) (fun i _ => ((20 : Int) - intOf i).toNat)
        case atStart => exact ⟨0, E, rfl, by omega, HS2.out, HV4.out, HO4.out⟩
        case round =>
          obtain ⟨k, F, rfl, hk, so, v, o⟩ := hrel
          clear HS2 HV4 HO4
          have HS2 : Hid _ := so
          have HV : Hid _ := v
          have HO : Hid _ := o
          clear so v o
          by_cases hlt : k < 20
          · have HC : Hid _ := tick_any HS2.out.inv.few HV.out
            have HA : Hid _ := HS2.out.alive
            rw [HS2.out.nn, HA.out.1] at HC
            go_wp2_with fail
            refine Calls.mono HC.out ?_
            rintro e w6 ⟨rfl, v6, o6⟩
            have HV6 : Hid _ := v6
            have HO6 : Hid _ := HO.out.trans o6 (fun k hk e => absurd hk (by have e : k = p := e; have := HPW.out; omega))
            clear v6 o6
            go_wp2_with fail
            go_roundw
            case rel => exact ⟨k + 1, _, by go_num, by omega, HA.out.2, HV6.out, HO6.out⟩
            case measure => simp [intOf]; omega
          · have HC3 : Hid _ := HS3.out _ _ _ HS2.out HV.out
            go_wp2_with fail
            refine Calls.mono (HC3.out) ?_
            rintro e w5 ⟨rfl, hw⟩
            rw [hw]
            clear hw w5
            go_wp2_with fail
            refine Calls.mono (HAW.out _) ?_
            rintro e wB ⟨rfl, oB⟩
            have HFC : Hid _ := HO.out.trans oB (fun _ _ h => h)
            clear oB
            go_wp2_with fail
            go_ret
            exact ⟨rfl, HFC.out⟩
end Go.Proofs.Ytakijikehpblfaa
