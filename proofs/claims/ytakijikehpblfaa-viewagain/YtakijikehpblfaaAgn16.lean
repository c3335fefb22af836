/- The walk of ViewAgain. -/
import Derived.Test.YtakijikehpblfaaTh2
import Derived.Test.YtakijikehpblfaaPly16
namespace Go.Proofs.Ytakijikehpblfaa
set_option maxRecDepth 100000
open Go.RowKit

set_option maxHeartbeats 4000000 in
theorem again_walk (q0 q1 : Int) (ad : Option Addr) (cap : Nat) (es : List C) (w : World) (_ : -9223372036854775808 ≤ q0 ∧ q0 ≤ 9223372036854775807) (_ : -9223372036854775808 ≤ q1 ∧ q1 ≤ 9223372036854775807) (hcs : Cas w ad cap es) :
    Calls Try.prog 8 #[.int .i64 q0, .int .i64 q1, .slice ad es.length cap] w fun e w' => e = .returned (.bool true) ∧ Off (fun _ => False) w w' := by
  have HCS : Hid _ := hcs
  have hel := hcs.len
  clear hcs
  have k0 : 0 ≤ (IntKind.u64.wrap q0).tmod 8 ∧ (IntKind.u64.wrap q0).tmod 8 < 8 := by
    have hnn : 0 ≤ IntKind.u64.wrap q0 := by rw [IntKind.wrap_u64]; omega
    rw [Int.tmod_eq_emod_of_nonneg hnn]
    exact ⟨Int.emod_nonneg _ (by omega), Int.emod_lt_of_pos _ (by omega)⟩
  obtain ⟨k7, ek⟩ := Int.eq_ofNat_of_zero_le k0.1
  have hk7 : k7 < 8 := by omega
  clear k0
  obtain ⟨n, hn⟩ : ∃ n : Nat, n = k7 + 1 := ⟨_, rfl⟩
  go_enter Try.func8, Try.ntmps8
  go_upto_region 2 with fail
  rw [show ((k7 : Int) + 1) = (n : Int) by omega]
  have hn1 : 1 ≤ n := by omega
  have hn8 : n ≤ 8 := by omega
  clear ek hk7 hn
  have r0 : 0 ≤ (IntKind.u64.wrap q1).tmod (n : Int) ∧ (IntKind.u64.wrap q1).tmod (n : Int) < (n : Int) := by
    have hnn : 0 ≤ IntKind.u64.wrap q1 := by rw [IntKind.wrap_u64]; omega
    rw [Int.tmod_eq_emod_of_nonneg hnn]
    exact ⟨Int.emod_nonneg _ (by omega), Int.emod_lt_of_pos _ (by omega)⟩
  obtain ⟨i, er⟩ := Int.eq_ofNat_of_zero_le r0.1
  have ew : IntKind.u64.wrap (n : Int) = (n : Int) := by rw [IntKind.wrap_u64]; omega
  have hi : i < n := by omega
  clear r0
  go_upto_region 3 with fail
  clear er ew
  have HI : Hid (i < n) := hi
  have HCL : Hid (clN (n : Int) = n) := by show _ = _; unfold clN; omega
  have HN1 : Hid _ := new_yes (q := (n : Int)) (i := i) (by rw [HCL.out]; exact hi) w
  have HN2 : Hid (∀ W, _) := fun W => rnew_yes (q := (n : Int)) (i := i) (by rw [HCL.out]; exact hi) W
  rw [HCL.out] at HN1 HN2
  clear hi HCL
  go_wp2_with fail
  refine Calls.mono HN1.out ?_
  rintro e0 w1 ⟨rfl, v1, o1⟩
  have HW1 : Hid (w.heap.size ≤ w1.heap.size) := o1.size
  generalize hp : w.heap.size = p at v1 ⊢
  have HPW : Hid (w.heap.size = p) := hp
  have HV1 : Hid _ := v1
  have HO1 : Hid _ := o1
  clear v1 o1 hp HN1
  go_wp2_with fail
  refine Calls.mono (HN2.out w1) ?_
  rintro e0 w2 ⟨q, a, b, c, rfl, r2, hnew, o2⟩
  have HV2 : Hid _ := HV1.out.off o2 (fun h => h)
  have HR2 : Hid _ := r2
  have HO2 : Hid _ := HO1.out.trans o2 (fun _ _ h => h)
  have HNW : Hid (w.heap.size ≤ p ∧ w.heap.size ≤ a ∧ w.heap.size ≤ b ∧ w.heap.size ≤ c) := by
    have h1 := HW1.out
    have h2 := HPW.out
    show _ ∧ _ ∧ _ ∧ _
    omega
  clear r2 hnew o2 HN2 HV1 HO1 HW1
  go_wp2_with fail
  go_loopw [9] (fun s9 wr => ∃ (j : Nat) (d e : VD), s9 = .int .i64 (j : Int) ∧ j ≤ es.length ∧ j ≤ 60 ∧ (d.n = n ∧ d.self = i) ∧ MayI d ∧ Rel d e (j : Int) ∧ Vw p d wr ∧ RVw q a b c e wr ∧ Off (fun _ => False) w wr) (fun i _ => ((es.length : Int) - intOf i).toNat)
  case atStart => exact ⟨0, d0 n i, d0 n i, rfl, by omega, by omega, ⟨rfl, rfl⟩, MayI.d0 n i, Rel.start HI.out, HV2.out, HR2.out, HO2.out⟩
  case round =>
    obtain ⟨j, d, e, rfl, hj, hj2, hdn, hmi, hrl, v, r, o⟩ := hrel
    clear HV2 HR2 HO2
    have HV : Hid _ := v
    have HR : Hid _ := r
    have HO : Hid _ := o
    have HRL : Hid _ := hrl
    have HMI : Hid (MayI d) := hmi
    have HDN : Hid (d.n = n ∧ d.self = i) := hdn
    clear v r o hrl hdn hmi
    by_cases hlt : j < es.length
    · by_cases h120 : 60 ≤ j
      · have t1 : decide ((j : Int) < 60) = false := decide_eq_false (by omega)
        have t2 : decide (j < 60) = false := decide_eq_false (by omega)
        have HD0 : Hid ((d.m d.self).1 = 0) := HRL.out.own
        have HB1 : Hid (joinB d (lsM d.m n) n = false) := by have h := join_all (d := d) (k := n) HD0.out; rw [HDN.out.1] at h; exact h
        have HB2 : Hid (joinB d (lsM (fun _ => (0, 0)) n) n = false) := by have h := join_zero (d := d) (k := n) HMI.out HD0.out; rw [HDN.out.1] at h; exact h
        have hmk := makeM n (by omega)
        have HA : Hid _ := all_any HV.out
        rw [HDN.out.1] at HA
        go_wp2_with fail
        refine Calls.mono HA.out ?_
        rintro e0 V1 ⟨rfl, m1, o1⟩
        have HC1 : Hid _ := join_row (some ⟨wr.heap.size, 0, none⟩) n (lsM d.m n) (m1.mls (by omega)) (fun _ e => by have := HV.out.lt; simp [blk] at e; omega) (HV.out.off o1 (fun h => h))
        rw [lsM_len, HB1.out, joinK_same HB1.out] at HC1
        have HO1 : Hid _ := HO.out.trans o1 (fun _ _ h => h)
        clear m1 o1 HA
        go_wp2_with fail
        refine Calls.mono HC1.out ?_
        rintro e0 V2 ⟨rfl, v2, o2⟩
        have HV2 : Hid _ := v2
        have HO2 : Hid _ := HO1.out.trans o2 (fun k hk e => absurd hk (by have e : k = p := e; have := HPW.out; omega))
        clear v2 o2 HC1
        have HM3 : Hid _ := MRow.new V2 n
        have HV3 : Hid _ := HV2.out.alloc (.cells (madeM n) 46)
        have HO3 : Hid _ := HO2.out.alloc (.cells (madeM n) 46)
        have HC2 : Hid _ := join_row (some ⟨V2.heap.size, 0, none⟩) n (lsM (fun _ => (0, 0)) n) (HM3.out.mls (by omega)) (fun _ e => by have := HV2.out.lt; simp [blk] at e; omega) HV3.out
        rw [lsM_len, HB2.out, joinK_same HB2.out] at HC2
        go_wp2_with fail
        refine Calls.mono HC2.out ?_
        rintro e0 V4 ⟨rfl, v4, o4⟩
        have HV4 : Hid _ := v4
        have HO4 : Hid _ := HO3.out.trans o4 (fun k hk e => absurd hk (by have e : k = p := e; have := HPW.out; omega))
        clear v4 o4 HC2
        have HC3 : Hid _ := join_row none 0 [] ⟨by simp, fun i x h => by simp at h⟩ (fun h => by simp at h) HV4.out
        go_wp2_with fail
        refine Calls.mono HC3.out ?_
        rintro e0 V5 ⟨rfl, v5, o5⟩
        have HO5 : Hid _ := HO4.out.trans o5 (fun k hk e => absurd hk (by have e : k = p := e; have := HPW.out; omega))
        clear v5 o5 HC3
        go_wp2_with fail
        refine (awake_any _).mono ?_
        rintro e0 wB ⟨rfl, oB⟩
        have HFC : Hid _ := HO5.out.trans oB (fun _ _ h => h)
        clear oB
        go_wp2_with fail
        go_ret
        exact ⟨rfl, HFC.out⟩
      · have t1 : decide ((j : Int) < 60) = true := decide_eq_true (by omega)
        have t2 : decide (j < 60) = true := decide_eq_true (by omega)
        obtain ⟨x, hx⟩ : ∃ x, es[j]? = some x := ⟨_, List.getElem?_eq_getElem hlt⟩
        obtain ⟨g, of, rfl, ⟨k0, k1, k2⟩, hml, hkl⟩ := HCS.out.at_ j x hx
        obtain ⟨k, node, la, lc, l⟩ := x
        simp only at k0 k1 k2 hml hkl
        have K0 : Hid _ := k0
        have K1 : Hid _ := k1
        have K2 : Hid _ := k2
        have HML : Hid _ := hml
        have HKL : Hid (∀ k, blk la = some k → 0 < l.length → k < w.heap.size) := hkl
        have HDO : Hid (∀ W, Vw p d W → RVw q a b c e W → Mls W la lc l → Calls Try.prog 12 #[.pointer (some ⟨p, 0, none⟩), .pointer (some ⟨q, 0, none⟩), .agg #[.int .i64 k, .int .i64 node, .slice la l.length lc]] W fun E w' => E = .returned (.bool true) ∧ Vw p (doD d ⟨k, node, la, lc, l⟩) w' ∧ RVw q a b c (doE e ⟨k, node, la, lc, l⟩) w' ∧ Off (fun k => k = p ∨ k = a ∨ k = b ∨ k = c) W w') := fun W hv hr hm =>
          do_any HRL.out (by omega) k node la lc l hm (fun hl => by
            have h := HNW.out
            refine ⟨fun e => ?_, fun e => ?_, fun e => ?_, fun e => ?_⟩ <;> (have := HKL.out _ e hl; omega)) hv hr
        have HRL1 : Hid _ := HRL.out.do_ ⟨k, node, la, lc, l⟩
        have HDN1 : Hid ((doD d ⟨k, node, la, lc, l⟩).n = n ∧ (doD d ⟨k, node, la, lc, l⟩).self = i) := ⟨(doD_n _ _).1.trans HDN.out.1, (doD_n _ _).2.trans HDN.out.2⟩
        have HMI1 : Hid (MayI (doD d ⟨k, node, la, lc, l⟩)) := MayI.do_ HMI.out ⟨k, node, la, lc, l⟩
        by_cases hk : k = 0
        · have HK : Hid (k = 0) := hk
          by_cases h20 : 20 < l.length
          · clear hml hkl hx hk
            generalize doD d ⟨k, node, la, lc, l⟩ = d1 at *
            generalize doE e ⟨k, node, la, lc, l⟩ = e1 at *
            replace k0 := HO.out.keep k0 (fun h => h)
            replace k1 := HO.out.keep k1 (fun h => h)
            replace k2 := HO.out.keep k2 (fun h => h)
            go_wp2_with fail
            refine (HDO.out _ HV.out HR.out (HML.out.offD HO.out (fun _ _ _ h => h))).mono ?_
            rintro e0 V1 ⟨rfl, v1, r1, o1⟩
            have HV1 : Hid _ := v1
            have HR1 : Hid _ := r1
            have HO1 : Hid (Off (fun _ => False) w V1) := HO.out.trans o1 (fun k hk e => by have h := HNW.out; omega)
            clear v1 r1 o1 HV HR k0 k1 k2
            have k0 := HO1.out.keep K0.out (fun h => h)
            have k2 := HO1.out.keep K2.out (fun h => h)
            rw [HK.out] at k0
            clear t1 t2
            go_wp2_with fail
            go_roundw
            case rel => exact ⟨j + 1, d1, e1, by go_num, by omega, by omega, HDN1.out, HMI1.out, HRL1.out.more (by omega), HV1.out, HR1.out, HO1.out⟩
            case measure => simp [intOf]; omega
          · by_cases hsl : i < l.length
            · clear hml hkl hx hk
              generalize doD d ⟨k, node, la, lc, l⟩ = d1 at *
              generalize doE e ⟨k, node, la, lc, l⟩ = e1 at *
              replace k0 := HO.out.keep k0 (fun h => h)
              replace k1 := HO.out.keep k1 (fun h => h)
              replace k2 := HO.out.keep k2 (fun h => h)
              go_wp2_with fail
              refine (HDO.out _ HV.out HR.out (HML.out.offD HO.out (fun _ _ _ h => h))).mono ?_
              rintro e0 V1 ⟨rfl, v1, r1, o1⟩
              have HV1 : Hid _ := v1
              have HR1 : Hid _ := r1
              have HO1 : Hid (Off (fun _ => False) w V1) := HO.out.trans o1 (fun k hk e => by have h := HNW.out; omega)
              clear v1 r1 o1 HV HR k0 k1 k2
              have k0 := HO1.out.keep K0.out (fun h => h)
              have k2 := HO1.out.keep K2.out (fun h => h)
              rw [HK.out] at k0
              clear t1 t2
              go_wp2_with fail
              go_roundw
              case rel => exact ⟨j + 1, d1, e1, by go_num, by omega, by omega, HDN1.out, HMI1.out, HRL1.out.more (by omega), HV1.out, HR1.out, HO1.out⟩
              case measure => simp [intOf]; omega
            · have HAG : Hid (joinB (doD d ⟨k, node, la, lc, l⟩) l l.length = false) := by
                show _ = _
                unfold doD
                rw [if_pos hk, if_neg h20]
                exact join_again (by rw [HDN.out.2]; show l.length ≤ i; omega)
              clear hml hkl hx hk
              generalize doD d ⟨k, node, la, lc, l⟩ = d1 at *
              generalize doE e ⟨k, node, la, lc, l⟩ = e1 at *
              replace k0 := HO.out.keep k0 (fun h => h)
              replace k1 := HO.out.keep k1 (fun h => h)
              replace k2 := HO.out.keep k2 (fun h => h)
              go_wp2_with fail
              refine (HDO.out _ HV.out HR.out (HML.out.offD HO.out (fun _ _ _ h => h))).mono ?_
              rintro e0 V1 ⟨rfl, v1, r1, o1⟩
              have HV1 : Hid _ := v1
              have HR1 : Hid _ := r1
              have HO1 : Hid (Off (fun _ => False) w V1) := HO.out.trans o1 (fun k hk e => by have h := HNW.out; omega)
              clear v1 r1 o1 HV HR k0 k1 k2
              have k0 := HO1.out.keep K0.out (fun h => h)
              have k2 := HO1.out.keep K2.out (fun h => h)
              rw [HK.out] at k0
              clear t1 t2
              have HJ : Hid _ := join_row la lc l (HML.out.offD HO1.out (fun _ _ _ h => h)) (fun hl e => by have := HKL.out _ e hl; have h := HNW.out; omega) HV1.out
              rw [HAG.out, joinK_same HAG.out] at HJ
              go_wp2_with fail
              refine Calls.mono HJ.out ?_
              rintro e0 V3 ⟨rfl, v3, o3⟩
              have HV3 : Hid _ := v3
              have HR3 : Hid _ := HR1.out.off o3 (by
                have h1 := HV1.out.cel.ne HR1.out.cel (by decide)
                obtain ⟨c1, k1, -⟩ := HR1.out.m.is
                obtain ⟨c2, k2, -⟩ := HR1.out.age.is
                obtain ⟨c3, k3, -⟩ := HR1.out.op.is
                exact ⟨h1.symm, (HV1.out.cel.ne k1 (by decide)).symm, (HV1.out.cel.ne k2 (by decide)).symm, (HV1.out.cel.ne k3 (by decide)).symm⟩)
              have HO3 : Hid _ := HO1.out.trans o3 (fun k hk e => absurd hk (by have e : k = p := e; have := HPW.out; omega))
              clear v3 o3 HJ
              go_wp2_with fail
              go_roundw
              case rel => exact ⟨j + 1, d1, e1, by go_num, by omega, by omega, HDN1.out, HMI1.out, HRL1.out.more (by omega), HV3.out, HR3.out, HO3.out⟩
              case measure => simp [intOf]; omega
        · clear hml hkl hx
          generalize doD d ⟨k, node, la, lc, l⟩ = d1 at *
          generalize doE e ⟨k, node, la, lc, l⟩ = e1 at *
          replace k0 := HO.out.keep k0 (fun h => h)
          replace k1 := HO.out.keep k1 (fun h => h)
          replace k2 := HO.out.keep k2 (fun h => h)
          go_wp2_with fail
          refine (HDO.out _ HV.out HR.out (HML.out.offD HO.out (fun _ _ _ h => h))).mono ?_
          rintro e0 V1 ⟨rfl, v1, r1, o1⟩
          have HV1 : Hid _ := v1
          have HR1 : Hid _ := r1
          have HO1 : Hid (Off (fun _ => False) w V1) := HO.out.trans o1 (fun k hk e => by have h := HNW.out; omega)
          clear v1 r1 o1 HV HR k0 k1 k2
          have k0 := HO1.out.keep K0.out (fun h => h)
          have k2 := HO1.out.keep K2.out (fun h => h)
          clear t1 t2
          go_wp2_with fail
          go_roundw
          case rel => exact ⟨j + 1, d1, e1, by go_num, by omega, by omega, HDN1.out, HMI1.out, HRL1.out.more (by omega), HV1.out, HR1.out, HO1.out⟩
          case measure => simp [intOf]; omega
    · obtain rfl : j = es.length := by omega
      have HD0 : Hid ((d.m d.self).1 = 0) := HRL.out.own
      have HB1 : Hid (joinB d (lsM d.m n) n = false) := by have h := join_all (d := d) (k := n) HD0.out; rw [HDN.out.1] at h; exact h
      have HB2 : Hid (joinB d (lsM (fun _ => (0, 0)) n) n = false) := by have h := join_zero (d := d) (k := n) HMI.out HD0.out; rw [HDN.out.1] at h; exact h
      have hmk := makeM n (by omega)
      have HA : Hid _ := all_any HV.out
      rw [HDN.out.1] at HA
      go_wp2_with fail
      refine Calls.mono HA.out ?_
      rintro e0 V1 ⟨rfl, m1, o1⟩
      have HC1 : Hid _ := join_row (some ⟨wr.heap.size, 0, none⟩) n (lsM d.m n) (m1.mls (by omega)) (fun _ e => by have := HV.out.lt; simp [blk] at e; omega) (HV.out.off o1 (fun h => h))
      rw [lsM_len, HB1.out, joinK_same HB1.out] at HC1
      have HO1 : Hid _ := HO.out.trans o1 (fun _ _ h => h)
      clear m1 o1 HA
      go_wp2_with fail
      refine Calls.mono HC1.out ?_
      rintro e0 V2 ⟨rfl, v2, o2⟩
      have HV2 : Hid _ := v2
      have HO2 : Hid _ := HO1.out.trans o2 (fun k hk e => absurd hk (by have e : k = p := e; have := HPW.out; omega))
      clear v2 o2 HC1
      have HM3 : Hid _ := MRow.new V2 n
      have HV3 : Hid _ := HV2.out.alloc (.cells (madeM n) 46)
      have HO3 : Hid _ := HO2.out.alloc (.cells (madeM n) 46)
      have HC2 : Hid _ := join_row (some ⟨V2.heap.size, 0, none⟩) n (lsM (fun _ => (0, 0)) n) (HM3.out.mls (by omega)) (fun _ e => by have := HV2.out.lt; simp [blk] at e; omega) HV3.out
      rw [lsM_len, HB2.out, joinK_same HB2.out] at HC2
      go_wp2_with fail
      refine Calls.mono HC2.out ?_
      rintro e0 V4 ⟨rfl, v4, o4⟩
      have HV4 : Hid _ := v4
      have HO4 : Hid _ := HO3.out.trans o4 (fun k hk e => absurd hk (by have e : k = p := e; have := HPW.out; omega))
      clear v4 o4 HC2
      have HC3 : Hid _ := join_row none 0 [] ⟨by simp, fun i x h => by simp at h⟩ (fun h => by simp at h) HV4.out
      go_wp2_with fail
      refine Calls.mono HC3.out ?_
      rintro e0 V5 ⟨rfl, v5, o5⟩
      have HO5 : Hid _ := HO4.out.trans o5 (fun k hk e => absurd hk (by have e : k = p := e; have := HPW.out; omega))
      clear v5 o5 HC3
      go_wp2_with fail
      refine (awake_any _).mono ?_
      rintro e0 wB ⟨rfl, oB⟩
      have HFC : Hid _ := HO5.out.trans oB (fun _ _ h => h)
      clear oB
      go_wp2_with fail
      go_ret
      exact ⟨rfl, HFC.out⟩
end Go.Proofs.Ytakijikehpblfaa
