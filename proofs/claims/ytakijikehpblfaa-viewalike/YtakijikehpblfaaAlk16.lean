/- The walk of ViewAlike. -/
import Derived.Test.YtakijikehpblfaaTh2
import Derived.Test.YtakijikehpblfaaPly16
namespace Go.Proofs.Ytakijikehpblfaa
set_option maxRecDepth 100000
open Go.RowKit

set_option maxHeartbeats 8000000 in
theorem alike_walk (q0 : Int) (ad1 : Option Addr) (cap1 : Nat) (es1 : List C) (ad2 : Option Addr) (cap2 : Nat) (es2 : List C) (w : World) (_ : -9223372036854775808 ≤ q0 ∧ q0 ≤ 9223372036854775807) (hcs1 : Cas w ad1 cap1 es1) (hcs2 : Cas w ad2 cap2 es2) :
    Calls Try.prog 7 #[.int .i64 q0, .slice ad1 es1.length cap1, .slice ad2 es2.length cap2] w fun e w' => e = .returned (.bool true) ∧ Off (fun _ => False) w w' := by
  have HCS1 : Hid _ := hcs1
  have HCS2 : Hid _ := hcs2
  have hel1 := hcs1.len
  have hel2 := hcs2.len
  clear hcs1 hcs2
  have k0 : 0 ≤ (IntKind.u64.wrap q0).tmod 7 ∧ (IntKind.u64.wrap q0).tmod 7 < 7 := by
    have hnn : 0 ≤ IntKind.u64.wrap q0 := by rw [IntKind.wrap_u64]; omega
    rw [Int.tmod_eq_emod_of_nonneg hnn]
    exact ⟨Int.emod_nonneg _ (by omega), Int.emod_lt_of_pos _ (by omega)⟩
  obtain ⟨k7, ek⟩ := Int.eq_ofNat_of_zero_le k0.1
  have hk7 : k7 < 7 := by omega
  clear k0
  obtain ⟨n, hn⟩ : ∃ n : Nat, n = k7 + 2 := ⟨_, rfl⟩
  go_enter Try.func7, Try.ntmps7
  go_upto_region 2 with fail
  rw [show ((k7 : Int) + 2) = (n : Int) by omega]
  have hn2 : 2 ≤ n := by omega
  have hn8 : n ≤ 8 := by omega
  clear ek hk7 hn
  have HCL : Hid (clN (n : Int) = n) := by show _ = _; unfold clN; omega
  have HN1 : Hid (Calls Try.prog 9 #[.int .i64 (n : Int), .int .i64 0] w fun e w' => e = .returned (.pointer (some ⟨w.heap.size, 0, none⟩)) ∧ Vw w.heap.size (d0 n 0) w' ∧ Off (fun _ => False) w w') := by
    have h := new_yes (q := (n : Int)) (i := 0) (by rw [HCL.out]; omega) w
    rw [HCL.out] at h
    exact h
  have HN2 : Hid (∀ w, Calls Try.prog 9 #[.int .i64 (n : Int), .int .i64 1] w fun e w' => e = .returned (.pointer (some ⟨w.heap.size, 0, none⟩)) ∧ Vw w.heap.size (d0 n 1) w' ∧ Off (fun _ => False) w w') := fun w => by
    have h := new_yes (q := (n : Int)) (i := 1) (by rw [HCL.out]; omega) w
    rw [HCL.out] at h
    exact h
  have HN3 : Hid (∀ w, Calls Try.prog 10 #[.int .i64 (n : Int), .int .i64 0] w fun e w' => ∃ Q a b c, e = .returned (.pointer (some ⟨Q, 0, none⟩)) ∧ RVw Q a b c (d0 n 0) w' ∧ (w.heap.size ≤ Q ∧ w.heap.size ≤ a ∧ w.heap.size ≤ b ∧ w.heap.size ≤ c) ∧ Off (fun _ => False) w w') := fun w => by
    have h := rnew_yes (q := (n : Int)) (i := 0) (by rw [HCL.out]; omega) w
    rw [HCL.out] at h
    exact h
  have HN4 : Hid (∀ w, Calls Try.prog 10 #[.int .i64 (n : Int), .int .i64 1] w fun e w' => ∃ Q a b c, e = .returned (.pointer (some ⟨Q, 0, none⟩)) ∧ RVw Q a b c (d0 n 1) w' ∧ (w.heap.size ≤ Q ∧ w.heap.size ≤ a ∧ w.heap.size ≤ b ∧ w.heap.size ≤ c) ∧ Off (fun _ => False) w w') := fun w => by
    have h := rnew_yes (q := (n : Int)) (i := 1) (by rw [HCL.out]; omega) w
    rw [HCL.out] at h
    exact h
  go_wp2_with fail
  refine Calls.mono HN1.out ?_
  rintro e0 w1 ⟨rfl, v1, o1⟩
  have HW1 : Hid (w.heap.size < w1.heap.size) := v1.lt
  generalize hp : w.heap.size = p1 at v1 ⊢
  have HPW1 : Hid (w.heap.size = p1) := hp
  have HA : Hid _ := v1
  have HOA : Hid _ := o1
  clear v1 o1 hp HN1
  go_wp2_with fail
  refine Calls.mono (HN2.out w1) ?_
  rintro e0 w2 ⟨rfl, v2, o2⟩
  have HW2 : Hid (w1.heap.size < w2.heap.size) := v2.lt
  generalize hp : w1.heap.size = p2 at v2 ⊢
  have HPW2 : Hid (w1.heap.size = p2) := hp
  have HB : Hid _ := v2
  have HA2 : Hid _ := HA.out.off o2 (fun h => h)
  have HOB : Hid _ := HOA.out.trans o2 (fun _ _ h => h)
  clear v2 o2 hp HN2 HA HOA
  go_wp2_with fail
  refine Calls.mono (HN3.out w2) ?_
  rintro e0 w3 ⟨q1, a1, b1, c1, rfl, r3, hnew3, o3⟩
  have HL3 : Hid (q1 < w3.heap.size ∧ a1 < w3.heap.size ∧ b1 < w3.heap.size ∧ c1 < w3.heap.size) := ⟨r3.cel.lt, r3.m.lt, r3.age.lt, r3.op.lt⟩
  have HNW3 : Hid (w2.heap.size ≤ q1 ∧ w2.heap.size ≤ a1 ∧ w2.heap.size ≤ b1 ∧ w2.heap.size ≤ c1) := hnew3
  have HR3 : Hid _ := r3
  have HA3 : Hid _ := HA2.out.off o3 (fun h => h)
  have HB3 : Hid _ := HB.out.off o3 (fun h => h)
  have HOC : Hid _ := HOB.out.trans o3 (fun _ _ h => h)
  clear r3 hnew3 o3 HN3 HA2 HB HOB
  go_wp2_with fail
  refine Calls.mono (HN4.out w3) ?_
  rintro e0 W1 ⟨q2, a2, b2, c2, rfl, r4, hnew4, o4⟩
  have HNW4 : Hid (w3.heap.size ≤ q2 ∧ w3.heap.size ≤ a2 ∧ w3.heap.size ≤ b2 ∧ w3.heap.size ≤ c2) := hnew4
  have HR2T : Hid _ := r4
  have HV1S : Hid _ := HA3.out.off o4 (fun h => h)
  have HV2T : Hid _ := HB3.out.off o4 (fun h => h)
  have HR1S : Hid _ := HR3.out.off o4 ⟨fun h => h, fun h => h, fun h => h, fun h => h⟩
  have HO1S : Hid _ := HOC.out.trans o4 (fun _ _ h => h)
  clear r4 hnew4 o4 HN4 HA3 HB3 HR3 HOC
  have HORD : Hid (w.heap.size = p1 ∧ p1 < p2 ∧ p2 < q1 ∧ p2 < a1 ∧ p2 < b1 ∧ p2 < c1 ∧ (∀ x, (x = q1 ∨ x = a1 ∨ x = b1 ∨ x = c1) → x < q2 ∧ x < a2 ∧ x < b2 ∧ x < c2)) := by
    have h1 := HPW1.out
    have h2 := HPW2.out
    have h3 := HW1.out
    have h4 := HW2.out
    have h5 := HL3.out
    have h6 := HNW3.out
    have h7 := HNW4.out
    refine ⟨by omega, by omega, by omega, by omega, by omega, by omega, fun x hx => ?_⟩
    rcases hx with h | h | h | h <;> omega
  clear HPW1 HPW2 HW1 HW2 HL3 HNW3 HNW4
  have HNW1 : Hid (w.heap.size ≤ p1 ∧ w.heap.size ≤ a1 ∧ w.heap.size ≤ b1 ∧ w.heap.size ≤ c1) := by have h := HORD.out; show _ ∧ _ ∧ _ ∧ _; omega
  have HNW2 : Hid (w.heap.size ≤ p2 ∧ w.heap.size ≤ a2 ∧ w.heap.size ≤ b2 ∧ w.heap.size ≤ c2) := by
    have h := HORD.out
    have h2 := h.2.2.2.2.2.2 a1 (by simp)
    show _ ∧ _ ∧ _ ∧ _
    omega
  have HP12 : Hid (¬ p2 = p1) := by have h := HORD.out; show ¬ _; omega
  have HN12 : Hid (¬ (p1 = p2 ∨ p1 = a2 ∨ p1 = b2 ∨ p1 = c2)) := by
    have h := HORD.out
    have h2 := h.2.2.2.2.2.2 a1 (by simp)
    show ¬ _
    omega
  have HN21 : Hid (¬ (p2 = p1 ∨ p2 = a1 ∨ p2 = b1 ∨ p2 = c1) ∧ ¬ (q2 = p1 ∨ q2 = a1 ∨ q2 = b1 ∨ q2 = c1) ∧ ¬ (a2 = p1 ∨ a2 = a1 ∨ a2 = b1 ∨ a2 = c1) ∧ ¬ (b2 = p1 ∨ b2 = a1 ∨ b2 = b1 ∨ b2 = c1) ∧ ¬ (c2 = p1 ∨ c2 = a1 ∨ c2 = b1 ∨ c2 = c1)) := by
    have h := HORD.out
    have h1 := h.2.2.2.2.2.2 q1 (by simp)
    have h2 := h.2.2.2.2.2.2 a1 (by simp)
    have h3 := h.2.2.2.2.2.2 b1 (by simp)
    have h4 := h.2.2.2.2.2.2 c1 (by simp)
    show _ ∧ _ ∧ _ ∧ _ ∧ _
    refine ⟨?_, ?_, ?_, ?_, ?_⟩ <;> omega
  clear HORD
  go_wp2_with fail
  go_loopw [11] (fun s9 wr => ∃ (j : Nat) (d e : VD), s9 = .int .i64 (j : Int) ∧ j ≤ es1.length ∧ j ≤ 60 ∧ (d.n = n ∧ d.self = 0) ∧ MayI d ∧ Rel d e (j : Int) ∧ Vw p1 d wr ∧ RVw q1 a1 b1 c1 e wr ∧ Off (fun k => k = p1 ∨ k = a1 ∨ k = b1 ∨ k = c1) W1 wr ∧ Off (fun _ => False) w wr) (fun s _ => ((es1.length : Int) - intOf s).toNat)
  case atStart => exact ⟨0, d0 n 0, d0 n 0, rfl, by omega, by omega, ⟨rfl, rfl⟩, MayI.d0 n 0, Rel.start (by omega), HV1S.out, HR1S.out, Off.refl _ _, HO1S.out⟩
  case round =>
    obtain ⟨j, d, e, rfl, hj, hj2, hdn, hmi, hrl, v, r, wo, o⟩ := hrel
    have HV : Hid _ := v
    have HR : Hid _ := r
    have HO : Hid _ := o
    have HWO : Hid (Off (fun k => k = p1 ∨ k = a1 ∨ k = b1 ∨ k = c1) W1 wr) := wo
    have HRL : Hid _ := hrl
    have HMI : Hid (MayI d) := hmi
    have HDN : Hid (d.n = n ∧ d.self = 0) := hdn
    clear v r o hrl hdn hmi wo
    by_cases hlt : j < es1.length
    · by_cases h120 : 60 ≤ j
      · have t1 : decide ((j : Int) < 60) = false := decide_eq_false (by omega)
        have t2 : decide (j < 60) = false := decide_eq_false (by omega)
        have HV2S : Hid _ := HV2T.out.off HWO.out HN21.out.1
        have HR2S : Hid _ := HR2T.out.off HWO.out HN21.out.2
        have HP1S : Hid _ := HV.out
        have HD1 : Hid (d.n = n ∧ d.self = 0) := HDN.out
        have HM1 : Hid (MayI d) := HMI.out
        have HO2S : Hid _ := HO.out
        clear HV HR HRL HDN HMI HWO HO
        generalize d = d1 at *
        go_wp2_with fail
        obtain ⟨W2, hW2⟩ : ∃ W2, W2 = wr := ⟨_, rfl⟩
        rw [← hW2] at HV2S HR2S HP1S HO2S ⊢
        clear hW2
        go_loopw [12] (fun s9 wr => ∃ (j : Nat) (d e : VD), s9 = .int .i64 (j : Int) ∧ j ≤ es2.length ∧ j ≤ 60 ∧ (d.n = n ∧ d.self = 1) ∧ MayI d ∧ Rel d e (j : Int) ∧ Vw p2 d wr ∧ RVw q2 a2 b2 c2 e wr ∧ Off (fun k => k = p2 ∨ k = a2 ∨ k = b2 ∨ k = c2) W2 wr ∧ Off (fun _ => False) w wr) (fun s _ => ((es2.length : Int) - intOf s).toNat)
        case atStart => exact ⟨0, d0 n 1, d0 n 1, rfl, by omega, by omega, ⟨rfl, rfl⟩, MayI.d0 n 1, Rel.start (by omega), HV2S.out, HR2S.out, Off.refl _ _, HO2S.out⟩
        case round =>
          obtain ⟨j, d, e, rfl, hj, hj2, hdn, hmi, hrl, v, r, wo, o⟩ := hrel
          have HV : Hid _ := v
          have HR : Hid _ := r
          have HO : Hid _ := o
          have HWO : Hid (Off (fun k => k = p2 ∨ k = a2 ∨ k = b2 ∨ k = c2) W2 wr) := wo
          have HRL : Hid _ := hrl
          have HMI : Hid (MayI d) := hmi
          have HDN : Hid (d.n = n ∧ d.self = 1) := hdn
          clear v r o hrl hdn hmi wo
          by_cases hlt : j < es2.length
          · by_cases h120 : 60 ≤ j
            · have t1 : decide ((j : Int) < 60) = false := decide_eq_false (by omega)
              have t2 : decide (j < 60) = false := decide_eq_false (by omega)
              have HP1 : Hid _ := HP1S.out.off HWO.out HN12.out
              have HP2 : Hid _ := HV.out
              have HD2 : Hid (d.n = n ∧ d.self = 1) := HDN.out
              have HM2 : Hid (MayI d) := HMI.out
              clear HV HR HRL HDN HMI HP1S
              generalize d = d2 at *
              clear HWO
              have HA1 : Hid _ := all_any HP1.out
              rw [HD1.out.1] at HA1
              go_wp2_with fail
              refine Calls.mono HA1.out ?_
              rintro e0 X1 ⟨rfl, m1, o1⟩
              have HG1 : Hid _ := m1
              have HQ1 : Hid _ := HP1.out.off o1 (fun h => h)
              have HQ2 : Hid _ := HP2.out.off o1 (fun h => h)
              have HO1 : Hid _ := HO.out.trans o1 (fun _ _ h => h)
              have HL1 : Hid (p1 < wr.heap.size ∧ p2 < wr.heap.size) := ⟨HP1.out.lt, HP2.out.lt⟩
              clear m1 o1 HA1 HP1 HP2
              have HX1 : Hid (wr.heap.size ≠ p1 ∧ wr.heap.size ≠ p2) := by have h := HL1.out; show _ ∧ _; omega
              clear HL1
              generalize wr.heap.size = g1 at *
              have HA2 : Hid _ := all_any HQ2.out
              rw [HD2.out.1] at HA2
              go_wp2_with fail
              refine Calls.mono HA2.out ?_
              rintro e0 X2 ⟨rfl, m2, o2⟩
              have HG2 : Hid _ := m2
              have HR1 : Hid _ := HQ1.out.off o2 (fun h => h)
              have HR2 : Hid _ := HQ2.out.off o2 (fun h => h)
              have HG1b : Hid _ := HG1.out.off o2 (fun h => h)
              have HO2 : Hid _ := HO1.out.trans o2 (fun _ _ h => h)
              have HX2 : Hid (X1.heap.size ≠ p1 ∧ X1.heap.size ≠ p2) := by have h1 := HQ1.out.lt; have h2 := HQ2.out.lt; show _ ∧ _; omega
              clear m2 o2 HA2 HQ1 HQ2 HG1 HO1
              generalize X1.heap.size = g2 at *
              have HJ1 : Hid _ := join_row (some ⟨g2, 0, none⟩) n (lsM d2.m n) (HG2.out.mls (by omega)) (fun _ e => HX2.out.1 (by simpa [blk] using e)) HR1.out
              rw [lsM_len] at HJ1
              generalize joinB d1 (lsM d2.m n) n = jb1 at HJ1
              go_wp2_with fail
              refine Calls.mono HJ1.out ?_
              rintro e0 X3 ⟨rfl, v3, o3⟩
              have HS1 : Hid _ := v3
              have HS2 : Hid _ := HR2.out.off o3 HP12.out
              have HG1c : Hid _ := HG1b.out.off o3 HX1.out.1
              have HO3 : Hid _ := HO2.out.trans o3 (fun k hk e => absurd hk (by have e : k = p1 := e; have h := HNW1.out; omega))
              clear v3 o3 HJ1 HR1 HR2 HG1b HG2 HO2
              have HJ2 : Hid _ := join_row (some ⟨g1, 0, none⟩) n (lsM d1.m n) (HG1c.out.mls (by omega)) (fun _ e => HX1.out.2 (by simpa [blk] using e)) HS2.out
              rw [lsM_len] at HJ2
              generalize joinB d2 (lsM d1.m n) n = jb2 at HJ2
              go_wp2_with fail
              refine Calls.mono HJ2.out ?_
              rintro e0 X4 ⟨rfl, v4, o4⟩
              have HT2 : Hid _ := v4
              have HT1 : Hid _ := HS1.out.off o4 (fun e => HP12.out e.symm)
              have HO4 : Hid _ := HO3.out.trans o4 (fun k hk e => absurd hk (by have e : k = p2 := e; have h := HNW2.out; omega))
              clear v4 o4 HJ2 HS1 HS2 HG1c HO3
              have HAK : Hid (∀ i, i < n → 2 ≤ i → (joinK d1 (lsM d2.m n) n).m i = (joinK d2 (lsM d1.m n) n).m i) := fun i h1 h2 => by
                have h := alike (d := d1) (e := d2) (by rw [HD1.out.1, HD2.out.1]) HM1.out HM2.out (i := i) (by rw [HD1.out.1]; exact h1) (by rw [HD1.out.2]; omega) (by rw [HD2.out.2]; omega)
                rw [HD1.out.1] at h
                exact h
              have HF1 : Hid ((joinK d1 (lsM d2.m n) n).n = n) := (joinK_n _ _ _).1.trans HD1.out.1
              have HF2 : Hid ((joinK d2 (lsM d1.m n) n).n = n) := (joinK_n _ _ _).1.trans HD2.out.1
              generalize joinK d1 (lsM d2.m n) n = f1 at *
              generalize joinK d2 (lsM d1.m n) n = f2 at *
              have HA3 : Hid _ := all_any HT1.out
              rw [HF1.out] at HA3
              go_wp2_with fail
              refine Calls.mono HA3.out ?_
              rintro e0 X5 ⟨rfl, m5, o5⟩
              have HG5 : Hid _ := m5
              have HU2 : Hid _ := HT2.out.off o5 (fun h => h)
              have HO5 : Hid _ := HO4.out.trans o5 (fun _ _ h => h)
              clear m5 o5 HA3 HT1 HT2 HO4
              generalize X4.heap.size = g3 at *
              have HA4 : Hid _ := all_any HU2.out
              rw [HF2.out] at HA4
              go_wp2_with fail
              refine Calls.mono HA4.out ?_
              rintro e0 X6 ⟨rfl, m6, o6⟩
              have HG6 : Hid _ := m6
              have HG5b : Hid _ := HG5.out.off o6 (fun h => h)
              have HO6 : Hid _ := HO5.out.trans o6 (fun _ _ h => h)
              clear m6 o6 HA4 HU2 HG5 HO5
              generalize X5.heap.size = g4 at *
              go_wp2_with fail
              go_loopw [16] (fun s16 wx => ∃ i : Nat, s16 = .int .i64 (i : Int) ∧ 2 ≤ i ∧ i ≤ n ∧ Off (fun _ => False) X6 wx) (fun s _ => ((n : Int) - intOf s).toNat)
              case atStart => exact ⟨2, rfl, by omega, by omega, Off.refl _ _⟩
              case round =>
                obtain ⟨i, rfl, hi2, hin, ox⟩ := hrel
                have HOX : Hid _ := ox
                clear ox
                by_cases hlt2 : i < n
                · have x0 := (HG5b.out.off HOX.out (fun h => h)).m0 hlt2
                  have x1 := (HG5b.out.off HOX.out (fun h => h)).m1 hlt2
                  have y0 := (HG6.out.off HOX.out (fun h => h)).m0 hlt2
                  have y1 := (HG6.out.off HOX.out (fun h => h)).m1 hlt2
                  rw [HAK.out i hlt2 hi2] at x0 x1
                  have he := neq_mem (f2.m i).1 (f2.m i).2 (f2.m i).1 (f2.m i).2
                  rw [show eqM (f2.m i).1 (f2.m i).2 (f2.m i).1 (f2.m i).2 = true from eqM_iff.2 rfl] at he
                  generalize (f2.m i).1 = u at *
                  generalize (f2.m i).2 = v at *
                  go_wp2_with fail
                  go_quiet (fail)
                  go_wp2_with fail
                  go_roundw
                  case rel => exact ⟨i + 1, by go_num, by omega, by omega, HOX.out.drewN _⟩
                  case measure => simp [intOf]; omega
                · obtain rfl : i = n := by omega
                  go_wp2_with fail
                  refine (awake_any _).mono ?_
                  rintro e0 wB ⟨rfl, oB⟩
                  have HFC : Hid _ := (HO6.out.trans HOX.out (fun _ _ h => h)).trans oB (fun _ _ h => h)
                  clear oB
                  go_wp2_with fail
                  go_ret
                  exact ⟨rfl, HFC.out⟩
            · have t1 : decide ((j : Int) < 60) = true := decide_eq_true (by omega)
              have t2 : decide (j < 60) = true := decide_eq_true (by omega)
              obtain ⟨x, hx⟩ : ∃ x, es2[j]? = some x := ⟨_, List.getElem?_eq_getElem hlt⟩
              obtain ⟨g, of, rfl, ⟨k0, k1, k2⟩, hml, hkl⟩ := HCS2.out.at_ j x hx
              obtain ⟨k, node, la, lc, l⟩ := x
              simp only at k0 k1 k2 hml hkl
              have HML : Hid _ := hml
              have HKL : Hid (∀ k, blk la = some k → 0 < l.length → k < w.heap.size) := hkl
              have HDO : Hid (∀ W, Vw p2 d W → RVw q2 a2 b2 c2 e W → Mls W la lc l → Calls Try.prog 12 #[.pointer (some ⟨p2, 0, none⟩), .pointer (some ⟨q2, 0, none⟩), .agg #[.int .i64 k, .int .i64 node, .slice la l.length lc]] W fun E w' => E = .returned (.bool true) ∧ Vw p2 (doD d ⟨k, node, la, lc, l⟩) w' ∧ RVw q2 a2 b2 c2 (doE e ⟨k, node, la, lc, l⟩) w' ∧ Off (fun k => k = p2 ∨ k = a2 ∨ k = b2 ∨ k = c2) W w') := fun W hv hr hm =>
                do_any HRL.out (by omega) k node la lc l hm (fun hl => by
                  have h := HNW2.out
                  refine ⟨fun e => ?_, fun e => ?_, fun e => ?_, fun e => ?_⟩ <;> (have := HKL.out _ e hl; omega)) hv hr
              have HRL1 : Hid _ := HRL.out.do_ ⟨k, node, la, lc, l⟩
              have HDN1 : Hid ((doD d ⟨k, node, la, lc, l⟩).n = n ∧ (doD d ⟨k, node, la, lc, l⟩).self = 1) := ⟨(doD_n _ _).1.trans HDN.out.1, (doD_n _ _).2.trans HDN.out.2⟩
              have HMI1 : Hid (MayI (doD d ⟨k, node, la, lc, l⟩)) := MayI.do_ HMI.out ⟨k, node, la, lc, l⟩
              clear hml hkl hx
              generalize doD d ⟨k, node, la, lc, l⟩ = d1 at *
              generalize doE e ⟨k, node, la, lc, l⟩ = e1 at *
              replace k0 := HO.out.keep k0 (fun h => h)
              replace k1 := HO.out.keep k1 (fun h => h)
              replace k2 := HO.out.keep k2 (fun h => h)
              go_wp2_with fail
              refine (HDO.out _ HV.out HR.out (HML.out.offD HO.out (fun _ _ _ h => h))).mono ?_
              rintro e0 V1 ⟨rfl, v1, r1, o1⟩
              have HV1 : Hid _ := v1
              have HR1 : Hid _ := r1
              have HW1 : Hid _ := HWO.out.trans o1 (fun _ _ h => h)
              have HO1 : Hid (Off (fun _ => False) w V1) := HO.out.trans o1 (fun k hk e => by have h := HNW2.out; omega)
              clear v1 r1 o1 HV HR k0 k1 k2 t1 t2
              go_wp2_with fail
              go_roundw
              case rel => exact ⟨j + 1, d1, e1, by go_num, by omega, by omega, HDN1.out, HMI1.out, HRL1.out.more (by omega), HV1.out, HR1.out, HW1.out, HO1.out⟩
              case measure => simp [intOf]; omega
          · obtain rfl : j = es2.length := by omega
            have HP1 : Hid _ := HP1S.out.off HWO.out HN12.out
            have HP2 : Hid _ := HV.out
            have HD2 : Hid (d.n = n ∧ d.self = 1) := HDN.out
            have HM2 : Hid (MayI d) := HMI.out
            clear HV HR HRL HDN HMI HP1S
            generalize d = d2 at *
            clear HWO
            have HA1 : Hid _ := all_any HP1.out
            rw [HD1.out.1] at HA1
            go_wp2_with fail
            refine Calls.mono HA1.out ?_
            rintro e0 X1 ⟨rfl, m1, o1⟩
            have HG1 : Hid _ := m1
            have HQ1 : Hid _ := HP1.out.off o1 (fun h => h)
            have HQ2 : Hid _ := HP2.out.off o1 (fun h => h)
            have HO1 : Hid _ := HO.out.trans o1 (fun _ _ h => h)
            have HL1 : Hid (p1 < wr.heap.size ∧ p2 < wr.heap.size) := ⟨HP1.out.lt, HP2.out.lt⟩
            clear m1 o1 HA1 HP1 HP2
            have HX1 : Hid (wr.heap.size ≠ p1 ∧ wr.heap.size ≠ p2) := by have h := HL1.out; show _ ∧ _; omega
            clear HL1
            generalize wr.heap.size = g1 at *
            have HA2 : Hid _ := all_any HQ2.out
            rw [HD2.out.1] at HA2
            go_wp2_with fail
            refine Calls.mono HA2.out ?_
            rintro e0 X2 ⟨rfl, m2, o2⟩
            have HG2 : Hid _ := m2
            have HR1 : Hid _ := HQ1.out.off o2 (fun h => h)
            have HR2 : Hid _ := HQ2.out.off o2 (fun h => h)
            have HG1b : Hid _ := HG1.out.off o2 (fun h => h)
            have HO2 : Hid _ := HO1.out.trans o2 (fun _ _ h => h)
            have HX2 : Hid (X1.heap.size ≠ p1 ∧ X1.heap.size ≠ p2) := by have h1 := HQ1.out.lt; have h2 := HQ2.out.lt; show _ ∧ _; omega
            clear m2 o2 HA2 HQ1 HQ2 HG1 HO1
            generalize X1.heap.size = g2 at *
            have HJ1 : Hid _ := join_row (some ⟨g2, 0, none⟩) n (lsM d2.m n) (HG2.out.mls (by omega)) (fun _ e => HX2.out.1 (by simpa [blk] using e)) HR1.out
            rw [lsM_len] at HJ1
            generalize joinB d1 (lsM d2.m n) n = jb1 at HJ1
            go_wp2_with fail
            refine Calls.mono HJ1.out ?_
            rintro e0 X3 ⟨rfl, v3, o3⟩
            have HS1 : Hid _ := v3
            have HS2 : Hid _ := HR2.out.off o3 HP12.out
            have HG1c : Hid _ := HG1b.out.off o3 HX1.out.1
            have HO3 : Hid _ := HO2.out.trans o3 (fun k hk e => absurd hk (by have e : k = p1 := e; have h := HNW1.out; omega))
            clear v3 o3 HJ1 HR1 HR2 HG1b HG2 HO2
            have HJ2 : Hid _ := join_row (some ⟨g1, 0, none⟩) n (lsM d1.m n) (HG1c.out.mls (by omega)) (fun _ e => HX1.out.2 (by simpa [blk] using e)) HS2.out
            rw [lsM_len] at HJ2
            generalize joinB d2 (lsM d1.m n) n = jb2 at HJ2
            go_wp2_with fail
            refine Calls.mono HJ2.out ?_
            rintro e0 X4 ⟨rfl, v4, o4⟩
            have HT2 : Hid _ := v4
            have HT1 : Hid _ := HS1.out.off o4 (fun e => HP12.out e.symm)
            have HO4 : Hid _ := HO3.out.trans o4 (fun k hk e => absurd hk (by have e : k = p2 := e; have h := HNW2.out; omega))
            clear v4 o4 HJ2 HS1 HS2 HG1c HO3
            have HAK : Hid (∀ i, i < n → 2 ≤ i → (joinK d1 (lsM d2.m n) n).m i = (joinK d2 (lsM d1.m n) n).m i) := fun i h1 h2 => by
              have h := alike (d := d1) (e := d2) (by rw [HD1.out.1, HD2.out.1]) HM1.out HM2.out (i := i) (by rw [HD1.out.1]; exact h1) (by rw [HD1.out.2]; omega) (by rw [HD2.out.2]; omega)
              rw [HD1.out.1] at h
              exact h
            have HF1 : Hid ((joinK d1 (lsM d2.m n) n).n = n) := (joinK_n _ _ _).1.trans HD1.out.1
            have HF2 : Hid ((joinK d2 (lsM d1.m n) n).n = n) := (joinK_n _ _ _).1.trans HD2.out.1
            generalize joinK d1 (lsM d2.m n) n = f1 at *
            generalize joinK d2 (lsM d1.m n) n = f2 at *
            have HA3 : Hid _ := all_any HT1.out
            rw [HF1.out] at HA3
            go_wp2_with fail
            refine Calls.mono HA3.out ?_
            rintro e0 X5 ⟨rfl, m5, o5⟩
            have HG5 : Hid _ := m5
            have HU2 : Hid _ := HT2.out.off o5 (fun h => h)
            have HO5 : Hid _ := HO4.out.trans o5 (fun _ _ h => h)
            clear m5 o5 HA3 HT1 HT2 HO4
            generalize X4.heap.size = g3 at *
            have HA4 : Hid _ := all_any HU2.out
            rw [HF2.out] at HA4
            go_wp2_with fail
            refine Calls.mono HA4.out ?_
            rintro e0 X6 ⟨rfl, m6, o6⟩
            have HG6 : Hid _ := m6
            have HG5b : Hid _ := HG5.out.off o6 (fun h => h)
            have HO6 : Hid _ := HO5.out.trans o6 (fun _ _ h => h)
            clear m6 o6 HA4 HU2 HG5 HO5
            generalize X5.heap.size = g4 at *
            go_wp2_with fail
            go_loopw [16] (fun s16 wx => ∃ i : Nat, s16 = .int .i64 (i : Int) ∧ 2 ≤ i ∧ i ≤ n ∧ Off (fun _ => False) X6 wx) (fun s _ => ((n : Int) - intOf s).toNat)
            case atStart => exact ⟨2, rfl, by omega, by omega, Off.refl _ _⟩
            case round =>
              obtain ⟨i, rfl, hi2, hin, ox⟩ := hrel
              have HOX : Hid _ := ox
              clear ox
              by_cases hlt2 : i < n
              · have x0 := (HG5b.out.off HOX.out (fun h => h)).m0 hlt2
                have x1 := (HG5b.out.off HOX.out (fun h => h)).m1 hlt2
                have y0 := (HG6.out.off HOX.out (fun h => h)).m0 hlt2
                have y1 := (HG6.out.off HOX.out (fun h => h)).m1 hlt2
                rw [HAK.out i hlt2 hi2] at x0 x1
                have he := neq_mem (f2.m i).1 (f2.m i).2 (f2.m i).1 (f2.m i).2
                rw [show eqM (f2.m i).1 (f2.m i).2 (f2.m i).1 (f2.m i).2 = true from eqM_iff.2 rfl] at he
                generalize (f2.m i).1 = u at *
                generalize (f2.m i).2 = v at *
                go_wp2_with fail
                go_quiet (fail)
                go_wp2_with fail
                go_roundw
                case rel => exact ⟨i + 1, by go_num, by omega, by omega, HOX.out.drewN _⟩
                case measure => simp [intOf]; omega
              · obtain rfl : i = n := by omega
                go_wp2_with fail
                refine (awake_any _).mono ?_
                rintro e0 wB ⟨rfl, oB⟩
                have HFC : Hid _ := (HO6.out.trans HOX.out (fun _ _ h => h)).trans oB (fun _ _ h => h)
                clear oB
                go_wp2_with fail
                go_ret
                exact ⟨rfl, HFC.out⟩
      · have t1 : decide ((j : Int) < 60) = true := decide_eq_true (by omega)
        have t2 : decide (j < 60) = true := decide_eq_true (by omega)
        obtain ⟨x, hx⟩ : ∃ x, es1[j]? = some x := ⟨_, List.getElem?_eq_getElem hlt⟩
        obtain ⟨g, of, rfl, ⟨k0, k1, k2⟩, hml, hkl⟩ := HCS1.out.at_ j x hx
        obtain ⟨k, node, la, lc, l⟩ := x
        simp only at k0 k1 k2 hml hkl
        have HML : Hid _ := hml
        have HKL : Hid (∀ k, blk la = some k → 0 < l.length → k < w.heap.size) := hkl
        have HDO : Hid (∀ W, Vw p1 d W → RVw q1 a1 b1 c1 e W → Mls W la lc l → Calls Try.prog 12 #[.pointer (some ⟨p1, 0, none⟩), .pointer (some ⟨q1, 0, none⟩), .agg #[.int .i64 k, .int .i64 node, .slice la l.length lc]] W fun E w' => E = .returned (.bool true) ∧ Vw p1 (doD d ⟨k, node, la, lc, l⟩) w' ∧ RVw q1 a1 b1 c1 (doE e ⟨k, node, la, lc, l⟩) w' ∧ Off (fun k => k = p1 ∨ k = a1 ∨ k = b1 ∨ k = c1) W w') := fun W hv hr hm =>
          do_any HRL.out (by omega) k node la lc l hm (fun hl => by
            have h := HNW1.out
            refine ⟨fun e => ?_, fun e => ?_, fun e => ?_, fun e => ?_⟩ <;> (have := HKL.out _ e hl; omega)) hv hr
        have HRL1 : Hid _ := HRL.out.do_ ⟨k, node, la, lc, l⟩
        have HDN1 : Hid ((doD d ⟨k, node, la, lc, l⟩).n = n ∧ (doD d ⟨k, node, la, lc, l⟩).self = 0) := ⟨(doD_n _ _).1.trans HDN.out.1, (doD_n _ _).2.trans HDN.out.2⟩
        have HMI1 : Hid (MayI (doD d ⟨k, node, la, lc, l⟩)) := MayI.do_ HMI.out ⟨k, node, la, lc, l⟩
        clear hml hkl hx
        generalize doD d ⟨k, node, la, lc, l⟩ = d1 at *
        generalize doE e ⟨k, node, la, lc, l⟩ = e1 at *
        replace k0 := HO.out.keep k0 (fun h => h)
        replace k1 := HO.out.keep k1 (fun h => h)
        replace k2 := HO.out.keep k2 (fun h => h)
        go_wp2_with fail
        refine (HDO.out _ HV.out HR.out (HML.out.offD HO.out (fun _ _ _ h => h))).mono ?_
        rintro e0 V1 ⟨rfl, v1, r1, o1⟩
        have HV1 : Hid _ := v1
        have HR1 : Hid _ := r1
        have HW1 : Hid _ := HWO.out.trans o1 (fun _ _ h => h)
        have HO1 : Hid (Off (fun _ => False) w V1) := HO.out.trans o1 (fun k hk e => by have h := HNW1.out; omega)
        clear v1 r1 o1 HV HR k0 k1 k2 t1 t2
        go_wp2_with fail
        go_roundw
        case rel => exact ⟨j + 1, d1, e1, by go_num, by omega, by omega, HDN1.out, HMI1.out, HRL1.out.more (by omega), HV1.out, HR1.out, HW1.out, HO1.out⟩
        case measure => simp [intOf]; omega
    · obtain rfl : j = es1.length := by omega
      have HV2S : Hid _ := HV2T.out.off HWO.out HN21.out.1
      have HR2S : Hid _ := HR2T.out.off HWO.out HN21.out.2
      have HP1S : Hid _ := HV.out
      have HD1 : Hid (d.n = n ∧ d.self = 0) := HDN.out
      have HM1 : Hid (MayI d) := HMI.out
      have HO2S : Hid _ := HO.out
      clear HV HR HRL HDN HMI HWO HO
      generalize d = d1 at *
      go_wp2_with fail
      obtain ⟨W2, hW2⟩ : ∃ W2, W2 = wr := ⟨_, rfl⟩
      rw [← hW2] at HV2S HR2S HP1S HO2S ⊢
      clear hW2
      go_loopw [12] (fun s9 wr => ∃ (j : Nat) (d e : VD), s9 = .int .i64 (j : Int) ∧ j ≤ es2.length ∧ j ≤ 60 ∧ (d.n = n ∧ d.self = 1) ∧ MayI d ∧ Rel d e (j : Int) ∧ Vw p2 d wr ∧ RVw q2 a2 b2 c2 e wr ∧ Off (fun k => k = p2 ∨ k = a2 ∨ k = b2 ∨ k = c2) W2 wr ∧ Off (fun _ => False) w wr) (fun s _ => ((es2.length : Int) - intOf s).toNat)
      case atStart => exact ⟨0, d0 n 1, d0 n 1, rfl, by omega, by omega, ⟨rfl, rfl⟩, MayI.d0 n 1, Rel.start (by omega), HV2S.out, HR2S.out, Off.refl _ _, HO2S.out⟩
      case round =>
        obtain ⟨j, d, e, rfl, hj, hj2, hdn, hmi, hrl, v, r, wo, o⟩ := hrel
        have HV : Hid _ := v
        have HR : Hid _ := r
        have HO : Hid _ := o
        have HWO : Hid (Off (fun k => k = p2 ∨ k = a2 ∨ k = b2 ∨ k = c2) W2 wr) := wo
        have HRL : Hid _ := hrl
        have HMI : Hid (MayI d) := hmi
        have HDN : Hid (d.n = n ∧ d.self = 1) := hdn
        clear v r o hrl hdn hmi wo
        by_cases hlt : j < es2.length
        · by_cases h120 : 60 ≤ j
          · have t1 : decide ((j : Int) < 60) = false := decide_eq_false (by omega)
            have t2 : decide (j < 60) = false := decide_eq_false (by omega)
            have HP1 : Hid _ := HP1S.out.off HWO.out HN12.out
            have HP2 : Hid _ := HV.out
            have HD2 : Hid (d.n = n ∧ d.self = 1) := HDN.out
            have HM2 : Hid (MayI d) := HMI.out
            clear HV HR HRL HDN HMI HP1S
            generalize d = d2 at *
            clear HWO
            have HA1 : Hid _ := all_any HP1.out
            rw [HD1.out.1] at HA1
            go_wp2_with fail
            refine Calls.mono HA1.out ?_
            rintro e0 X1 ⟨rfl, m1, o1⟩
            have HG1 : Hid _ := m1
            have HQ1 : Hid _ := HP1.out.off o1 (fun h => h)
            have HQ2 : Hid _ := HP2.out.off o1 (fun h => h)
            have HO1 : Hid _ := HO.out.trans o1 (fun _ _ h => h)
            have HL1 : Hid (p1 < wr.heap.size ∧ p2 < wr.heap.size) := ⟨HP1.out.lt, HP2.out.lt⟩
            clear m1 o1 HA1 HP1 HP2
            have HX1 : Hid (wr.heap.size ≠ p1 ∧ wr.heap.size ≠ p2) := by have h := HL1.out; show _ ∧ _; omega
            clear HL1
            generalize wr.heap.size = g1 at *
            have HA2 : Hid _ := all_any HQ2.out
            rw [HD2.out.1] at HA2
            go_wp2_with fail
            refine Calls.mono HA2.out ?_
            rintro e0 X2 ⟨rfl, m2, o2⟩
            have HG2 : Hid _ := m2
            have HR1 : Hid _ := HQ1.out.off o2 (fun h => h)
            have HR2 : Hid _ := HQ2.out.off o2 (fun h => h)
            have HG1b : Hid _ := HG1.out.off o2 (fun h => h)
            have HO2 : Hid _ := HO1.out.trans o2 (fun _ _ h => h)
            have HX2 : Hid (X1.heap.size ≠ p1 ∧ X1.heap.size ≠ p2) := by have h1 := HQ1.out.lt; have h2 := HQ2.out.lt; show _ ∧ _; omega
            clear m2 o2 HA2 HQ1 HQ2 HG1 HO1
            generalize X1.heap.size = g2 at *
            have HJ1 : Hid _ := join_row (some ⟨g2, 0, none⟩) n (lsM d2.m n) (HG2.out.mls (by omega)) (fun _ e => HX2.out.1 (by simpa [blk] using e)) HR1.out
            rw [lsM_len] at HJ1
            generalize joinB d1 (lsM d2.m n) n = jb1 at HJ1
            go_wp2_with fail
            refine Calls.mono HJ1.out ?_
            rintro e0 X3 ⟨rfl, v3, o3⟩
            have HS1 : Hid _ := v3
            have HS2 : Hid _ := HR2.out.off o3 HP12.out
            have HG1c : Hid _ := HG1b.out.off o3 HX1.out.1
            have HO3 : Hid _ := HO2.out.trans o3 (fun k hk e => absurd hk (by have e : k = p1 := e; have h := HNW1.out; omega))
            clear v3 o3 HJ1 HR1 HR2 HG1b HG2 HO2
            have HJ2 : Hid _ := join_row (some ⟨g1, 0, none⟩) n (lsM d1.m n) (HG1c.out.mls (by omega)) (fun _ e => HX1.out.2 (by simpa [blk] using e)) HS2.out
            rw [lsM_len] at HJ2
            generalize joinB d2 (lsM d1.m n) n = jb2 at HJ2
            go_wp2_with fail
            refine Calls.mono HJ2.out ?_
            rintro e0 X4 ⟨rfl, v4, o4⟩
            have HT2 : Hid _ := v4
            have HT1 : Hid _ := HS1.out.off o4 (fun e => HP12.out e.symm)
            have HO4 : Hid _ := HO3.out.trans o4 (fun k hk e => absurd hk (by have e : k = p2 := e; have h := HNW2.out; omega))
            clear v4 o4 HJ2 HS1 HS2 HG1c HO3
            have HAK : Hid (∀ i, i < n → 2 ≤ i → (joinK d1 (lsM d2.m n) n).m i = (joinK d2 (lsM d1.m n) n).m i) := fun i h1 h2 => by
              have h := alike (d := d1) (e := d2) (by rw [HD1.out.1, HD2.out.1]) HM1.out HM2.out (i := i) (by rw [HD1.out.1]; exact h1) (by rw [HD1.out.2]; omega) (by rw [HD2.out.2]; omega)
              rw [HD1.out.1] at h
              exact h
            have HF1 : Hid ((joinK d1 (lsM d2.m n) n).n = n) := (joinK_n _ _ _).1.trans HD1.out.1
            have HF2 : Hid ((joinK d2 (lsM d1.m n) n).n = n) := (joinK_n _ _ _).1.trans HD2.out.1
            generalize joinK d1 (lsM d2.m n) n = f1 at *
            generalize joinK d2 (lsM d1.m n) n = f2 at *
            have HA3 : Hid _ := all_any HT1.out
            rw [HF1.out] at HA3
            go_wp2_with fail
            refine Calls.mono HA3.out ?_
            rintro e0 X5 ⟨rfl, m5, o5⟩
            have HG5 : Hid _ := m5
            have HU2 : Hid _ := HT2.out.off o5 (fun h => h)
            have HO5 : Hid _ := HO4.out.trans o5 (fun _ _ h => h)
            clear m5 o5 HA3 HT1 HT2 HO4
            generalize X4.heap.size = g3 at *
            have HA4 : Hid _ := all_any HU2.out
            rw [HF2.out] at HA4
            go_wp2_with fail
            refine Calls.mono HA4.out ?_
            rintro e0 X6 ⟨rfl, m6, o6⟩
            have HG6 : Hid _ := m6
            have HG5b : Hid _ := HG5.out.off o6 (fun h => h)
            have HO6 : Hid _ := HO5.out.trans o6 (fun _ _ h => h)
            clear m6 o6 HA4 HU2 HG5 HO5
            generalize X5.heap.size = g4 at *
            go_wp2_with fail
            go_loopw [16] (fun s16 wx => ∃ i : Nat, s16 = .int .i64 (i : Int) ∧ 2 ≤ i ∧ i ≤ n ∧ Off (fun _ => False) X6 wx) (fun s _ => ((n : Int) - intOf s).toNat)
            case atStart => exact ⟨2, rfl, by omega, by omega, Off.refl _ _⟩
            case round =>
              obtain ⟨i, rfl, hi2, hin, ox⟩ := hrel
              have HOX : Hid _ := ox
              clear ox
              by_cases hlt2 : i < n
              · have x0 := (HG5b.out.off HOX.out (fun h => h)).m0 hlt2
                have x1 := (HG5b.out.off HOX.out (fun h => h)).m1 hlt2
                have y0 := (HG6.out.off HOX.out (fun h => h)).m0 hlt2
                have y1 := (HG6.out.off HOX.out (fun h => h)).m1 hlt2
                rw [HAK.out i hlt2 hi2] at x0 x1
                have he := neq_mem (f2.m i).1 (f2.m i).2 (f2.m i).1 (f2.m i).2
                rw [show eqM (f2.m i).1 (f2.m i).2 (f2.m i).1 (f2.m i).2 = true from eqM_iff.2 rfl] at he
                generalize (f2.m i).1 = u at *
                generalize (f2.m i).2 = v at *
                go_wp2_with fail
                go_quiet (fail)
                go_wp2_with fail
                go_roundw
                case rel => exact ⟨i + 1, by go_num, by omega, by omega, HOX.out.drewN _⟩
                case measure => simp [intOf]; omega
              · obtain rfl : i = n := by omega
                go_wp2_with fail
                refine (awake_any _).mono ?_
                rintro e0 wB ⟨rfl, oB⟩
                have HFC : Hid _ := (HO6.out.trans HOX.out (fun _ _ h => h)).trans oB (fun _ _ h => h)
                clear oB
                go_wp2_with fail
                go_ret
                exact ⟨rfl, HFC.out⟩
          · have t1 : decide ((j : Int) < 60) = true := decide_eq_true (by omega)
            have t2 : decide (j < 60) = true := decide_eq_true (by omega)
            obtain ⟨x, hx⟩ : ∃ x, es2[j]? = some x := ⟨_, List.getElem?_eq_getElem hlt⟩
            obtain ⟨g, of, rfl, ⟨k0, k1, k2⟩, hml, hkl⟩ := HCS2.out.at_ j x hx
            obtain ⟨k, node, la, lc, l⟩ := x
            simp only at k0 k1 k2 hml hkl
            have HML : Hid _ := hml
            have HKL : Hid (∀ k, blk la = some k → 0 < l.length → k < w.heap.size) := hkl
            have HDO : Hid (∀ W, Vw p2 d W → RVw q2 a2 b2 c2 e W → Mls W la lc l → Calls Try.prog 12 #[.pointer (some ⟨p2, 0, none⟩), .pointer (some ⟨q2, 0, none⟩), .agg #[.int .i64 k, .int .i64 node, .slice la l.length lc]] W fun E w' => E = .returned (.bool true) ∧ Vw p2 (doD d ⟨k, node, la, lc, l⟩) w' ∧ RVw q2 a2 b2 c2 (doE e ⟨k, node, la, lc, l⟩) w' ∧ Off (fun k => k = p2 ∨ k = a2 ∨ k = b2 ∨ k = c2) W w') := fun W hv hr hm =>
              do_any HRL.out (by omega) k node la lc l hm (fun hl => by
                have h := HNW2.out
                refine ⟨fun e => ?_, fun e => ?_, fun e => ?_, fun e => ?_⟩ <;> (have := HKL.out _ e hl; omega)) hv hr
            have HRL1 : Hid _ := HRL.out.do_ ⟨k, node, la, lc, l⟩
            have HDN1 : Hid ((doD d ⟨k, node, la, lc, l⟩).n = n ∧ (doD d ⟨k, node, la, lc, l⟩).self = 1) := ⟨(doD_n _ _).1.trans HDN.out.1, (doD_n _ _).2.trans HDN.out.2⟩
            have HMI1 : Hid (MayI (doD d ⟨k, node, la, lc, l⟩)) := MayI.do_ HMI.out ⟨k, node, la, lc, l⟩
            clear hml hkl hx
            generalize doD d ⟨k, node, la, lc, l⟩ = d1 at *
            generalize doE e ⟨k, node, la, lc, l⟩ = e1 at *
            replace k0 := HO.out.keep k0 (fun h => h)
            replace k1 := HO.out.keep k1 (fun h => h)
            replace k2 := HO.out.keep k2 (fun h => h)
            go_wp2_with fail
            refine (HDO.out _ HV.out HR.out (HML.out.offD HO.out (fun _ _ _ h => h))).mono ?_
            rintro e0 V1 ⟨rfl, v1, r1, o1⟩
            have HV1 : Hid _ := v1
            have HR1 : Hid _ := r1
            have HW1 : Hid _ := HWO.out.trans o1 (fun _ _ h => h)
            have HO1 : Hid (Off (fun _ => False) w V1) := HO.out.trans o1 (fun k hk e => by have h := HNW2.out; omega)
            clear v1 r1 o1 HV HR k0 k1 k2 t1 t2
            go_wp2_with fail
            go_roundw
            case rel => exact ⟨j + 1, d1, e1, by go_num, by omega, by omega, HDN1.out, HMI1.out, HRL1.out.more (by omega), HV1.out, HR1.out, HW1.out, HO1.out⟩
            case measure => simp [intOf]; omega
        · obtain rfl : j = es2.length := by omega
          have HP1 : Hid _ := HP1S.out.off HWO.out HN12.out
          have HP2 : Hid _ := HV.out
          have HD2 : Hid (d.n = n ∧ d.self = 1) := HDN.out
          have HM2 : Hid (MayI d) := HMI.out
          clear HV HR HRL HDN HMI HP1S
          generalize d = d2 at *
          clear HWO
          have HA1 : Hid _ := all_any HP1.out
          rw [HD1.out.1] at HA1
          go_wp2_with fail
          refine Calls.mono HA1.out ?_
          rintro e0 X1 ⟨rfl, m1, o1⟩
          have HG1 : Hid _ := m1
          have HQ1 : Hid _ := HP1.out.off o1 (fun h => h)
          have HQ2 : Hid _ := HP2.out.off o1 (fun h => h)
          have HO1 : Hid _ := HO.out.trans o1 (fun _ _ h => h)
          have HL1 : Hid (p1 < wr.heap.size ∧ p2 < wr.heap.size) := ⟨HP1.out.lt, HP2.out.lt⟩
          clear m1 o1 HA1 HP1 HP2
          have HX1 : Hid (wr.heap.size ≠ p1 ∧ wr.heap.size ≠ p2) := by have h := HL1.out; show _ ∧ _; omega
          clear HL1
          generalize wr.heap.size = g1 at *
          have HA2 : Hid _ := all_any HQ2.out
          rw [HD2.out.1] at HA2
          go_wp2_with fail
          refine Calls.mono HA2.out ?_
          rintro e0 X2 ⟨rfl, m2, o2⟩
          have HG2 : Hid _ := m2
          have HR1 : Hid _ := HQ1.out.off o2 (fun h => h)
          have HR2 : Hid _ := HQ2.out.off o2 (fun h => h)
          have HG1b : Hid _ := HG1.out.off o2 (fun h => h)
          have HO2 : Hid _ := HO1.out.trans o2 (fun _ _ h => h)
          have HX2 : Hid (X1.heap.size ≠ p1 ∧ X1.heap.size ≠ p2) := by have h1 := HQ1.out.lt; have h2 := HQ2.out.lt; show _ ∧ _; omega
          clear m2 o2 HA2 HQ1 HQ2 HG1 HO1
          generalize X1.heap.size = g2 at *
          have HJ1 : Hid _ := join_row (some ⟨g2, 0, none⟩) n (lsM d2.m n) (HG2.out.mls (by omega)) (fun _ e => HX2.out.1 (by simpa [blk] using e)) HR1.out
          rw [lsM_len] at HJ1
          generalize joinB d1 (lsM d2.m n) n = jb1 at HJ1
          go_wp2_with fail
          refine Calls.mono HJ1.out ?_
          rintro e0 X3 ⟨rfl, v3, o3⟩
          have HS1 : Hid _ := v3
          have HS2 : Hid _ := HR2.out.off o3 HP12.out
          have HG1c : Hid _ := HG1b.out.off o3 HX1.out.1
          have HO3 : Hid _ := HO2.out.trans o3 (fun k hk e => absurd hk (by have e : k = p1 := e; have h := HNW1.out; omega))
          clear v3 o3 HJ1 HR1 HR2 HG1b HG2 HO2
          have HJ2 : Hid _ := join_row (some ⟨g1, 0, none⟩) n (lsM d1.m n) (HG1c.out.mls (by omega)) (fun _ e => HX1.out.2 (by simpa [blk] using e)) HS2.out
          rw [lsM_len] at HJ2
          generalize joinB d2 (lsM d1.m n) n = jb2 at HJ2
          go_wp2_with fail
          refine Calls.mono HJ2.out ?_
          rintro e0 X4 ⟨rfl, v4, o4⟩
          have HT2 : Hid _ := v4
          have HT1 : Hid _ := HS1.out.off o4 (fun e => HP12.out e.symm)
          have HO4 : Hid _ := HO3.out.trans o4 (fun k hk e => absurd hk (by have e : k = p2 := e; have h := HNW2.out; omega))
          clear v4 o4 HJ2 HS1 HS2 HG1c HO3
          have HAK : Hid (∀ i, i < n → 2 ≤ i → (joinK d1 (lsM d2.m n) n).m i = (joinK d2 (lsM d1.m n) n).m i) := fun i h1 h2 => by
            have h := alike (d := d1) (e := d2) (by rw [HD1.out.1, HD2.out.1]) HM1.out HM2.out (i := i) (by rw [HD1.out.1]; exact h1) (by rw [HD1.out.2]; omega) (by rw [HD2.out.2]; omega)
            rw [HD1.out.1] at h
            exact h
          have HF1 : Hid ((joinK d1 (lsM d2.m n) n).n = n) := (joinK_n _ _ _).1.trans HD1.out.1
          have HF2 : Hid ((joinK d2 (lsM d1.m n) n).n = n) := (joinK_n _ _ _).1.trans HD2.out.1
          generalize joinK d1 (lsM d2.m n) n = f1 at *
          generalize joinK d2 (lsM d1.m n) n = f2 at *
          have HA3 : Hid _ := all_any HT1.out
          rw [HF1.out] at HA3
          go_wp2_with fail
          refine Calls.mono HA3.out ?_
          rintro e0 X5 ⟨rfl, m5, o5⟩
          have HG5 : Hid _ := m5
          have HU2 : Hid _ := HT2.out.off o5 (fun h => h)
          have HO5 : Hid _ := HO4.out.trans o5 (fun _ _ h => h)
          clear m5 o5 HA3 HT1 HT2 HO4
          generalize X4.heap.size = g3 at *
          have HA4 : Hid _ := all_any HU2.out
          rw [HF2.out] at HA4
          go_wp2_with fail
          refine Calls.mono HA4.out ?_
          rintro e0 X6 ⟨rfl, m6, o6⟩
          have HG6 : Hid _ := m6
          have HG5b : Hid _ := HG5.out.off o6 (fun h => h)
          have HO6 : Hid _ := HO5.out.trans o6 (fun _ _ h => h)
          clear m6 o6 HA4 HU2 HG5 HO5
          generalize X5.heap.size = g4 at *
          go_wp2_with fail
          go_loopw [16] (fun s16 wx => ∃ i : Nat, s16 = .int .i64 (i : Int) ∧ 2 ≤ i ∧ i ≤ n ∧ Off (fun _ => False) X6 wx) (fun s _ => ((n : Int) - intOf s).toNat)
          case atStart => exact ⟨2, rfl, by omega, by omega, Off.refl _ _⟩
          case round =>
            obtain ⟨i, rfl, hi2, hin, ox⟩ := hrel
            have HOX : Hid _ := ox
            clear ox
            by_cases hlt2 : i < n
            · have x0 := (HG5b.out.off HOX.out (fun h => h)).m0 hlt2
              have x1 := (HG5b.out.off HOX.out (fun h => h)).m1 hlt2
              have y0 := (HG6.out.off HOX.out (fun h => h)).m0 hlt2
              have y1 := (HG6.out.off HOX.out (fun h => h)).m1 hlt2
              rw [HAK.out i hlt2 hi2] at x0 x1
              have he := neq_mem (f2.m i).1 (f2.m i).2 (f2.m i).1 (f2.m i).2
              rw [show eqM (f2.m i).1 (f2.m i).2 (f2.m i).1 (f2.m i).2 = true from eqM_iff.2 rfl] at he
              generalize (f2.m i).1 = u at *
              generalize (f2.m i).2 = v at *
              go_wp2_with fail
              go_quiet (fail)
              go_wp2_with fail
              go_roundw
              case rel => exact ⟨i + 1, by go_num, by omega, by omega, HOX.out.drewN _⟩
              case measure => simp [intOf]; omega
            · obtain rfl : i = n := by omega
              go_wp2_with fail
              refine (awake_any _).mono ?_
              rintro e0 wB ⟨rfl, oB⟩
              have HFC : Hid _ := (HO6.out.trans HOX.out (fun _ _ h => h)).trans oB (fun _ _ h => h)
              clear oB
              go_wp2_with fail
              go_ret
              exact ⟨rfl, HFC.out⟩
end Go.Proofs.Ytakijikehpblfaa
