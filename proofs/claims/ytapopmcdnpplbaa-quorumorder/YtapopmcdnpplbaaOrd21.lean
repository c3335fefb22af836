/- The walk of QuorumOrder. -/
import Derived.Test.YtapopmcdnpplbaaArg21
namespace Go.Proofs.Ytapopmcdnpplbaa
set_option maxRecDepth 100000
open Go.RowKit

/-- Told from another place on, all the same have answered. -/
theorem run_turn (B : Nat → Int) {len r : Nat} (hr : r < len) {j : Nat} (hj : j < 8) : run B len j = run (fun i => B ((i + r) % len)) len j := by
  have key : run B len j = true ↔ run (fun i => B ((i + r) % len)) len j = true := by
    rw [run_mem B len j hj, run_mem _ len j hj]
    refine ⟨fun ⟨i, h1, h2⟩ => ?_, fun ⟨i, h1, h2⟩ => ⟨(i + r) % len, Nat.mod_lt _ (by omega), h2⟩⟩
    by_cases h : r ≤ i
    · refine ⟨i - r, by omega, ?_⟩
      show B ((i - r + r) % len) = _
      rw [show i - r + r = i by omega, Nat.mod_eq_of_lt h1]
      exact h2
    · refine ⟨i + len - r, by omega, ?_⟩
      show B ((i + len - r + r) % len) = _
      rw [show i + len - r + r = i + len by omega, Nat.add_mod_right, Nat.mod_eq_of_lt h1]
      exact h2
  cases h1 : run B len j <;> cases h2 : run (fun i => B ((i + r) % len)) len j <;> simp_all
set_option maxHeartbeats 4000000 in
theorem order_walk (m : Int) (a : Option Addr) (len cap : Nat) (B : Nat → Int) (q0 : Int) (w : World) (_ : -9223372036854775808 ≤ m ∧ m ≤ 9223372036854775807) (hb : Inz w a len cap B) (_ : -9223372036854775808 ≤ q0 ∧ q0 ≤ 9223372036854775807) :
    Calls Try.prog 6 #[.int .i64 m, .slice a len cap, .int .i64 q0] w fun e w' => e = .returned (.bool true) ∧ Off (fun _ => False) w w' := by
  have HB : Hid (∀ i, i < len → ∃ b off, a = some ⟨b, off, none⟩ ∧ w.cell? ⟨b, off + i, none⟩ = some (.int .i64 (B i))) := hb.at_
  have hlen := hb.hlen
  clear hb
  by_cases h0 : len = 0
  · subst h0
    go_enter Try.func6, Try.ntmps6
    go_wp2_with fail
    refine Calls.mono (awake_any _) ?_
    rintro e v5 ⟨rfl, o5⟩
    have HO6 : Hid _ := o5
    clear o5
    go_wp2_with fail
    go_ret
    exact ⟨rfl, HO6.out⟩
  have dz : decide ((len : Int) = 0) = false := decide_eq_false (by omega)
  by_cases h60 : 60 < len
  · have d6 : decide ((60 : Int) < (len : Int)) = true := decide_eq_true (by omega)
    go_enter Try.func6, Try.ntmps6
    go_wp2_with fail
    refine Calls.mono (awake_any _) ?_
    rintro e v5 ⟨rfl, o5⟩
    have HO6 : Hid _ := o5
    clear o5
    go_wp2_with fail
    go_ret
    exact ⟨rfl, HO6.out⟩
  have d6 : decide ((60 : Int) < (len : Int)) = false := decide_eq_false (by omega)
  obtain ⟨r, er, hr⟩ := rem_any q0 (len : Int) (by omega)
  replace hr : r < len := by omega
  obtain ⟨C, hC⟩ : ∃ C : Nat → Int, C = fun i => B ((i + r) % len) := ⟨_, rfl⟩
  have HCC : Hid _ := hC
  have HRT : Hid (∀ j, j < 8 → run B len j = run C len j) := fun j hj => by rw [HCC.out]; exact run_turn B hr hj
  clear hC
  have HN : Hid (∀ W, _) := fun W => qnew_any m W
  have eL : IntKind.u64.wrap (len : Int) = (len : Int) := by rw [IntKind.wrap_u64]; omega
  go_enter Try.func6, Try.ntmps6
  go_wp2_with fail
  clear er eL dz d6
  refine Calls.mono (HN.out _) ?_
  rintro e w1 ⟨rfl, h1, o1⟩
  obtain ⟨b, hb⟩ : ∃ b, b = w.heap.size := ⟨_, rfl⟩
  rw [← hb] at h1 ⊢
  have O1 : Hid _ := o1
  have H1 : Hid _ := h1
  have HBW : Hid _ := hb
  clear h1 o1 hb
  go_wp2_with fail
  refine Calls.mono (HN.out _) ?_
  rintro e w2 ⟨rfl, h2, o2⟩
  have hlt := H1.out.lt
  obtain ⟨c, hc⟩ : ∃ c, c = w1.heap.size := ⟨_, rfl⟩
  rw [← hc] at h2 hlt ⊢
  have HD1 : Hid (Cnt b m (run B 0) w2) := H1.out.off o2 (fun h => h)
  have HD2 : Hid (Cnt c m (run C 0) w2) := h2
  have HO : Hid (Off (fun _ => False) w w2) := O1.out.trans o2 (fun _ _ h => h)
  have HE : Hid (b ≠ c ∧ w.heap.size ≤ b ∧ w.heap.size ≤ c) := ⟨by omega, by have := HBW.out; omega, by have := HBW.out; omega⟩
  clear h2 o2 O1 H1 HN HBW hlt hc
  go_wp2_with fail
  go_loopw [9, 10, 35] (fun s9 s10 s35 wr => ∃ (i : Nat) (x y : Int), s35 = .int .i64 (i : Int) ∧ s9 = .int .i64 x ∧ s10 = .int .i64 y ∧ x = (tld m (cnt (run B i) 8) : Int) ∧ y = (tld m (cnt (run C i) 8) : Int) ∧ i ≤ len ∧ Cnt b m (run B i) wr ∧ Cnt c m (run C i) wr ∧ Off (fun _ => False) w wr) (fun _ _ i _ => ((len : Int) - intOf i).toNat)
  case atStart =>
    have z : (0 : Int) = (tld m 0 : Int) := by unfold tld; rw [if_neg (by omega)]; rfl
    exact ⟨0, 0, 0, rfl, rfl, rfl, z, z, by omega, HD1.out, HD2.out, HO.out⟩
  case round =>
    obtain ⟨i, x, y, rfl, rfl, rfl, hx, hy, hi, hc, hd, ho⟩ := hrel
    clear HD1 HD2 HO
    have HC : Hid _ := hc
    have HD : Hid _ := hd
    have HO : Hid _ := ho
    have HX : Hid _ := hx
    have HY : Hid _ := hy
    have tb := tld_le m (cnt (run B i) 8)
    have tc := tld_le m (cnt (run C i) 8)
    have x0 : 0 ≤ x := by omega
    have x1 : x ≤ 1 := by omega
    have y0 : 0 ≤ y := by omega
    have y1 : y ≤ 1 := by omega
    clear hc hd ho hx hy tb tc
    by_cases hlt : i < len
    · have HTB : Hid _ := tells_cnt m B i
      have HTC : Hid _ := tells_cnt m C i
      obtain ⟨j, hj⟩ : ∃ j, j = (i + r) % len := ⟨_, rfl⟩
      have hjl : j < len := by rw [hj]; exact Nat.mod_lt _ (by omega)
      have ej : ((i : Int) + (r : Int)).tmod (len : Int) = (j : Int) := by
        rw [hj, Int.tmod_eq_emod_of_nonneg (by omega)]
        rfl
      have ec : C i = B j := by rw [HCC.out, hj]
      obtain ⟨g0, off, rfl, c0⟩ := HB.out i hlt
      obtain ⟨g1, off1, e1, c1⟩ := HB.out j hjl
      simp only [Option.some.injEq, Addr.mk.injEq, and_true] at e1
      obtain ⟨rfl, rfl⟩ := e1
      rw [← ec] at c1
      replace c0 := off_cell HO.out c0
      clear hj ec
      go_wp2_with fail
      refine Calls.mono (add_any HC.out) ?_
      rintro e v3 ⟨rfl, h3, o3⟩
      have HC3 : Hid (Cnt b m (run B (i + 1)) v3 ∧ Cnt c m (run C i) v3) := ⟨h3, HD.out.off o3 (fun e => by have e : c = b := e; exact HE.out.1 e.symm)⟩
      have HO3 : Hid (Off (fun _ => False) w v3) := HO.out.trans o3 (fun i hi e => absurd hi (by have e : i = b := e; have := HE.out; omega))
      clear h3 o3 HC HD HO c0
      replace c1 := off_cell HO3.out c1
      obtain ⟨T1, hT1⟩ : ∃ T, T = tells m (run B i) (B i) := ⟨_, rfl⟩
      have HT1 : Hid (tells m (run B i) (B i) = T1) := hT1.symm
      rw [← hT1]
      clear hT1
      cases T1
      · go_wp2_with fail
        refine Calls.mono (add_any HC3.out.2) ?_
        rintro e v4 ⟨rfl, h4, o4⟩
        have HD4 : Hid _ := h4
        have HC4 : Hid _ := HC3.out.1.off o4 (fun e => by have e : b = c := e; exact HE.out.1 e)
        have HO4 : Hid (Off (fun _ => False) w v4) := HO3.out.trans o4 (fun i hi e => absurd hi (by have e : i = c := e; have := HE.out; omega))
        clear h4 o4 HC3 HO3
        obtain ⟨T2, hT2⟩ : ∃ T, T = tells m (run C i) (C i) := ⟨_, rfl⟩
        have HT2 : Hid (tells m (run C i) (C i) = T2) := hT2.symm
        rw [← hT2]
        clear hT2
        cases T2
        · have HX2 : Hid (x = (tld m (cnt (run B (i + 1)) 8) : Int)) := by have := HTB.out; rw [HT1.out] at this; have := HX.out; show _ = _; simp at *; omega
          have HY2 : Hid (y = (tld m (cnt (run C (i + 1)) 8) : Int)) := by have := HTC.out; rw [HT2.out] at this; have := HY.out; show _ = _; simp at *; omega
          clear HT1 HT2 HTB HTC HX HY

          go_wp2_with fail
          go_roundw
          case rel => exact ⟨i + 1, x, y, by go_num, by first | rfl | go_num, by first | rfl | go_num, HX2.out, HY2.out, by omega, HC4.out, HD4.out, HO4.out⟩
          case measure => simp [intOf]; omega
        · have HX2 : Hid (x = (tld m (cnt (run B (i + 1)) 8) : Int)) := by have := HTB.out; rw [HT1.out] at this; have := HX.out; show _ = _; simp at *; omega
          have HY2 : Hid (y + 1 = (tld m (cnt (run C (i + 1)) 8) : Int)) := by have := HTC.out; rw [HT2.out] at this; have := HY.out; show _ = _; simp at *; omega
          clear HT1 HT2 HTB HTC HX HY

          go_wp2_with fail
          go_roundw
          case rel => exact ⟨i + 1, x, y + 1, by go_num, by first | rfl | go_num, by first | rfl | go_num, HX2.out, HY2.out, by omega, HC4.out, HD4.out, HO4.out⟩
          case measure => simp [intOf]; omega
      · go_wp2_with fail
        refine Calls.mono (add_any HC3.out.2) ?_
        rintro e v4 ⟨rfl, h4, o4⟩
        have HD4 : Hid _ := h4
        have HC4 : Hid _ := HC3.out.1.off o4 (fun e => by have e : b = c := e; exact HE.out.1 e)
        have HO4 : Hid (Off (fun _ => False) w v4) := HO3.out.trans o4 (fun i hi e => absurd hi (by have e : i = c := e; have := HE.out; omega))
        clear h4 o4 HC3 HO3
        obtain ⟨T2, hT2⟩ : ∃ T, T = tells m (run C i) (C i) := ⟨_, rfl⟩
        have HT2 : Hid (tells m (run C i) (C i) = T2) := hT2.symm
        rw [← hT2]
        clear hT2
        cases T2
        · have HX2 : Hid (x + 1 = (tld m (cnt (run B (i + 1)) 8) : Int)) := by have := HTB.out; rw [HT1.out] at this; have := HX.out; show _ = _; simp at *; omega
          have HY2 : Hid (y = (tld m (cnt (run C (i + 1)) 8) : Int)) := by have := HTC.out; rw [HT2.out] at this; have := HY.out; show _ = _; simp at *; omega
          clear HT1 HT2 HTB HTC HX HY

          go_wp2_with fail
          go_roundw
          case rel => exact ⟨i + 1, x + 1, y, by go_num, by first | rfl | go_num, by first | rfl | go_num, HX2.out, HY2.out, by omega, HC4.out, HD4.out, HO4.out⟩
          case measure => simp [intOf]; omega
        · have HX2 : Hid (x + 1 = (tld m (cnt (run B (i + 1)) 8) : Int)) := by have := HTB.out; rw [HT1.out] at this; have := HX.out; show _ = _; simp at *; omega
          have HY2 : Hid (y + 1 = (tld m (cnt (run C (i + 1)) 8) : Int)) := by have := HTC.out; rw [HT2.out] at this; have := HY.out; show _ = _; simp at *; omega
          clear HT1 HT2 HTB HTC HX HY

          go_wp2_with fail
          go_roundw
          case rel => exact ⟨i + 1, x + 1, y + 1, by go_num, by first | rfl | go_num, by first | rfl | go_num, HX2.out, HY2.out, by omega, HC4.out, HD4.out, HO4.out⟩
          case measure => simp [intOf]; omega
    · have d9 : decide ((i : Int) < (len : Int)) = false := decide_eq_false (by omega)
      obtain rfl : i = len := by omega
      have HK : Hid (cnt (run C i) 8 = cnt (run B i) 8) := cnt_congr fun j hj => (HRT.out j hj).symm
      rw [HK.out] at HY
      obtain ⟨f, hf⟩ : ∃ f, f = run B i := ⟨_, rfl⟩
      obtain ⟨g, hg⟩ : ∃ g, g = run C i := ⟨_, rfl⟩
      have HFG : Hid (∀ j, j < 8 → f j = g j) := by rw [hf, hg]; exact HRT.out
      have HK2 : Hid (cnt g 8 = cnt f 8) := by rw [hf, hg]; exact HK.out
      rw [← HX.out] at HY
      obtain rfl := HY.out
      have HCT : Hid (Cnt b m f wr) := by rw [hf]; exact HC.out
      have HDT : Hid (Cnt c m g wr) := by rw [hg]; exact HD.out
      have HOT : Hid (Off (fun _ => False) w wr) := HO.out
      clear HC HD HO hf hg HX HY HK HRT
      go_wp2_with fail
      go_loopw [60] (fun s60 wr' => ∃ j : Nat, s60 = .int .i64 (j : Int) ∧ j ≤ 8 ∧ Cnt b m f wr' ∧ Cnt c m g wr' ∧ Off (fun _ => False) w wr') (fun j _ => (8 - intOf j).toNat)
      case atStart => exact ⟨0, rfl, by omega, HCT.out, HDT.out, HOT.out⟩
      case round =>
        obtain ⟨j, rfl, hj, hc, hd, ho⟩ := hrel
        have HC5 : Hid _ := hc
        have HD5 : Hid _ := hd
        have HO5 : Hid _ := ho
        clear hc hd ho HCT HDT HOT
        by_cases hj8 : j < 8
        · have d1 : decide ((j : Int) < 8) = true := decide_eq_true (by omega)
          have HG : Hid _ := has_at HC5.out hj8
          have HG2 : Hid _ := has_at HD5.out hj8
          rw [← HFG.out j hj8] at HG2
          obtain ⟨y, hy⟩ : ∃ y, y = f j := ⟨_, rfl⟩
          rw [← hy] at HG HG2
          clear hy
          go_wp2_with fail
          refine Calls.mono HG.out ?_
          rintro e v5 ⟨rfl, hw⟩
          rw [hw]
          clear hw v5
          go_wp2_with fail
          refine Calls.mono HG2.out ?_
          rintro e v5 ⟨rfl, hw⟩
          rw [hw]
          clear hw v5
          cases y
          · go_wp2_with fail
            go_roundw
            case rel => exact ⟨j + 1, by go_num, by omega, HC5.out, HD5.out, HO5.out⟩
            case measure => simp [intOf]; omega
          · go_wp2_with fail
            go_roundw
            case rel => exact ⟨j + 1, by go_num, by omega, HC5.out, HD5.out, HO5.out⟩
            case measure => simp [intOf]; omega
        · obtain rfl : j = 8 := by omega
          have d1 : decide (((8 : Nat) : Int) < 8) = false := rfl
          go_wp2_with fail
          refine Calls.mono (len_any HC5.out) ?_
          rintro e v5 ⟨rfl, hw⟩
          rw [hw]
          clear hw v5
          go_wp2_with fail
          refine Calls.mono (len_any HD5.out) ?_
          rw [HK2.out]
          rintro e v5 ⟨rfl, hw⟩
          rw [hw]
          clear hw v5
          go_wp2_with fail
          refine Calls.mono (done_any HC5.out) ?_
          rintro e v5 ⟨rfl, k1, hw⟩
          have HD6 : Hid (Cnt c m g v5) := by rw [hw]; exact HD5.out.drewN _
          have HO6 : Hid (Off (fun _ => False) w v5) := by rw [hw]; exact HO5.out.drewN _
          clear hw HC5 HD5 HO5
          go_wp2_with fail
          refine Calls.mono (done_any HD6.out) ?_
          rw [HK2.out]
          rintro e v6 ⟨rfl, k2, hw⟩
          have HO7 : Hid (Off (fun _ => False) w v6) := by rw [hw]; exact HO6.out.drewN _
          clear hw HD6 HO6
          obtain ⟨z, hz⟩ : ∃ z, z = decide (m ≤ (cnt f 8 : Int)) := ⟨_, rfl⟩
          rw [← hz]
          clear hz
          cases z
          · go_wp2_with fail
            refine Calls.mono (awake_any _) ?_
            rintro e v5 ⟨rfl, o5⟩
            have HO8 : Hid _ := HO7.out.trans o5 (fun _ _ h => h)
            clear o5
            go_wp2_with fail
            go_ret
            exact ⟨rfl, HO8.out⟩
          · go_wp2_with fail
            refine Calls.mono (awake_any _) ?_
            rintro e v5 ⟨rfl, o5⟩
            have HO8 : Hid _ := HO7.out.trans o5 (fun _ _ h => h)
            clear o5
            go_wp2_with fail
            go_ret
            exact ⟨rfl, HO8.out⟩
end Go.Proofs.Ytapopmcdnpplbaa
