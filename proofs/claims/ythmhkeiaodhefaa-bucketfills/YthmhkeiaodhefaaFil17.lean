/- The walk of BucketFills. -/
import Derived.Test.YthmhkeiaodhefaaArg17
namespace Go.Proofs.Ythmhkeiaodhefaa
set_option maxRecDepth 100000
open Go.RowKit

set_option maxHeartbeats 8000000 in
theorem fills_walk (q0 q1 : Int) (a : Option Addr) (len cap : Nat) (B : Nat → Bool) (w : World) (_ : -9223372036854775808 ≤ q0 ∧ q0 ≤ 9223372036854775807) (_ : -9223372036854775808 ≤ q1 ∧ q1 ≤ 9223372036854775807) (hb : Boos w a len cap B) :
    Calls Try.prog 6 #[.int .i64 q0, .int .i64 q1, .slice a len cap] w fun e w' => e = .returned (.bool true) ∧ Off (fun _ => False) w w' := by
  have HB : Hid (∀ i, i < len → ∃ b off, a = some ⟨b, off, none⟩ ∧ w.cell? ⟨b, off + i, none⟩ = some (.bool (B i))) := hb.at_
  have hlen : len ≤ 9223372036854775807 := Nat.le_trans hb.hlen hb.hcap
  clear hb
  obtain ⟨r0, er, hr0⟩ := rem_any q0 20 (by omega)
  obtain ⟨m, em, hm⟩ := rem_any q1 100 (by omega)
  obtain ⟨r, hr⟩ : ∃ r : Nat, r = r0 + 1 := ⟨_, rfl⟩
  obtain ⟨D, hD⟩ : ∃ D : Nat, D = m / r := ⟨_, rfl⟩
  have hr1 : 1 ≤ r := by omega
  have HD : Hid ((m : Int) < (r : Int) * ((D : Int) + 1)) := by
    show _ < _
    have h := Nat.lt_mul_div_succ m (show 0 < r by omega)
    rw [← hD] at h
    have h2 : ((m : Nat) : Int) < ((r * (D + 1) : Nat) : Int) := by exact_mod_cast h
    simpa using h2
  have hD100 : D ≤ 100 := by
    have := Nat.div_le_self m r
    omega
  have ed : (m : Int).tdiv (r : Int) = (D : Int) := by
    rw [Int.tdiv_eq_ediv_of_nonneg (by omega), hD]
    rfl
  have hrz : ¬ (r : Int) = 0 := by omega
  have HN : Hid _ := bnew_any (r : Int) (m : Int) w
  rw [show cl (r : Int) = (r : Int) by unfold cl; omega, show cl (m : Int) = (m : Int) by unfold cl; omega] at HN
  clear hD
  go_enter Try.func6, Try.ntmps6
  go_upto_region 2 with fail
  rw [show ((r0 : Int) + 1) = (r : Int) by omega]
  clear er hr
  go_wp2_with fail
  refine Calls.mono HN.out ?_
  rintro e w1 ⟨b, rfl, h1⟩
  have H1 : Hid _ := h1
  clear h1 HN
  go_wp2_with fail
  go_loopw [24] (fun s24 wr => ∃ (i : Nat) (n k : Int), s24 = .int .i64 (i : Int) ∧ i ≤ len ∧ i ≤ 200 ∧ k ≤ (i : Int) ∧ Bkt (Sin w) b (r : Int) (m : Int) n k wr) (fun i _ => ((len : Int) - intOf i).toNat)
  case atStart => exact ⟨0, m, 0, rfl, by omega, by omega, by omega, H1.out⟩
  case round =>
    obtain ⟨i, n, k, rfl, hi, hi3, hk, h⟩ := hrel
    have l0 := h.low
    have HK : Hid _ := h
    clear h H1
    by_cases hlt : i < len
    · obtain ⟨g, off, rfl, c0⟩ := HB.out i (by omega)
      replace c0 := sin_cell HK.out.x c0
      by_cases h200 : 200 ≤ i
      · have hd2 : decide ((200 : Int) ≤ (i : Int)) = true := by simp; omega
        go_wp2_with fail
        clear c0 hlt h200 hlen hi
        have HK2 : Hid _ := HK
        clear HK
        go_loopw [50] (fun s50 wr => ∃ (j : Nat) (x : Int), s50 = .int .i64 (j : Int) ∧ j ≤ D + 1 ∧ x ≤ (m : Int) ∧ ((m : Int) ≤ x ∨ (r : Int) * (j : Int) ≤ x) ∧ Bkt (Sin w) b (r : Int) (m : Int) x k wr) (fun i _ => (((D : Int) + 1) - intOf i).toNat)
        case atStart => exact ⟨0, n, rfl, by omega, by omega, by simp; omega, HK2.out⟩
        case round =>
          obtain ⟨j, x, rfl, hj, hxm, hx, h⟩ := hrel
          have lx := h.low
          have HK : Hid _ := h
          clear h HK2
          by_cases hjd : j < D + 1
          · have HT : Hid _ := tick_any HK.out
            have hN : min (m : Int) (x + (r : Int)) ≤ (m : Int) ∧ ((m : Int) ≤ min (m : Int) (x + (r : Int)) ∨ (r : Int) * ((j + 1 : Nat) : Int) ≤ min (m : Int) (x + (r : Int))) := by
              rw [show (r : Int) * ((j + 1 : Nat) : Int) = (r : Int) * (j : Int) + (r : Int) by rw [show ((j + 1 : Nat) : Int) = (j : Int) + 1 by omega, Int.mul_add, Int.mul_one]]
              omega
            generalize min (m : Int) (x + (r : Int)) = N at *
            go_wp2_with fail
            refine Calls.mono HT.out ?_
            rintro e w3 ⟨rfl, h3⟩
            have H3 : Hid _ := h3
            clear h3 HT
            go_wp2_with fail
            go_roundw
            case rel => exact ⟨j + 1, N, by go_num, by omega, hN.1, hN.2, H3.out⟩
            case measure => simp [intOf]; omega
          · have hfull : x = (m : Int) := by
              have h1 := HD.out
              rw [show (j : Int) = (D : Int) + 1 by omega] at hx
              omega
            subst hfull
            have hd3 : decide ((j : Int) < (D : Int) + 1) = false := by simp; omega
            go_wp2_with fail
            clear hx hxm hjd hj hd3
            go_loopw [56] (fun s56 wr => ∃ j : Nat, s56 = .int .i64 (j : Int) ∧ j ≤ m ∧ Bkt (Sin w) b (r : Int) (m : Int) ((m : Int) - (j : Int)) (k + (j : Int)) wr) (fun i _ => ((m : Int) - intOf i).toNat)
            case atStart => exact ⟨0, rfl, by omega, by simpa using HK.out⟩
            case round =>
              obtain ⟨j, rfl, hj, h⟩ := hrel
              have HL : Hid _ := h
              clear h HK
              by_cases hjm : j < m
              · have HT : Hid _ := take_some HL.out (by omega) (by omega)
                go_wp2_with fail
                refine Calls.mono HT.out ?_
                rintro e w3 ⟨rfl, h3⟩
                have H3 : Hid _ := h3
                clear h3 HT
                go_wp2_with fail
                go_roundw
                case rel => exact ⟨j + 1, by go_num, by omega, by have := H3.out; rwa [show (m : Int) - ((j + 1 : Nat) : Int) = (m : Int) - (j : Int) - 1 by omega, show k + ((j + 1 : Nat) : Int) = k + (j : Int) + 1 by omega]⟩
                case measure => simp [intOf]; omega
              · obtain rfl : j = m := by omega
                rw [show (j : Int) - (j : Int) = 0 by omega] at HL
                have HT : Hid _ := take_none HL.out rfl
                go_wp2_with fail
                refine Calls.mono HT.out ?_
                rintro e w3 ⟨rfl, h3⟩
                have H3 : Hid _ := h3
                clear h3 HT
                go_wp2_with fail
                refine Calls.mono (left_any H3.out) ?_
                rintro e w4 ⟨rfl, hw⟩
                rw [hw]
                clear hw w4
                go_wp2_with fail
                refine Calls.mono (awake_any _) ?_
                rintro e w5 ⟨rfl, o3⟩
                have HO : Hid _ := H3.out.x.trans o3 (fun _ _ h => h)
                clear o3
                go_wp2_with fail
                go_ret
                exact ⟨rfl, HO.out⟩
      · cases hbi : B i
        · rw [hbi] at c0
          clear hbi
          have HT : Hid _ := tick_any HK.out
          have hN : 0 ≤ min (m : Int) (n + (r : Int)) ∧ min (m : Int) (n + (r : Int)) ≤ (m : Int) := by omega
          generalize min (m : Int) (n + (r : Int)) = N at *
          go_wp2_with fail
          refine Calls.mono HT.out ?_
          rintro e w3 ⟨rfl, h3⟩
          have H3 : Hid _ := h3
          clear h3 HT c0
          go_wp2_with fail
          refine Calls.mono (left_any H3.out) ?_
          rintro e w4 ⟨rfl, hw⟩
          rw [hw]
          clear hw w4
          go_wp2_with fail
          refine Calls.mono (left_any H3.out) ?_
          rintro e w4 ⟨rfl, hw⟩
          rw [hw]
          clear hw w4
          go_wp2_with fail
          go_roundw
          case rel => exact ⟨i + 1, N, k, by go_num, by omega, by omega, by omega, H3.out⟩
          case measure => simp [intOf]; omega
        · rw [hbi] at c0
          clear hbi
          by_cases hn : 0 < n
          · have HT : Hid _ := take_some HK.out hn (by omega)
            go_wp2_with fail
            refine Calls.mono HT.out ?_
            rintro e w3 ⟨rfl, h3⟩
            have H3 : Hid _ := h3
            clear h3 HT c0
            go_wp2_with fail
            refine Calls.mono (left_any H3.out) ?_
            rintro e w4 ⟨rfl, hw⟩
            rw [hw]
            clear hw w4
            go_wp2_with fail
            refine Calls.mono (left_any H3.out) ?_
            rintro e w4 ⟨rfl, hw⟩
            rw [hw]
            clear hw w4
            go_wp2_with fail
            go_roundw
            case rel => exact ⟨i + 1, n - 1, k + 1, by go_num, by omega, by omega, by omega, H3.out⟩
            case measure => simp [intOf]; omega
          · have HT : Hid _ := take_none HK.out (by omega)
            go_wp2_with fail
            refine Calls.mono HT.out ?_
            rintro e w3 ⟨rfl, h3⟩
            have H3 : Hid _ := h3
            clear h3 HT c0
            go_wp2_with fail
            refine Calls.mono (left_any H3.out) ?_
            rintro e w4 ⟨rfl, hw⟩
            rw [hw]
            clear hw w4
            go_wp2_with fail
            refine Calls.mono (left_any H3.out) ?_
            rintro e w4 ⟨rfl, hw⟩
            rw [hw]
            clear hw w4
            go_wp2_with fail
            go_roundw
            case rel => exact ⟨i + 1, n, k, by go_num, by omega, by omega, by omega, H3.out⟩
            case measure => simp [intOf]; omega
    · have hd2 : decide ((i : Int) < (len : Int)) = false := by simp; omega
      go_wp2_with fail
      clear hlt hlen hi
      have HK2 : Hid _ := HK
      clear HK
      go_loopw [50] (fun s50 wr => ∃ (j : Nat) (x : Int), s50 = .int .i64 (j : Int) ∧ j ≤ D + 1 ∧ x ≤ (m : Int) ∧ ((m : Int) ≤ x ∨ (r : Int) * (j : Int) ≤ x) ∧ Bkt (Sin w) b (r : Int) (m : Int) x k wr) (fun i _ => (((D : Int) + 1) - intOf i).toNat)
      case atStart => exact ⟨0, n, rfl, by omega, by omega, by simp; omega, HK2.out⟩
      case round =>
        obtain ⟨j, x, rfl, hj, hxm, hx, h⟩ := hrel
        have lx := h.low
        have HK : Hid _ := h
        clear h HK2
        by_cases hjd : j < D + 1
        · have HT : Hid _ := tick_any HK.out
          have hN : min (m : Int) (x + (r : Int)) ≤ (m : Int) ∧ ((m : Int) ≤ min (m : Int) (x + (r : Int)) ∨ (r : Int) * ((j + 1 : Nat) : Int) ≤ min (m : Int) (x + (r : Int))) := by
            rw [show (r : Int) * ((j + 1 : Nat) : Int) = (r : Int) * (j : Int) + (r : Int) by rw [show ((j + 1 : Nat) : Int) = (j : Int) + 1 by omega, Int.mul_add, Int.mul_one]]
            omega
          generalize min (m : Int) (x + (r : Int)) = N at *
          go_wp2_with fail
          refine Calls.mono HT.out ?_
          rintro e w3 ⟨rfl, h3⟩
          have H3 : Hid _ := h3
          clear h3 HT
          go_wp2_with fail
          go_roundw
          case rel => exact ⟨j + 1, N, by go_num, by omega, hN.1, hN.2, H3.out⟩
          case measure => simp [intOf]; omega
        · have hfull : x = (m : Int) := by
            have h1 := HD.out
            rw [show (j : Int) = (D : Int) + 1 by omega] at hx
            omega
          subst hfull
          have hd3 : decide ((j : Int) < (D : Int) + 1) = false := by simp; omega
          go_wp2_with fail
          clear hx hxm hjd hj hd3
          go_loopw [56] (fun s56 wr => ∃ j : Nat, s56 = .int .i64 (j : Int) ∧ j ≤ m ∧ Bkt (Sin w) b (r : Int) (m : Int) ((m : Int) - (j : Int)) (k + (j : Int)) wr) (fun i _ => ((m : Int) - intOf i).toNat)
          case atStart => exact ⟨0, rfl, by omega, by simpa using HK.out⟩
          case round =>
            obtain ⟨j, rfl, hj, h⟩ := hrel
            have HL : Hid _ := h
            clear h HK
            by_cases hjm : j < m
            · have HT : Hid _ := take_some HL.out (by omega) (by omega)
              go_wp2_with fail
              refine Calls.mono HT.out ?_
              rintro e w3 ⟨rfl, h3⟩
              have H3 : Hid _ := h3
              clear h3 HT
              go_wp2_with fail
              go_roundw
              case rel => exact ⟨j + 1, by go_num, by omega, by have := H3.out; rwa [show (m : Int) - ((j + 1 : Nat) : Int) = (m : Int) - (j : Int) - 1 by omega, show k + ((j + 1 : Nat) : Int) = k + (j : Int) + 1 by omega]⟩
              case measure => simp [intOf]; omega
            · obtain rfl : j = m := by omega
              rw [show (j : Int) - (j : Int) = 0 by omega] at HL
              have HT : Hid _ := take_none HL.out rfl
              go_wp2_with fail
              refine Calls.mono HT.out ?_
              rintro e w3 ⟨rfl, h3⟩
              have H3 : Hid _ := h3
              clear h3 HT
              go_wp2_with fail
              refine Calls.mono (left_any H3.out) ?_
              rintro e w4 ⟨rfl, hw⟩
              rw [hw]
              clear hw w4
              go_wp2_with fail
              refine Calls.mono (awake_any _) ?_
              rintro e w5 ⟨rfl, o3⟩
              have HO : Hid _ := H3.out.x.trans o3 (fun _ _ h => h)
              clear o3
              go_wp2_with fail
              go_ret
              exact ⟨rfl, HO.out⟩
end Go.Proofs.Ythmhkeiaodhefaa
