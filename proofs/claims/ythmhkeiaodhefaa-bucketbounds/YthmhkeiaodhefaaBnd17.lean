/- The walk of BucketBounds. -/
import Derived.Test.YthmhkeiaodhefaaArg17
namespace Go.Proofs.Ythmhkeiaodhefaa
set_option maxRecDepth 100000
open Go.RowKit

theorem few_mul {r t : Int} (h0 : 0 ≤ r) (h1 : r < 50) (h2 : 0 ≤ t) (h3 : t ≤ 400) : 0 ≤ r * t ∧ r * t ≤ 20000 := by
  constructor
  · exact Int.mul_nonneg h0 h2
  · have := Int.mul_le_mul (show r ≤ 50 by omega) h3 h2 (by omega : (0 : Int) ≤ 50)
    omega

set_option maxHeartbeats 8000000 in
theorem bounds_walk (q0 q1 : Int) (a : Option Addr) (len cap : Nat) (B : Nat → Bool) (q3 q4 : Int) (w : World) (_ : -9223372036854775808 ≤ q0 ∧ q0 ≤ 9223372036854775807) (_ : -9223372036854775808 ≤ q1 ∧ q1 ≤ 9223372036854775807) (hb : Boos w a len cap B) (_ : -9223372036854775808 ≤ q3 ∧ q3 ≤ 9223372036854775807) (_ : -9223372036854775808 ≤ q4 ∧ q4 ≤ 9223372036854775807) :
    Calls Try.prog 5 #[.int .i64 q0, .int .i64 q1, .slice a len cap, .int .i64 q3, .int .i64 q4] w fun e w' => e = .returned (.bool true) ∧ Off (fun _ => False) w w' := by
  have HB : Hid (∀ i, i < len → ∃ b off, a = some ⟨b, off, none⟩ ∧ w.cell? ⟨b, off + i, none⟩ = some (.bool (B i))) := hb.at_
  have hlen : len ≤ 9223372036854775807 := Nat.le_trans hb.hlen hb.hcap
  have hcap := hb.hlen
  clear hb
  obtain ⟨r, er, hr⟩ := rem_any q0 50 (by omega)
  obtain ⟨m, em, hm⟩ := rem_any q1 50 (by omega)
  have HN : Hid (∀ q, Calls Try.prog 8 #[.int .i64 (r : Int), .int .i64 (m : Int)] (w.drewN q) fun e w' => ∃ b : Nat, e = .returned (.pointer (some ⟨b, 0, none⟩)) ∧ Bkt (Sin w) b (r : Int) (m : Int) (m : Int) 0 w') := fun q => by
    have h := bnew_any (r : Int) (m : Int) (w.drewN q)
    rw [show cl (r : Int) = (r : Int) by unfold cl; omega, show cl (m : Int) = (m : Int) by unfold cl; omega] at h
    exact h.mono fun e w' ⟨b, h1, h2⟩ => ⟨b, h1, h2.undrew⟩
  by_cases h4 : 400 < len
  · obtain ⟨f, ef, hf⟩ := rem_any q3 401 (by omega)
    obtain ⟨t, et, ht⟩ := rem_any q4 401 (by omega)
    have HS4 := slice_bo a len cap 400 (by omega)
    go_enter Try.func5, Try.ntmps5
    go_wp2_with fail
    go_quiet (fail)
    by_cases hsw : t < f
    · have HS := slice_bo a 400 cap f (by omega)
      go_wp2_with fail
      refine Calls.mono (HN.out _) ?_
      rintro e w1 ⟨b, rfl, h1⟩
      have H1 : Hid _ := h1
      clear h1 HN
      go_wp2_with fail
      go_loopw [12, 13, 57] (fun s12 s13 s57 wr => ∃ (T F : Int) (i : Nat) (n k : Int), s12 = .int .i64 T ∧ s13 = .int .i64 F ∧ s57 = .int .i64 (i : Int) ∧ i ≤ f ∧ 0 ≤ T ∧ T ≤ (i : Int) ∧ 0 ≤ F ∧ F ≤ k ∧ k ≤ (i : Int) ∧ k - F + n ≤ (m : Int) + (r : Int) * T ∧ Bkt (Sin w) b r m n k wr) (fun _ _ i _ => ((f : Int) - intOf i).toNat)
      case atStart => exact ⟨0, 0, 0, m, 0, rfl, rfl, rfl, by omega, by omega, by omega, by omega, by omega, by omega, by simp, H1.out⟩
      case round =>
        obtain ⟨T, F, i, n, k, rfl, rfl, rfl, hi, hT0, hT1, hF0, hF1, hk, hbal, h⟩ := hrel
        have l0 := h.low
        have HK : Hid _ := h
        clear h H1
        have fm := few_mul (r := (r : Int)) (t := T) (by omega) (by omega) (by omega) (by omega)
        by_cases hlt : i < f
        · obtain ⟨g, off, rfl, c0⟩ := HB.out i (by omega)
          replace c0 := sin_cell HK.out.x c0
          by_cases hif : i = t
          · subst hif
            cases hbi : B i
            · rw [hbi] at c0
              clear hbi
              by_cases hn : 0 < n
              · have HT : Hid _ := take_some HK.out hn (by omega)
                go_wp2_with fail
                refine Calls.mono (taken_any HK.out) ?_
                rintro e w4 ⟨rfl, hw⟩
                rw [hw]
                clear hw w4
                go_wp2_with fail
                refine Calls.mono HT.out ?_
                rintro e w3 ⟨rfl, h3⟩
                have H3 : Hid _ := h3
                clear h3 HT c0
                go_wp2_with fail
                go_roundw
                case rel => exact ⟨0, k, i + 1, n - 1, k + 1, by go_num, by go_num, by go_num, by omega, by omega, by omega, by omega, by omega, by omega, by simp; omega, H3.out⟩
                case measure => simp [intOf]; omega
              · have HT : Hid _ := take_none HK.out (by omega)
                go_wp2_with fail
                refine Calls.mono (taken_any HK.out) ?_
                rintro e w4 ⟨rfl, hw⟩
                rw [hw]
                clear hw w4
                go_wp2_with fail
                refine Calls.mono HT.out ?_
                rintro e w3 ⟨rfl, h3⟩
                have H3 : Hid _ := h3
                clear h3 HT c0
                go_wp2_with fail
                go_roundw
                case rel => exact ⟨0, k, i + 1, n, k, by go_num, by go_num, by go_num, by omega, by omega, by omega, by omega, by omega, by omega, by simp; omega, H3.out⟩
                case measure => simp [intOf]; omega
            · rw [hbi] at c0
              clear hbi
              have HT : Hid _ := tick_any HK.out
              have hN : 0 ≤ min (m : Int) (n + (r : Int)) ∧ min (m : Int) (n + (r : Int)) ≤ n + (r : Int) := by omega
              generalize min (m : Int) (n + (r : Int)) = N at *
              go_wp2_with fail
              refine Calls.mono (taken_any HK.out) ?_
              rintro e w4 ⟨rfl, hw⟩
              rw [hw]
              clear hw w4
              go_wp2_with fail
              refine Calls.mono HT.out ?_
              rintro e w3 ⟨rfl, h3⟩
              have H3 : Hid _ := h3
              clear h3 HT c0
              go_wp2_with fail
              go_roundw
              case rel => exact ⟨1, k, i + 1, N, k, by go_num, by go_num, by go_num, by omega, by omega, by omega, by omega, by omega, by omega, by simp; omega, H3.out⟩
              case measure => simp [intOf]; omega
          · have hif2 : ¬ (i : Int) = (t : Int) := by omega
            cases hbi : B i
            · rw [hbi] at c0
              clear hbi
              by_cases hn : 0 < n
              · have HT : Hid _ := take_some HK.out hn (by omega)
                go_wp2_with fail
                refine Calls.mono HT.out ?_
                rintro e w3 ⟨rfl, h3⟩
                have H3 : Hid _ := h3
                clear h3 HT c0
                go_wp2_with fail
                go_roundw
                case rel => exact ⟨T, F, i + 1, n - 1, k + 1, by go_num, by go_num, by go_num, by omega, by omega, by omega, by omega, by omega, by omega, by omega, H3.out⟩
                case measure => simp [intOf]; omega
              · have HT : Hid _ := take_none HK.out (by omega)
                go_wp2_with fail
                refine Calls.mono HT.out ?_
                rintro e w3 ⟨rfl, h3⟩
                have H3 : Hid _ := h3
                clear h3 HT c0
                go_wp2_with fail
                go_roundw
                case rel => exact ⟨T, F, i + 1, n, k, by go_num, by go_num, by go_num, by omega, by omega, by omega, by omega, by omega, by omega, by omega, H3.out⟩
                case measure => simp [intOf]; omega
            · rw [hbi] at c0
              clear hbi
              have HT : Hid _ := tick_any HK.out
              have hN : 0 ≤ min (m : Int) (n + (r : Int)) ∧ min (m : Int) (n + (r : Int)) ≤ n + (r : Int) := by omega
              generalize min (m : Int) (n + (r : Int)) = N at *
              go_wp2_with fail
              refine Calls.mono HT.out ?_
              rintro e w3 ⟨rfl, h3⟩
              have H3 : Hid _ := h3
              clear h3 HT c0
              go_wp2_with fail
              go_roundw
              case rel => exact ⟨T + 1, F, i + 1, N, k, by go_num, by go_num, by go_num, by omega, by omega, by omega, by omega, by omega, by omega, by rw [show (r : Int) * (T + 1) = (r : Int) * T + (r : Int) by rw [Int.mul_add, Int.mul_one]]; omega, H3.out⟩
              case measure => simp [intOf]; omega
        · by_cases hft : t = f
          · have hft2 : (t : Int) = (f : Int) := by omega
            go_wp2_with fail
            refine Calls.mono (awake_any _) ?_
            rintro e w3 ⟨rfl, o3⟩
            have HO : Hid _ := HK.out.x.trans o3 (fun _ _ h => h)
            clear o3
            go_wp2_with fail
            go_ret
            exact ⟨rfl, HO.out⟩
          · have hft2 : ¬ (t : Int) = (f : Int) := by omega
            go_wp2_with fail
            refine Calls.mono (taken_any HK.out) ?_
            rintro e w4 ⟨rfl, hw⟩
            rw [hw]
            clear hw w4
            go_wp2_with fail
            refine Calls.mono (awake_any _) ?_
            rintro e w3 ⟨rfl, o3⟩
            have HO : Hid _ := HK.out.x.trans o3 (fun _ _ h => h)
            clear o3
            go_wp2_with fail
            go_ret
            exact ⟨rfl, HO.out⟩
    · have HS := slice_bo a 400 cap t (by omega)
      go_wp2_with fail
      refine Calls.mono (HN.out _) ?_
      rintro e w1 ⟨b, rfl, h1⟩
      have H1 : Hid _ := h1
      clear h1 HN
      go_wp2_with fail
      go_loopw [12, 13, 57] (fun s12 s13 s57 wr => ∃ (T F : Int) (i : Nat) (n k : Int), s12 = .int .i64 T ∧ s13 = .int .i64 F ∧ s57 = .int .i64 (i : Int) ∧ i ≤ t ∧ 0 ≤ T ∧ T ≤ (i : Int) ∧ 0 ≤ F ∧ F ≤ k ∧ k ≤ (i : Int) ∧ k - F + n ≤ (m : Int) + (r : Int) * T ∧ Bkt (Sin w) b r m n k wr) (fun _ _ i _ => ((t : Int) - intOf i).toNat)
      case atStart => exact ⟨0, 0, 0, m, 0, rfl, rfl, rfl, by omega, by omega, by omega, by omega, by omega, by omega, by simp, H1.out⟩
      case round =>
        obtain ⟨T, F, i, n, k, rfl, rfl, rfl, hi, hT0, hT1, hF0, hF1, hk, hbal, h⟩ := hrel
        have l0 := h.low
        have HK : Hid _ := h
        clear h H1
        have fm := few_mul (r := (r : Int)) (t := T) (by omega) (by omega) (by omega) (by omega)
        by_cases hlt : i < t
        · obtain ⟨g, off, rfl, c0⟩ := HB.out i (by omega)
          replace c0 := sin_cell HK.out.x c0
          by_cases hif : i = f
          · subst hif
            cases hbi : B i
            · rw [hbi] at c0
              clear hbi
              by_cases hn : 0 < n
              · have HT : Hid _ := take_some HK.out hn (by omega)
                go_wp2_with fail
                refine Calls.mono (taken_any HK.out) ?_
                rintro e w4 ⟨rfl, hw⟩
                rw [hw]
                clear hw w4
                go_wp2_with fail
                refine Calls.mono HT.out ?_
                rintro e w3 ⟨rfl, h3⟩
                have H3 : Hid _ := h3
                clear h3 HT c0
                go_wp2_with fail
                go_roundw
                case rel => exact ⟨0, k, i + 1, n - 1, k + 1, by go_num, by go_num, by go_num, by omega, by omega, by omega, by omega, by omega, by omega, by simp; omega, H3.out⟩
                case measure => simp [intOf]; omega
              · have HT : Hid _ := take_none HK.out (by omega)
                go_wp2_with fail
                refine Calls.mono (taken_any HK.out) ?_
                rintro e w4 ⟨rfl, hw⟩
                rw [hw]
                clear hw w4
                go_wp2_with fail
                refine Calls.mono HT.out ?_
                rintro e w3 ⟨rfl, h3⟩
                have H3 : Hid _ := h3
                clear h3 HT c0
                go_wp2_with fail
                go_roundw
                case rel => exact ⟨0, k, i + 1, n, k, by go_num, by go_num, by go_num, by omega, by omega, by omega, by omega, by omega, by omega, by simp; omega, H3.out⟩
                case measure => simp [intOf]; omega
            · rw [hbi] at c0
              clear hbi
              have HT : Hid _ := tick_any HK.out
              have hN : 0 ≤ min (m : Int) (n + (r : Int)) ∧ min (m : Int) (n + (r : Int)) ≤ n + (r : Int) := by omega
              generalize min (m : Int) (n + (r : Int)) = N at *
              go_wp2_with fail
              refine Calls.mono (taken_any HK.out) ?_
              rintro e w4 ⟨rfl, hw⟩
              rw [hw]
              clear hw w4
              go_wp2_with fail
              refine Calls.mono HT.out ?_
              rintro e w3 ⟨rfl, h3⟩
              have H3 : Hid _ := h3
              clear h3 HT c0
              go_wp2_with fail
              go_roundw
              case rel => exact ⟨1, k, i + 1, N, k, by go_num, by go_num, by go_num, by omega, by omega, by omega, by omega, by omega, by omega, by simp; omega, H3.out⟩
              case measure => simp [intOf]; omega
          · have hif2 : ¬ (i : Int) = (f : Int) := by omega
            cases hbi : B i
            · rw [hbi] at c0
              clear hbi
              by_cases hn : 0 < n
              · have HT : Hid _ := take_some HK.out hn (by omega)
                go_wp2_with fail
                refine Calls.mono HT.out ?_
                rintro e w3 ⟨rfl, h3⟩
                have H3 : Hid _ := h3
                clear h3 HT c0
                go_wp2_with fail
                go_roundw
                case rel => exact ⟨T, F, i + 1, n - 1, k + 1, by go_num, by go_num, by go_num, by omega, by omega, by omega, by omega, by omega, by omega, by omega, H3.out⟩
                case measure => simp [intOf]; omega
              · have HT : Hid _ := take_none HK.out (by omega)
                go_wp2_with fail
                refine Calls.mono HT.out ?_
                rintro e w3 ⟨rfl, h3⟩
                have H3 : Hid _ := h3
                clear h3 HT c0
                go_wp2_with fail
                go_roundw
                case rel => exact ⟨T, F, i + 1, n, k, by go_num, by go_num, by go_num, by omega, by omega, by omega, by omega, by omega, by omega, by omega, H3.out⟩
                case measure => simp [intOf]; omega
            · rw [hbi] at c0
              clear hbi
              have HT : Hid _ := tick_any HK.out
              have hN : 0 ≤ min (m : Int) (n + (r : Int)) ∧ min (m : Int) (n + (r : Int)) ≤ n + (r : Int) := by omega
              generalize min (m : Int) (n + (r : Int)) = N at *
              go_wp2_with fail
              refine Calls.mono HT.out ?_
              rintro e w3 ⟨rfl, h3⟩
              have H3 : Hid _ := h3
              clear h3 HT c0
              go_wp2_with fail
              go_roundw
              case rel => exact ⟨T + 1, F, i + 1, N, k, by go_num, by go_num, by go_num, by omega, by omega, by omega, by omega, by omega, by omega, by rw [show (r : Int) * (T + 1) = (r : Int) * T + (r : Int) by rw [Int.mul_add, Int.mul_one]]; omega, H3.out⟩
              case measure => simp [intOf]; omega
        · by_cases hft : f = t
          · have hft2 : (f : Int) = (t : Int) := by omega
            go_wp2_with fail
            refine Calls.mono (awake_any _) ?_
            rintro e w3 ⟨rfl, o3⟩
            have HO : Hid _ := HK.out.x.trans o3 (fun _ _ h => h)
            clear o3
            go_wp2_with fail
            go_ret
            exact ⟨rfl, HO.out⟩
          · have hft2 : ¬ (f : Int) = (t : Int) := by omega
            go_wp2_with fail
            refine Calls.mono (taken_any HK.out) ?_
            rintro e w4 ⟨rfl, hw⟩
            rw [hw]
            clear hw w4
            go_wp2_with fail
            refine Calls.mono (awake_any _) ?_
            rintro e w3 ⟨rfl, o3⟩
            have HO : Hid _ := HK.out.x.trans o3 (fun _ _ h => h)
            clear o3
            go_wp2_with fail
            go_ret
            exact ⟨rfl, HO.out⟩
  · obtain ⟨f, ef, hf⟩ := rem_any q3 ((len : Int) + 1) (by omega)
    obtain ⟨t, et, ht⟩ := rem_any q4 ((len : Int) + 1) (by omega)
    have ew : IntKind.u64.wrap ((len : Int) + 1) = ((len : Int) + 1) := by rw [IntKind.wrap_u64]; omega
    go_enter Try.func5, Try.ntmps5
    go_wp2_with fail
    go_quiet (fail)
    by_cases hsw : t < f
    · have HS := slice_bo a len cap f (by omega)
      go_wp2_with fail
      refine Calls.mono (HN.out _) ?_
      rintro e w1 ⟨b, rfl, h1⟩
      have H1 : Hid _ := h1
      clear h1 HN
      go_wp2_with fail
      go_loopw [12, 13, 57] (fun s12 s13 s57 wr => ∃ (T F : Int) (i : Nat) (n k : Int), s12 = .int .i64 T ∧ s13 = .int .i64 F ∧ s57 = .int .i64 (i : Int) ∧ i ≤ f ∧ 0 ≤ T ∧ T ≤ (i : Int) ∧ 0 ≤ F ∧ F ≤ k ∧ k ≤ (i : Int) ∧ k - F + n ≤ (m : Int) + (r : Int) * T ∧ Bkt (Sin w) b r m n k wr) (fun _ _ i _ => ((f : Int) - intOf i).toNat)
      case atStart => exact ⟨0, 0, 0, m, 0, rfl, rfl, rfl, by omega, by omega, by omega, by omega, by omega, by omega, by simp, H1.out⟩
      case round =>
        obtain ⟨T, F, i, n, k, rfl, rfl, rfl, hi, hT0, hT1, hF0, hF1, hk, hbal, h⟩ := hrel
        have l0 := h.low
        have HK : Hid _ := h
        clear h H1
        have fm := few_mul (r := (r : Int)) (t := T) (by omega) (by omega) (by omega) (by omega)
        by_cases hlt : i < f
        · obtain ⟨g, off, rfl, c0⟩ := HB.out i (by omega)
          replace c0 := sin_cell HK.out.x c0
          by_cases hif : i = t
          · subst hif
            cases hbi : B i
            · rw [hbi] at c0
              clear hbi
              by_cases hn : 0 < n
              · have HT : Hid _ := take_some HK.out hn (by omega)
                go_wp2_with fail
                refine Calls.mono (taken_any HK.out) ?_
                rintro e w4 ⟨rfl, hw⟩
                rw [hw]
                clear hw w4
                go_wp2_with fail
                refine Calls.mono HT.out ?_
                rintro e w3 ⟨rfl, h3⟩
                have H3 : Hid _ := h3
                clear h3 HT c0
                go_wp2_with fail
                go_roundw
                case rel => exact ⟨0, k, i + 1, n - 1, k + 1, by go_num, by go_num, by go_num, by omega, by omega, by omega, by omega, by omega, by omega, by simp; omega, H3.out⟩
                case measure => simp [intOf]; omega
              · have HT : Hid _ := take_none HK.out (by omega)
                go_wp2_with fail
                refine Calls.mono (taken_any HK.out) ?_
                rintro e w4 ⟨rfl, hw⟩
                rw [hw]
                clear hw w4
                go_wp2_with fail
                refine Calls.mono HT.out ?_
                rintro e w3 ⟨rfl, h3⟩
                have H3 : Hid _ := h3
                clear h3 HT c0
                go_wp2_with fail
                go_roundw
                case rel => exact ⟨0, k, i + 1, n, k, by go_num, by go_num, by go_num, by omega, by omega, by omega, by omega, by omega, by omega, by simp; omega, H3.out⟩
                case measure => simp [intOf]; omega
            · rw [hbi] at c0
              clear hbi
              have HT : Hid _ := tick_any HK.out
              have hN : 0 ≤ min (m : Int) (n + (r : Int)) ∧ min (m : Int) (n + (r : Int)) ≤ n + (r : Int) := by omega
              generalize min (m : Int) (n + (r : Int)) = N at *
              go_wp2_with fail
              refine Calls.mono (taken_any HK.out) ?_
              rintro e w4 ⟨rfl, hw⟩
              rw [hw]
              clear hw w4
              go_wp2_with fail
              refine Calls.mono HT.out ?_
              rintro e w3 ⟨rfl, h3⟩
              have H3 : Hid _ := h3
              clear h3 HT c0
              go_wp2_with fail
              go_roundw
              case rel => exact ⟨1, k, i + 1, N, k, by go_num, by go_num, by go_num, by omega, by omega, by omega, by omega, by omega, by omega, by simp; omega, H3.out⟩
              case measure => simp [intOf]; omega
          · have hif2 : ¬ (i : Int) = (t : Int) := by omega
            cases hbi : B i
            · rw [hbi] at c0
              clear hbi
              by_cases hn : 0 < n
              · have HT : Hid _ := take_some HK.out hn (by omega)
                go_wp2_with fail
                refine Calls.mono HT.out ?_
                rintro e w3 ⟨rfl, h3⟩
                have H3 : Hid _ := h3
                clear h3 HT c0
                go_wp2_with fail
                go_roundw
                case rel => exact ⟨T, F, i + 1, n - 1, k + 1, by go_num, by go_num, by go_num, by omega, by omega, by omega, by omega, by omega, by omega, by omega, H3.out⟩
                case measure => simp [intOf]; omega
              · have HT : Hid _ := take_none HK.out (by omega)
                go_wp2_with fail
                refine Calls.mono HT.out ?_
                rintro e w3 ⟨rfl, h3⟩
                have H3 : Hid _ := h3
                clear h3 HT c0
                go_wp2_with fail
                go_roundw
                case rel => exact ⟨T, F, i + 1, n, k, by go_num, by go_num, by go_num, by omega, by omega, by omega, by omega, by omega, by omega, by omega, H3.out⟩
                case measure => simp [intOf]; omega
            · rw [hbi] at c0
              clear hbi
              have HT : Hid _ := tick_any HK.out
              have hN : 0 ≤ min (m : Int) (n + (r : Int)) ∧ min (m : Int) (n + (r : Int)) ≤ n + (r : Int) := by omega
              generalize min (m : Int) (n + (r : Int)) = N at *
              go_wp2_with fail
              refine Calls.mono HT.out ?_
              rintro e w3 ⟨rfl, h3⟩
              have H3 : Hid _ := h3
              clear h3 HT c0
              go_wp2_with fail
              go_roundw
              case rel => exact ⟨T + 1, F, i + 1, N, k, by go_num, by go_num, by go_num, by omega, by omega, by omega, by omega, by omega, by omega, by rw [show (r : Int) * (T + 1) = (r : Int) * T + (r : Int) by rw [Int.mul_add, Int.mul_one]]; omega, H3.out⟩
              case measure => simp [intOf]; omega
        · by_cases hft : t = f
          · have hft2 : (t : Int) = (f : Int) := by omega
            go_wp2_with fail
            refine Calls.mono (awake_any _) ?_
            rintro e w3 ⟨rfl, o3⟩
            have HO : Hid _ := HK.out.x.trans o3 (fun _ _ h => h)
            clear o3
            go_wp2_with fail
            go_ret
            exact ⟨rfl, HO.out⟩
          · have hft2 : ¬ (t : Int) = (f : Int) := by omega
            go_wp2_with fail
            refine Calls.mono (taken_any HK.out) ?_
            rintro e w4 ⟨rfl, hw⟩
            rw [hw]
            clear hw w4
            go_wp2_with fail
            refine Calls.mono (awake_any _) ?_
            rintro e w3 ⟨rfl, o3⟩
            have HO : Hid _ := HK.out.x.trans o3 (fun _ _ h => h)
            clear o3
            go_wp2_with fail
            go_ret
            exact ⟨rfl, HO.out⟩
    · have HS := slice_bo a len cap t (by omega)
      go_wp2_with fail
      refine Calls.mono (HN.out _) ?_
      rintro e w1 ⟨b, rfl, h1⟩
      have H1 : Hid _ := h1
      clear h1 HN
      go_wp2_with fail
      go_loopw [12, 13, 57] (fun s12 s13 s57 wr => ∃ (T F : Int) (i : Nat) (n k : Int), s12 = .int .i64 T ∧ s13 = .int .i64 F ∧ s57 = .int .i64 (i : Int) ∧ i ≤ t ∧ 0 ≤ T ∧ T ≤ (i : Int) ∧ 0 ≤ F ∧ F ≤ k ∧ k ≤ (i : Int) ∧ k - F + n ≤ (m : Int) + (r : Int) * T ∧ Bkt (Sin w) b r m n k wr) (fun _ _ i _ => ((t : Int) - intOf i).toNat)
      case atStart => exact ⟨0, 0, 0, m, 0, rfl, rfl, rfl, by omega, by omega, by omega, by omega, by omega, by omega, by simp, H1.out⟩
      case round =>
        obtain ⟨T, F, i, n, k, rfl, rfl, rfl, hi, hT0, hT1, hF0, hF1, hk, hbal, h⟩ := hrel
        have l0 := h.low
        have HK : Hid _ := h
        clear h H1
        have fm := few_mul (r := (r : Int)) (t := T) (by omega) (by omega) (by omega) (by omega)
        by_cases hlt : i < t
        · obtain ⟨g, off, rfl, c0⟩ := HB.out i (by omega)
          replace c0 := sin_cell HK.out.x c0
          by_cases hif : i = f
          · subst hif
            cases hbi : B i
            · rw [hbi] at c0
              clear hbi
              by_cases hn : 0 < n
              · have HT : Hid _ := take_some HK.out hn (by omega)
                go_wp2_with fail
                refine Calls.mono (taken_any HK.out) ?_
                rintro e w4 ⟨rfl, hw⟩
                rw [hw]
                clear hw w4
                go_wp2_with fail
                refine Calls.mono HT.out ?_
                rintro e w3 ⟨rfl, h3⟩
                have H3 : Hid _ := h3
                clear h3 HT c0
                go_wp2_with fail
                go_roundw
                case rel => exact ⟨0, k, i + 1, n - 1, k + 1, by go_num, by go_num, by go_num, by omega, by omega, by omega, by omega, by omega, by omega, by simp; omega, H3.out⟩
                case measure => simp [intOf]; omega
              · have HT : Hid _ := take_none HK.out (by omega)
                go_wp2_with fail
                refine Calls.mono (taken_any HK.out) ?_
                rintro e w4 ⟨rfl, hw⟩
                rw [hw]
                clear hw w4
                go_wp2_with fail
                refine Calls.mono HT.out ?_
                rintro e w3 ⟨rfl, h3⟩
                have H3 : Hid _ := h3
                clear h3 HT c0
                go_wp2_with fail
                go_roundw
                case rel => exact ⟨0, k, i + 1, n, k, by go_num, by go_num, by go_num, by omega, by omega, by omega, by omega, by omega, by omega, by simp; omega, H3.out⟩
                case measure => simp [intOf]; omega
            · rw [hbi] at c0
              clear hbi
              have HT : Hid _ := tick_any HK.out
              have hN : 0 ≤ min (m : Int) (n + (r : Int)) ∧ min (m : Int) (n + (r : Int)) ≤ n + (r : Int) := by omega
              generalize min (m : Int) (n + (r : Int)) = N at *
              go_wp2_with fail
              refine Calls.mono (taken_any HK.out) ?_
              rintro e w4 ⟨rfl, hw⟩
              rw [hw]
              clear hw w4
              go_wp2_with fail
              refine Calls.mono HT.out ?_
              rintro e w3 ⟨rfl, h3⟩
              have H3 : Hid _ := h3
              clear h3 HT c0
              go_wp2_with fail
              go_roundw
              case rel => exact ⟨1, k, i + 1, N, k, by go_num, by go_num, by go_num, by omega, by omega, by omega, by omega, by omega, by omega, by simp; omega, H3.out⟩
              case measure => simp [intOf]; omega
          · have hif2 : ¬ (i : Int) = (f : Int) := by omega
            cases hbi : B i
            · rw [hbi] at c0
              clear hbi
              by_cases hn : 0 < n
              · have HT : Hid _ := take_some HK.out hn (by omega)
                go_wp2_with fail
                refine Calls.mono HT.out ?_
                rintro e w3 ⟨rfl, h3⟩
                have H3 : Hid _ := h3
                clear h3 HT c0
                go_wp2_with fail
                go_roundw
                case rel => exact ⟨T, F, i + 1, n - 1, k + 1, by go_num, by go_num, by go_num, by omega, by omega, by omega, by omega, by omega, by omega, by omega, H3.out⟩
                case measure => simp [intOf]; omega
              · have HT : Hid _ := take_none HK.out (by omega)
                go_wp2_with fail
                refine Calls.mono HT.out ?_
                rintro e w3 ⟨rfl, h3⟩
                have H3 : Hid _ := h3
                clear h3 HT c0
                go_wp2_with fail
                go_roundw
                case rel => exact ⟨T, F, i + 1, n, k, by go_num, by go_num, by go_num, by omega, by omega, by omega, by omega, by omega, by omega, by omega, H3.out⟩
                case measure => simp [intOf]; omega
            · rw [hbi] at c0
              clear hbi
              have HT : Hid _ := tick_any HK.out
              have hN : 0 ≤ min (m : Int) (n + (r : Int)) ∧ min (m : Int) (n + (r : Int)) ≤ n + (r : Int) := by omega
              generalize min (m : Int) (n + (r : Int)) = N at *
              go_wp2_with fail
              refine Calls.mono HT.out ?_
              rintro e w3 ⟨rfl, h3⟩
              have H3 : Hid _ := h3
              clear h3 HT c0
              go_wp2_with fail
              go_roundw
              case rel => exact ⟨T + 1, F, i + 1, N, k, by go_num, by go_num, by go_num, by omega, by omega, by omega, by omega, by omega, by omega, by rw [show (r : Int) * (T + 1) = (r : Int) * T + (r : Int) by rw [Int.mul_add, Int.mul_one]]; omega, H3.out⟩
              case measure => simp [intOf]; omega
        · by_cases hft : f = t
          · have hft2 : (f : Int) = (t : Int) := by omega
            go_wp2_with fail
            refine Calls.mono (awake_any _) ?_
            rintro e w3 ⟨rfl, o3⟩
            have HO : Hid _ := HK.out.x.trans o3 (fun _ _ h => h)
            clear o3
            go_wp2_with fail
            go_ret
            exact ⟨rfl, HO.out⟩
          · have hft2 : ¬ (f : Int) = (t : Int) := by omega
            go_wp2_with fail
            refine Calls.mono (taken_any HK.out) ?_
            rintro e w4 ⟨rfl, hw⟩
            rw [hw]
            clear hw w4
            go_wp2_with fail
            refine Calls.mono (awake_any _) ?_
            rintro e w3 ⟨rfl, o3⟩
            have HO : Hid _ := HK.out.x.trans o3 (fun _ _ h => h)
            clear o3
            go_wp2_with fail
            go_ret
            exact ⟨rfl, HO.out⟩
end Go.Proofs.Ythmhkeiaodhefaa
