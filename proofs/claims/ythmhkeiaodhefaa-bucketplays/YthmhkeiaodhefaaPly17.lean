/- The walk of BucketPlays. -/
import Derived.Test.YthmhkeiaodhefaaArg17
namespace Go.Proofs.Ythmhkeiaodhefaa
set_option maxRecDepth 100000
open Go.RowKit

set_option maxHeartbeats 4000000 in
theorem plays_walk (q0 q1 : Int) (a : Option Addr) (len cap : Nat) (B : Nat → Bool) (w : World) (_ : -9223372036854775808 ≤ q0 ∧ q0 ≤ 9223372036854775807) (_ : -9223372036854775808 ≤ q1 ∧ q1 ≤ 9223372036854775807) (hb : Boos w a len cap B) :
    Calls Try.prog 3 #[.int .i64 q0, .int .i64 q1, .slice a len cap] w fun e w' => e = .returned (.bool true) ∧ Off (fun _ => False) w w' := by
  have HB : Hid (∀ i, i < len → ∃ b off, a = some ⟨b, off, none⟩ ∧ w.cell? ⟨b, off + i, none⟩ = some (.bool (B i))) := hb.at_
  have hlen : len ≤ 9223372036854775807 := Nat.le_trans hb.hlen hb.hcap
  clear hb
  have HN : Hid _ := bnew_any q0 q1 w
  have HC0 : Hid _ := clip_any q0
  have HC1 : Hid _ := clip_any q1
  have x0 : 0 ≤ cl q0 ∧ cl q0 ≤ 1000000 := by unfold cl; omega
  have y0 : 0 ≤ cl q1 ∧ cl q1 ≤ 1000000 := by unfold cl; omega
  generalize cl q0 = r at *
  generalize cl q1 = m at *
  obtain ⟨x0, x1⟩ := x0
  obtain ⟨y0, y1⟩ := y0
  go_enter Try.func3, Try.ntmps3
  go_wp2_with fail
  refine Calls.mono HN.out ?_
  rintro e w1 ⟨b, rfl, h1⟩
  have H1 : Hid _ := h1
  clear h1 HN
  go_wp2_with fail
  refine Calls.mono (HC0.out _) ?_
  rintro e w2 ⟨rfl, hw⟩
  rw [hw]
  clear hw w2
  go_wp2_with fail
  refine Calls.mono (HC1.out _) ?_
  rintro e w2 ⟨rfl, hw⟩
  rw [hw]
  clear hw w2
  go_wp2_with fail
  go_loopw [10, 11, 25] (fun s10 s11 s25 wr => ∃ (n k : Int) (i : Nat), s10 = .int .i64 n ∧ s11 = .int .i64 k ∧ s25 = .int .i64 (i : Int) ∧ i ≤ len ∧ i ≤ 300 ∧ k ≤ (i : Int) ∧ Bkt (Sin w) b r m n k wr) (fun _ _ i _ => ((len : Int) - intOf i).toNat)
  case atStart => exact ⟨m, 0, 0, rfl, rfl, rfl, by omega, by omega, by omega, H1.out⟩
  case round =>
    obtain ⟨n, k, i, rfl, rfl, rfl, hi, hi3, hk, h⟩ := hrel
    have l0 := h.low
    have HK : Hid _ := h
    clear h H1
    by_cases hlt : i < len
    · obtain ⟨g, off, rfl, c0⟩ := HB.out i hlt
      replace c0 := sin_cell HK.out.x c0
      by_cases h300 : 300 ≤ i
      · go_wp2_with fail
        refine Calls.mono (awake_any _) ?_
        rintro e w3 ⟨rfl, o3⟩
        have HO : Hid _ := HK.out.x.trans o3 (fun _ _ h => h)
        clear o3
        go_wp2_with fail
        go_ret
        exact ⟨rfl, HO.out⟩
      · cases hbi : B i
        · rw [hbi] at c0
          clear hbi
          by_cases hn : 0 < n
          · have HT : Hid _ := take_some HK.out hn (by omega)
            go_wp2_with fail
            refine Calls.mono HT.out ?_
            rintro e w3 ⟨rfl, h3⟩
            have H3 : Hid _ := h3
            clear h3 HT c0
            go_wp2_with fail
            refine Calls.mono (left_any H3.out) ?_
            rintro e w4 ⟨rfl, hw⟩
            rw [hw]
            clear hw w4
            go_wp2_with fail
            refine Calls.mono (taken_any H3.out) ?_
            rintro e w4 ⟨rfl, hw⟩
            rw [hw]
            clear hw w4
            go_wp2_with fail
            go_roundw
            case rel => exact ⟨n - 1, k + 1, i + 1, by go_num, by go_num, by go_num, by omega, by omega, by omega, H3.out⟩
            case measure => simp [intOf]; omega
          · have HT : Hid _ := take_none HK.out (by omega)
            go_wp2_with fail
            refine Calls.mono HT.out ?_
            rintro e w3 ⟨rfl, h3⟩
            have H3 : Hid _ := h3
            clear h3 HT c0
            go_wp2_with fail
            refine Calls.mono (left_any H3.out) ?_
            rintro e w4 ⟨rfl, hw⟩
            rw [hw]
            clear hw w4
            go_wp2_with fail
            refine Calls.mono (taken_any H3.out) ?_
            rintro e w4 ⟨rfl, hw⟩
            rw [hw]
            clear hw w4
            go_wp2_with fail
            go_roundw
            case rel => exact ⟨n, k, i + 1, by go_num, by go_num, by go_num, by omega, by omega, by omega, H3.out⟩
            case measure => simp [intOf]; omega
        · rw [hbi] at c0
          clear hbi
          have HT : Hid _ := tick_any HK.out
          have hmn := min_int m (n + r)
          have hN : 0 ≤ min m (n + r) ∧ min m (n + r) ≤ m := by omega
          generalize min m (n + r) = N at *
          go_wp2_with fail
          refine Calls.mono HT.out ?_
          rintro e w3 ⟨rfl, h3⟩
          have H3 : Hid _ := h3
          clear h3 HT c0
          go_wp2_with fail
          refine Calls.mono (left_any H3.out) ?_
          rintro e w4 ⟨rfl, hw⟩
          rw [hw]
          clear hw w4
          go_wp2_with fail
          refine Calls.mono (taken_any H3.out) ?_
          rintro e w4 ⟨rfl, hw⟩
          rw [hw]
          clear hw w4
          go_wp2_with fail
          go_roundw
          case rel => exact ⟨N, k, i + 1, by go_num, by go_num, by go_num, by omega, by omega, by omega, H3.out⟩
          case measure => simp [intOf]; omega
    · go_wp2_with fail
      refine Calls.mono (awake_any _) ?_
      rintro e w3 ⟨rfl, o3⟩
      have HO : Hid _ := HK.out.x.trans o3 (fun _ _ h => h)
      clear o3
      go_wp2_with fail
      go_ret
      exact ⟨rfl, HO.out⟩
end Go.Proofs.Ythmhkeiaodhefaa
