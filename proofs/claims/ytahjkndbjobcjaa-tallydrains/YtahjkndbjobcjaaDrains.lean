/- The walk of TallyDrains. -/
import Derived.Test.YtahjkndbjobcjaaParts
namespace Go.Proofs.Ytahjkndbjobcjaa
open Go.RowKit

theorem rem_any (a k : Int) (h0 : 0 < k) (h1 : k ≤ 1000) : 0 ≤ wrap64 ((IntKind.u64.wrap a).tmod k) ∧ wrap64 ((IntKind.u64.wrap a).tmod k) < k := by
  have e : IntKind.u64.wrap a = a % 18446744073709551616 := by simp [IntKind.wrap, IntKind.bits, IntKind.signed]
  rw [e]
  have h2 : 0 ≤ a % 18446744073709551616 := Int.emod_nonneg _ (by omega)
  generalize a % 18446744073709551616 = z at *
  rw [Int.tmod_eq_emod_of_nonneg h2]
  have h3 : 0 ≤ z % k := Int.emod_nonneg _ (by omega)
  have h4 : z % k < k := Int.emod_lt_of_pos _ h0
  generalize z % k = y at *
  simp only [wrap64]
  omega

set_option maxHeartbeats 1000000 in
theorem drains_any (a0 a1 : Int) (w : World) :
    Calls Try.prog 7 #[.int .i64 a0, .int .i64 a1] w fun e w' => e = .returned (.bool true) ∧ Ext w w' := by
  have r0 := rem_any a0 200 (by omega) (by omega)
  have r1 := rem_any a1 9 (by omega) (by omega)
  obtain ⟨M0, M1⟩ := r0
  obtain ⟨E0, E1⟩ := r1
  go_enter Try.func7, Try.ntmps7
  go_wp2_with fail
  generalize wrap64 ((IntKind.u64.wrap a0).tmod 200) = M at *
  refine (new_some (Ext.refl w) M (by omega)).mono ?_
  rintro e w1 ⟨c, rfl, s1, t1, x1, -⟩
  rw [show max 0 M = M by omega] at t1
  go_wp2_with fail
  go_loopw [6, 22] (fun n i wr => ∃ k v : Int, 0 ≤ k ∧ k ≤ M + 5 ∧ i = .int .i64 k ∧ n = .int .i64 v ∧ Tal c v M wr ∧ Ext w wr ∧ Hid (v = min k M)) (fun _ i _ => (M + 5 - intOf i).toNat)
  case atStart => exact ⟨0, 0, by omega, by omega, rfl, rfl, t1, x1, show (0 : Int) = min 0 M by omega⟩
  case round =>
    clear t1 x1
    obtain ⟨k, v, hk0, hk1, rfl, rfl, t, x, hv⟩ := hrel
    have l1 := t.low
    have l2 := t.le
    by_cases hlt : k < M + 5
    · go_wp2_with fail
      refine (add_some x c v M 1 s1 t).mono ?_
      rintro e w2 ⟨v2, r2, rfl, t2, x2, -, d2⟩
      clear t x
      rcases d2 with ⟨rfl, _, _, h3, h4⟩ | ⟨rfl, h2, h3, h4⟩
      · go_wp2_with fail
        go_roundw
        case rel => exact ⟨k + 1, v2, by omega, by omega, by go_num, by go_num, t2, x2, show v2 = min (k + 1) M by have := hv.out; omega⟩
        case measure => simp [intOf]; omega
      · go_wp2_with fail
        go_roundw
        case rel => exact ⟨k + 1, v2, by omega, by omega, by go_num, by go_num, t2, x2, show v2 = min (k + 1) M by have := hv.out; omega⟩
        case measure => simp [intOf]; omega
    · have hv2 : v = M := by have := hv.out; omega
      subst hv2
      go_wp2_with fail
      clear hlt hv hk0 hk1
      go_loopw [9] (fun i wr => ∃ j u : Int, 0 ≤ j ∧ j ≤ v ∧ i = .int .i64 j ∧ Tal c u v wr ∧ Ext w wr ∧ u ≤ v - j ∧ v - j ≤ u) (fun i _ => (v - intOf i).toNat)
      case atStart => exact ⟨0, v, by omega, by omega, rfl, t, x, by omega, by omega⟩
      case round =>
        clear t x
        obtain ⟨j, u, hj0, hj1, rfl, t, x, hu0, hu1⟩ := hrel
        have l1 := t.low
        by_cases hlt : 1 ≤ u
        · go_wp2_with fail
          refine (take_some x c u v 1 s1 t (by omega) hlt).mono ?_
          rintro e w2 ⟨v2, rfl, t2, x2, -, h3, h4⟩
          clear t x
          go_wp2_with fail
          go_roundw
          case rel => exact ⟨j + 1, v2, by omega, by omega, by go_num, t2, x2, by omega, by omega⟩
          case measure => simp [intOf]; omega
        · go_wp2_with fail
          refine (take_no c u v 1 _ t (by omega)).mono ?_
          rintro e w2 ⟨rfl, rfl⟩
          go_wp2_with fail
          refine (add_some x c u v v s1 t).mono ?_
          rintro e w3 ⟨v3, r3, rfl, t3, x3, -, d3⟩
          clear t x
          rcases d3 with ⟨rfl, _, _, h3, h4⟩ | ⟨rfl, h2, h3, h4⟩
          · go_wp2_with fail
            generalize wrap64 ((IntKind.u64.wrap a1).tmod 9) = E at *
            refine (add_no c v3 v _ _ t3 (by omega)).mono ?_
            rintro e w3 ⟨rfl, rfl⟩
            go_wp2_with fail
            refine (now_any c v3 v _ t3).mono ?_
            rintro e w3 ⟨rfl, rfl⟩
            go_wp2_with fail
            refine (awake_any _).mono ?_
            rintro e w1 ⟨rfl, hx⟩
            go_wp2_with fail
            go_ret
            exact ⟨rfl, x3.trans hx⟩
          · exfalso; omega
end Go.Proofs.Ytahjkndbjobcjaa
