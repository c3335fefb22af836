/- The walk of QuorumMeets. -/
import Derived.Test.YtapopmcdnpplbaaBt21
import Derived.Deep.CutRange
namespace Go.Proofs.Ytapopmcdnpplbaa
set_option maxRecDepth 100000
open Go.RowKit

set_option maxHeartbeats 4000000 in
theorem meets_walk (n r k : Int) (X Y : Nat) (w : World) (hn : -9223372036854775808 ≤ n ∧ n ≤ 9223372036854775807) (hr : -9223372036854775808 ≤ r ∧ r ≤ 9223372036854775807) (hk : -9223372036854775808 ≤ k ∧ k ≤ 9223372036854775807) (hX : X < 18446744073709551616) (hY : Y < 18446744073709551616) :
    Calls Try.prog 5 #[.int .i64 n, .int .i64 r, .int .i64 k, .int .u64 (X : Int), .int .u64 (Y : Int)] w fun e w' => e = .returned (.bool true) ∧ Off (fun _ => False) w w' := by
  have HX : Hid _ := hX
  have HY : Hid _ := hY
  have HM : Hid _ := meet_any n r k hn.2 w
  obtain ⟨n0, er, hr0⟩ := rem_any n 8 (by omega)
  have HER : Hid _ := er
  clear hX hY er
  go_enter Try.func5, Try.ntmps5
  go_upto_region 1 with fail
  go_cut [45] from 18 to 45 (fun b wc => b = .bool false ∧ wc = w)
  case first =>
    by_cases h1 : 1 ≤ r
    · have d1 : decide (1 ≤ r) = true := decide_eq_true (by omega)
      by_cases h2 : 1 ≤ k
      · have d2 : decide (1 ≤ k) = true := decide_eq_true (by omega)
        by_cases h3 : r ≤ n
        · have d3 : decide (r ≤ n) = true := decide_eq_true (by omega)
          by_cases h4 : k ≤ n
          · have d4 : decide (k ≤ n) = true := decide_eq_true (by omega)
            by_cases h5 : n - k < r
            · have e : meetB n r k = true := by unfold meetB; simp; omega
              rw [e] at HM
              have ws : IntKind.i64.wrap (n - k) = n - k := by rw [IntKind.wrap_i64]; omega
              have d5 : decide (n - k < r) = true := decide_eq_true (by omega)

              clear e
              go_wp2_with fail
              refine Calls.mono HM.out ?_
              rintro e w1 ⟨rfl, hw⟩
              rw [hw]
              clear hw w1 HM
              go_wp2_with fail
              go_meet
              exact ⟨rfl, rfl⟩
            · have e : meetB n r k = false := by unfold meetB; simp; omega
              rw [e] at HM
              have ws : IntKind.i64.wrap (n - k) = n - k := by rw [IntKind.wrap_i64]; omega
              have d5 : decide (n - k < r) = false := decide_eq_false (by omega)

              clear e
              go_wp2_with fail
              refine Calls.mono HM.out ?_
              rintro e w1 ⟨rfl, hw⟩
              rw [hw]
              clear hw w1 HM
              go_wp2_with fail
              go_meet
              exact ⟨rfl, rfl⟩
          · have e : meetB n r k = false := by unfold meetB; simp; omega
            rw [e] at HM
            have d4 : decide (k ≤ n) = false := decide_eq_false (by omega)

            clear e
            go_wp2_with fail
            refine Calls.mono HM.out ?_
            rintro e w1 ⟨rfl, hw⟩
            rw [hw]
            clear hw w1 HM
            go_wp2_with fail
            go_meet
            exact ⟨rfl, rfl⟩
        · have e : meetB n r k = false := by unfold meetB; simp; omega
          rw [e] at HM
          have d3 : decide (r ≤ n) = false := decide_eq_false (by omega)

          clear e
          go_wp2_with fail
          refine Calls.mono HM.out ?_
          rintro e w1 ⟨rfl, hw⟩
          rw [hw]
          clear hw w1 HM
          go_wp2_with fail
          go_meet
          exact ⟨rfl, rfl⟩
      · have e : meetB n r k = false := by unfold meetB; simp; omega
        rw [e] at HM
        have d2 : decide (1 ≤ k) = false := decide_eq_false (by omega)

        clear e
        go_wp2_with fail
        refine Calls.mono HM.out ?_
        rintro e w1 ⟨rfl, hw⟩
        rw [hw]
        clear hw w1 HM
        go_wp2_with fail
        go_meet
        exact ⟨rfl, rfl⟩
    · have e : meetB n r k = false := by unfold meetB; simp; omega
      rw [e] at HM
      have d1 : decide (1 ≤ r) = false := decide_eq_false (by omega)

      clear e
      go_wp2_with fail
      refine Calls.mono HM.out ?_
      rintro e w1 ⟨rfl, hw⟩
      rw [hw]
      clear hw w1 HM
      go_wp2_with fail
      go_meet
      exact ⟨rfl, rfl⟩
  case rest =>
    obtain ⟨rfl, hw⟩ := hcut
    rw [hw]
    clear hw HM hr hk
    have HXN : Hid (n0 < 8) := (by omega : n0 < 8)
    obtain ⟨N, hN⟩ : ∃ N : Nat, N = n0 + 1 := ⟨_, rfl⟩
    have eN : (n0 : Int) + 1 = (N : Int) := by omega
    have hN8 : N ≤ 8 := by omega
    have hN1 : 1 ≤ N := by omega
    have er := HER.out
    clear hN hr0 HXN HER hn
    go_wp2_with fail
    clear er eN
    go_loopw [11, 12, 52] (fun s11 s12 s52 wr => ∃ (i : Nat) (ta tb : Option Addr) (ca cb : Nat), s52 = .int .i64 (i : Int) ∧ s11 = .slice ta (bs X i).length ca ∧ s12 = .slice tb (bs Y i).length cb ∧ i ≤ N ∧ Two w ta tb ca cb (bs X i) (bs Y i) wr) (fun _ _ i _ => ((N : Int) - intOf i).toNat)
    case atStart => exact ⟨0, none, none, 0, 0, rfl, rfl, rfl, by omega, Two.start w (Off.refl _ _)⟩
    case round =>
      obtain ⟨i, ta, tb, ca, cb, rfl, rfl, rfl, hi, ht⟩ := hrel
      have HT : Hid _ := ht
      clear ht
      by_cases hlt : i < N
      · have hi8 : i < 8 := by omega
        have e1 : decide ((i : Int) < (N : Int)) = true := decide_eq_true (by omega)
        cases hbX : bit X i
        · have ex := bit_no HX.out hbX
          have sx := shr_at (X := X) hi8
          have HBX : Hid (bs X (i + 1) = bs X i) := by show (if bit X i then bs X i ++ [i] else bs X i) = _; rw [hbX]; rfl
          have HT1 : Hid (Two w ta tb ca cb (bs X (i + 1)) (bs Y i) wr) := by rw [HBX.out]; exact HT.out
          clear hbX HT
          obtain ⟨t1, ht1⟩ : ∃ t, t = ta := ⟨_, rfl⟩
          obtain ⟨c1, hc1⟩ : ∃ t, t = ca := ⟨_, rfl⟩
          obtain ⟨v1, hv1⟩ : ∃ t, t = wr := ⟨_, rfl⟩
          rw [← ht1, ← hc1, ← hv1] at HT1 ⊢
          clear ht1 hc1 hv1
          cases hbY : bit Y i
          · have ey := bit_no HY.out hbY
            have sy := shr_at (X := Y) hi8
            have HBY : Hid (bs Y (i + 1) = bs Y i) := by show (if bit Y i then bs Y i ++ [i] else bs Y i) = _; rw [hbY]; rfl
            clear hbY
            go_wp2_with fail
            go_roundw
            case rel => exact ⟨i + 1, t1, tb, c1, cb, by go_num, by rw [HBX.out], by rw [HBY.out], by omega, by rw [HBY.out]; exact HT1.out⟩
            case measure => simp [intOf]; omega
          · have HA : Hid _ := HT1.out.swap.alloc (.cells #[.int .i64 (i : Int)] 3)
            have hcn : Hid (∀ u' u, (ncs i)[u']? = some u → (v1.alloc (.cells #[.int .i64 (i : Int)] 3)).cell? ⟨v1.heap.size, u', none⟩ = some u) := fun u' u hu => by
              rw [(Cel.new v1 3 #[.int .i64 (i : Int)]).cell u']
              simpa [ncs] using hu
            have hl : Hid ((bs Y i).length ≤ 1000000) := by rw [bs_len]; exact Nat.le_trans (cnt_le _ _) (by omega)
            have ey := bit_yes HY.out hbY
            have sy := shr_at (X := Y) hi8
            have HBY : Hid (bs Y (i + 1) = bs Y i ++ [i]) := by show (if bit Y i then bs Y i ++ [i] else bs Y i) = _; rw [hbY]; rfl
            clear hbY
            go_wp2_with (at_builtin; refine wpList_appG (cs := ncs) rfl (.tmp 71) (.tmp 73) Try.underlying22 Try.infoI rfl (by decide) (by decide) ncs_len ncs_one rfl tb cb (bs Y i) rfl HA.out.oa v1.heap.size 1 i rfl hcn.out hl.out ?_; intro t2 c2 v2 zs2 hz2 own2 off2 at2)
            have HT2 : Hid (Two w t1 t2 c1 c2 (bs X (i + 1)) zs2 v2) := (HA.out.app own2 off2 at2).swap
            have HZ2 : Hid (zs2 = bs Y (i + 1)) := by rw [HBY.out]; exact hz2
            clear own2 off2 at2 hz2 hcn HA HT1
            go_wp2_with fail
            go_roundw
            case rel => exact ⟨i + 1, t1, t2, c1, c2, by go_num, by rw [HBX.out], by rw [HZ2.out], by omega, by have h := HT2.out; rw [HZ2.out] at h; exact h⟩
            case measure => simp [intOf]; omega
        · have HA : Hid _ := HT.out.alloc (.cells #[.int .i64 (i : Int)] 3)
          have hcn : Hid (∀ u' u, (ncs i)[u']? = some u → (wr.alloc (.cells #[.int .i64 (i : Int)] 3)).cell? ⟨wr.heap.size, u', none⟩ = some u) := fun u' u hu => by
            rw [(Cel.new wr 3 #[.int .i64 (i : Int)]).cell u']
            simpa [ncs] using hu
          have hl : Hid ((bs X i).length ≤ 1000000) := by rw [bs_len]; exact Nat.le_trans (cnt_le _ _) (by omega)
          have ex := bit_yes HX.out hbX
          have sx := shr_at (X := X) hi8
          have HBX : Hid (bs X (i + 1) = bs X i ++ [i]) := by show (if bit X i then bs X i ++ [i] else bs X i) = _; rw [hbX]; rfl
          clear hbX
          go_upto_region 10 with (at_builtin; refine wpList_appG (cs := ncs) rfl (.tmp 61) (.tmp 63) Try.underlying22 Try.infoI rfl (by decide) (by decide) ncs_len ncs_one rfl ta ca (bs X i) rfl HA.out.oa wr.heap.size 1 i rfl hcn.out hl.out ?_; intro t1 c1 v1 zs1 hz1 own1 off1 at1)
          have HZ1 : Hid (zs1 = bs X (i + 1)) := by rw [HBX.out]; exact hz1
          have HT1 : Hid (Two w t1 tb c1 cb (bs X (i + 1)) (bs Y i) v1) := by have h := HA.out.app own1 off1 at1; rw [HZ1.out] at h; exact h
          clear own1 off1 at1 hz1 hcn HA HT ex sx hl
          cases hbY : bit Y i
          · have ey := bit_no HY.out hbY
            have sy := shr_at (X := Y) hi8
            have HBY : Hid (bs Y (i + 1) = bs Y i) := by show (if bit Y i then bs Y i ++ [i] else bs Y i) = _; rw [hbY]; rfl
            clear hbY
            go_wp2_with fail
            go_roundw
            case rel => exact ⟨i + 1, t1, tb, c1, cb, by go_num, by rw [HZ1.out], by rw [HBY.out], by omega, by rw [HBY.out]; exact HT1.out⟩
            case measure => simp [intOf]; omega
          · have HA : Hid _ := HT1.out.swap.alloc (.cells #[.int .i64 (i : Int)] 3)
            have hcn : Hid (∀ u' u, (ncs i)[u']? = some u → (v1.alloc (.cells #[.int .i64 (i : Int)] 3)).cell? ⟨v1.heap.size, u', none⟩ = some u) := fun u' u hu => by
              rw [(Cel.new v1 3 #[.int .i64 (i : Int)]).cell u']
              simpa [ncs] using hu
            have hl : Hid ((bs Y i).length ≤ 1000000) := by rw [bs_len]; exact Nat.le_trans (cnt_le _ _) (by omega)
            have ey := bit_yes HY.out hbY
            have sy := shr_at (X := Y) hi8
            have HBY : Hid (bs Y (i + 1) = bs Y i ++ [i]) := by show (if bit Y i then bs Y i ++ [i] else bs Y i) = _; rw [hbY]; rfl
            clear hbY
            go_wp2_with (at_builtin; refine wpList_appG (cs := ncs) rfl (.tmp 71) (.tmp 73) Try.underlying22 Try.infoI rfl (by decide) (by decide) ncs_len ncs_one rfl tb cb (bs Y i) rfl HA.out.oa v1.heap.size 1 i rfl hcn.out hl.out ?_; intro t2 c2 v2 zs2 hz2 own2 off2 at2)
            have HT2 : Hid (Two w t1 t2 c1 c2 (bs X (i + 1)) zs2 v2) := (HA.out.app own2 off2 at2).swap
            have HZ2 : Hid (zs2 = bs Y (i + 1)) := by rw [HBY.out]; exact hz2
            clear own2 off2 at2 hz2 hcn HA HT1
            go_wp2_with fail
            go_roundw
            case rel => exact ⟨i + 1, t1, t2, c1, c2, by go_num, by rw [HZ1.out], by rw [HZ2.out], by omega, by have h := HT2.out; rw [HZ2.out] at h; exact h⟩
            case measure => simp [intOf]; omega
      · obtain rfl : i = N := by omega
        have e1 : decide ((i : Int) < (i : Int)) = false := decide_eq_false (by omega)
        have HMM : Hid _ := meet_any (i : Int) ((bs Y i).length : Int) ((bs X i).length : Int) (by omega) wr
        have HXY : Hid (i < (bs X i).length + (bs Y i).length → ¬ ∀ x, x ∈ bs X i → x ∉ bs Y i) := fun h h2 => meet_some h h2
        have hx8 : (bs X i).length ≤ 8 := by rw [bs_len]; exact Nat.le_trans (cnt_le _ _) hN8
        have hy8 : (bs Y i).length ≤ 8 := by rw [bs_len]; exact Nat.le_trans (cnt_le _ _) hN8
        obtain ⟨xs, hxs⟩ : ∃ xs, xs = bs X i := ⟨_, rfl⟩
        obtain ⟨ys, hys⟩ : ∃ ys, ys = bs Y i := ⟨_, rfl⟩
        rw [← hxs, ← hys] at HT HMM HXY
        rw [← hxs] at hx8 ⊢
        rw [← hys] at hy8 ⊢
        clear hxs hys
        by_cases hm : meetB (i : Int) (ys.length : Int) (xs.length : Int) = true
        · rw [hm] at HMM
          have HL : Hid (i < xs.length + ys.length) := by
            show i < xs.length + ys.length
            simp [meetB] at hm
            omega
          clear hm
          go_wp2_with fail
          refine Calls.mono HMM.out ?_
          rintro e v3 ⟨rfl, hw⟩
          rw [hw]
          clear hw v3 HMM
          go_wp2_with fail
          go_loop [86] (fun s86 => ∃ p : Nat, s86 = .int .i64 (p : Int) ∧ p ≤ xs.length ∧ Hid (∀ q x, q < p → xs[q]? = some x → x ∉ ys)) (fun s86 => ((xs.length : Int) - intOf s86).toNat)
          case atStart => exact ⟨0, rfl, by omega, fun q x hq => absurd hq (Nat.not_lt_zero q)⟩
          case round =>
            obtain ⟨p, rfl, hp, hno⟩ := hrel
            by_cases hpl : p < xs.length
            · have d1 : decide ((p : Int) < (xs.length : Int)) = true := decide_eq_true (by omega)
              obtain ⟨x, hx⟩ : ∃ x, xs[p]? = some x := ⟨_, List.getElem?_eq_getElem hpl⟩
              obtain ⟨g, hg, cx⟩ := HT.out.at_ hx
              have HPX : Hid _ := hx
              obtain rfl := hg
              clear hx
              go_wp2_with fail
              clear cx
              go_loop [92] (fun s92 => ∃ j : Nat, s92 = .int .i64 (j : Int) ∧ j ≤ ys.length ∧ Hid (∀ q y, q < j → ys[q]? = some y → y ≠ x)) (fun s92 => ((ys.length : Int) - intOf s92).toNat)
              case atStart => exact ⟨0, rfl, by omega, fun q x hq => absurd hq (Nat.not_lt_zero q)⟩
              case round =>
                obtain ⟨j, rfl, hj, hnj⟩ := hrel
                by_cases hjl : j < ys.length
                · have d2 : decide ((j : Int) < (ys.length : Int)) = true := decide_eq_true (by omega)
                  obtain ⟨y, hy⟩ : ∃ y, ys[j]? = some y := ⟨_, List.getElem?_eq_getElem hjl⟩
                  obtain ⟨g2, hg2, cy⟩ := HT.out.swap.at_ hy
                  have HJY : Hid _ := hy
                  obtain rfl := hg2
                  clear hy
                  by_cases hxy : x = y
                  · have d3 : decide ((x : Int) = (y : Int)) = true := decide_eq_true (by omega)
                    go_wp2_with fail
                    refine Calls.mono (awake_any _) ?_
                    rintro e v5 ⟨rfl, o5⟩
                    have HO5 : Hid _ := HT.out.off.trans o5 (fun _ _ h => h)
                    clear o5
                    go_wp2_with fail
                    go_ret
                    exact ⟨rfl, HO5.out⟩
                  · have d3 : decide ((x : Int) = (y : Int)) = false := decide_eq_false (by omega)
                    go_wp2_with fail
                    go_round
                    case rel =>
                      refine ⟨j + 1, by go_num, by omega, fun q z hq hz => ?_⟩
                      by_cases e : q = j
                      · subst e
                        have := HJY.out
                        rw [this] at hz
                        cases hz
                        exact fun h => hxy h.symm
                      · exact hnj.out q z (by omega) hz
                    case measure => simp [intOf]; omega
                · have d2 : decide ((j : Int) < (ys.length : Int)) = false := decide_eq_false (by omega)
                  go_wp2_with fail
                  go_round
                  case rel =>
                    refine ⟨p + 1, by go_num, by omega, fun q z hq hz => ?_⟩
                    by_cases e : q = p
                    · subst e
                      have := HPX.out
                      rw [this] at hz
                      cases hz
                      intro hin
                      obtain ⟨q2, hq2⟩ := List.getElem?_of_mem hin
                      have h3 : q2 < ys.length := by
                        obtain ⟨h3, -⟩ := List.getElem?_eq_some_iff.1 hq2
                        exact h3
                      exact hnj.out q2 _ (by omega) hq2 rfl
                    · exact hno.out q z (by omega) hz
                  case measure => simp [intOf]; omega
            · refine absurd ?_ (HXY.out HL.out)
              intro x hin
              obtain ⟨q, hq⟩ := List.getElem?_of_mem hin
              have h3 : q < xs.length := by
                obtain ⟨h3, -⟩ := List.getElem?_eq_some_iff.1 hq
                exact h3
              exact hno.out q x (by omega) hq
        · simp only [Bool.not_eq_true] at hm
          rw [hm] at HMM
          clear hm
          go_wp2_with fail
          refine Calls.mono HMM.out ?_
          rintro e v3 ⟨rfl, hw⟩
          rw [hw]
          clear hw v3 HMM
          go_wp2_with fail
          refine Calls.mono (awake_any _) ?_
          rintro e v5 ⟨rfl, o5⟩
          have HO5 : Hid _ := HT.out.off.trans o5 (fun _ _ h => h)
          clear o5
          go_wp2_with fail
          go_ret
          exact ⟨rfl, HO5.out⟩
end Go.Proofs.Ytapopmcdnpplbaa
