/- Peer, Bucket, Round, Bound, of the program and of the reference. -/
import Derived.Test.YtachdgbgcdplnaaPl19
namespace Go.Proofs.Ytachdgbgcdplnaa
set_option maxRecDepth 100000
open Go.RowKit

def peerN (n s t : Int) : Int := if 2 ≤ n ∧ n ≤ 8 ∧ 0 ≤ t ∧ 0 ≤ s ∧ s < n then (s + 1 + t.tmod (n - 1)).tmod n else -1
def buckN (n t : Int) : Int := if 2 ≤ n ∧ n ≤ 8 ∧ 0 ≤ t then (t.tdiv (n - 1)).tmod 4 else -1
def rndN (n : Int) : Int := if 2 ≤ n ∧ n ≤ 8 then (n - 1) * 4 else 0
def bndN (n h : Int) : Int := 2 * rndN n + min (max h 0) 512 + 12
theorem rem_b (t m : Int) (ht : 0 ≤ t) (hm : 1 ≤ m) : 0 ≤ t.tmod m ∧ t.tmod m < m := by
  rw [Int.tmod_eq_emod_of_nonneg ht]
  exact ⟨Int.emod_nonneg _ (by omega), Int.emod_lt_of_pos _ (by omega)⟩

theorem peer_any (n s t : Int) (htM : t ≤ 9223372036854775807) (w : World) : Calls Try.prog 7 #[.int .i64 n, .int .i64 s, .int .i64 t] w fun e w' => e = .returned (.int .i64 (peerN n s t)) ∧ Off (fun _ => False) w w' := by
  by_cases hok : 2 ≤ n ∧ n ≤ 8 ∧ 0 ≤ t
  · obtain ⟨h1, h2, h3⟩ := hok
    have HT : Hid _ := tells_yes n t h1 h2 h3 w
    by_cases h4 : 0 ≤ s
    · by_cases h5 : s < n
      · rw [show peerN n s t = (s + 1 + t.tmod (n - 1)).tmod n from if_pos ⟨h1, h2, h3, h4, h5⟩]
        have hr := rem_b t (n - 1) h3 (by omega)
        obtain ⟨m, hm⟩ : ∃ m, m = n - 1 := ⟨_, rfl⟩
        have HM : Hid (m = n - 1) := hm
        have hmm : 1 ≤ m ∧ m ≤ 7 := by omega
        rw [← hm] at hr ⊢
        obtain ⟨r, hrr⟩ : ∃ r, r = t.tmod m := ⟨_, rfl⟩
        rw [← hrr] at hr ⊢
        obtain ⟨hr0, hr1⟩ := hr
        have HR : Hid (r = t.tmod m) := hrr
        obtain ⟨p, hp⟩ : ∃ p, p = (s + 1 + r).tmod n := ⟨_, rfl⟩
        have ep : (s + 1 + r).tmod n = p := hp.symm
        rw [← hp]
        have hnz : ¬ n = 0 := by omega
        have hsr : s + 1 + r ≤ 100 := by omega
        have hr7 : r ≤ 7 := by omega
        clear hp hrr hr1
        obtain ⟨m0, m7⟩ := hmm
        have hm' : n - 1 = m := hm.symm
        clear hm
        go_enter Try.func7, Try.ntmps7
        go_wp2_with fail
        refine Calls.mono HT.out ?_
        rintro e w1 ⟨rfl, hw⟩
        rw [hw]
        clear hw w1 HT
        go_wp2_with fail
        have O1 : Off (fun _ => False) w (w.alloc (.cells #[.int .i64 m] 3)) := (Off.refl _ w).alloc _
        have C1 : Cel w.heap.size 3 #[.int .i64 m] (w.alloc (.cells #[.int .i64 m] 3)) := Cel.new w _ _
        generalize hv : w.alloc (.cells #[.int .i64 m] 3) = v1 at O1 C1 ⊢
        generalize w.heap.size = b at C1 ⊢
        clear hv
        refine (turn1 t m b v1 h3 htM m0 m7 (C1.cell 0)).mono ?_
        rintro e v2 ⟨q, rfl, c, o⟩
        rw [← HR.out] at c
        have O2 := O1.trans o (fun _ _ h => h)
        clear O1 o C1
        go_wp2_with fail
        go_ret
        exact ⟨rfl, O2⟩
      · rw [show peerN n s t = -1 from if_neg fun h => h5 h.2.2.2.2]
        go_enter Try.func7, Try.ntmps7
        go_wp2_with fail
        refine Calls.mono HT.out ?_
        rintro e w1 ⟨rfl, hw⟩
        rw [hw]
        clear hw w1 HT
        have h6 : n ≤ s := by omega
        clear h5
        go_wp2_with fail
        go_ret
        exact ⟨rfl, Off.refl _ _⟩
    · rw [show peerN n s t = -1 from if_neg fun h => h4 h.2.2.2.1]
      go_enter Try.func7, Try.ntmps7
      go_wp2_with fail
      refine Calls.mono HT.out ?_
      rintro e w1 ⟨rfl, hw⟩
      rw [hw]
      clear hw w1 HT
      go_wp2_with fail
      go_ret
      exact ⟨rfl, Off.refl _ _⟩
  · have HT : Hid _ := tells_no n t (by omega) w
    rw [show peerN n s t = -1 from if_neg fun h => hok ⟨h.1, h.2.1, h.2.2.1⟩]
    clear hok
    go_enter Try.func7, Try.ntmps7
    go_wp2_with fail
    refine Calls.mono HT.out ?_
    rintro e w1 ⟨rfl, hw⟩
    rw [hw]
    clear hw w1 HT
    go_wp2_with fail
    go_ret
    exact ⟨rfl, Off.refl _ _⟩
theorem buck_any (n t : Int) (htM : t ≤ 9223372036854775807) (w : World) : Calls Try.prog 9 #[.int .i64 n, .int .i64 t] w fun e w' => e = .returned (.int .i64 (buckN n t)) ∧ Off (fun _ => False) w w' := by
  by_cases hok : 2 ≤ n ∧ n ≤ 8 ∧ 0 ≤ t
  · obtain ⟨h1, h2, h3⟩ := hok
    have HT : Hid _ := tells_yes n t h1 h2 h3 w
    rw [show buckN n t = (t.tdiv (n - 1)).tmod 4 from if_pos ⟨h1, h2, h3⟩]
    obtain ⟨m, hm⟩ : ∃ m, m = n - 1 := ⟨_, rfl⟩
    have hmm : 1 ≤ m ∧ m ≤ 7 := by omega
    rw [← hm]
    have hm' : n - 1 = m := hm.symm
    obtain ⟨r, hr⟩ : ∃ r, r = (t.tdiv m).tmod 4 := ⟨_, rfl⟩
    rw [← hr]
    have HR : Hid (r = (t.tdiv m).tmod 4) := hr
    clear hr hm
    obtain ⟨m0, m7⟩ := hmm
    go_enter Try.func9, Try.ntmps9
    go_wp2_with fail
    refine Calls.mono HT.out ?_
    rintro e w1 ⟨rfl, hw⟩
    rw [hw]
    clear hw w1 HT
    go_wp2_with fail
    have O1 : Off (fun _ => False) w (w.alloc (.cells #[.int .i64 m, .int .i64 4] 3)) := (Off.refl _ w).alloc _
    have C1 : Cel w.heap.size 3 #[.int .i64 m, .int .i64 4] (w.alloc (.cells #[.int .i64 m, .int .i64 4] 3)) := Cel.new w _ _
    generalize hv : w.alloc (.cells #[.int .i64 m, .int .i64 4] 3) = v1 at O1 C1 ⊢
    generalize w.heap.size = b at C1 ⊢
    clear hv
    refine (turn2 t m 4 b v1 h3 htM m0 m7 (by omega) (by omega) (C1.cell 0) (C1.cell 1)).mono ?_
    rintro e v2 ⟨q, rfl, -, c, o⟩
    rw [← HR.out] at c
    have O2 := O1.trans o (fun _ _ h => h)
    clear O1 o C1
    go_wp2_with fail
    go_ret
    exact ⟨rfl, O2⟩
  · have HT : Hid _ := tells_no n t (by omega) w
    rw [show buckN n t = -1 from if_neg hok]
    clear hok
    go_enter Try.func9, Try.ntmps9
    go_wp2_with fail
    refine Calls.mono HT.out ?_
    rintro e w1 ⟨rfl, hw⟩
    rw [hw]
    clear hw w1 HT
    go_wp2_with fail
    go_ret
    exact ⟨rfl, Off.refl _ _⟩
theorem rnd_any (n : Int) (w : World) : Calls Try.prog 11 #[.int .i64 n] w fun e w' => e = .returned (.int .i64 (rndN n)) ∧ w' = w := by
  by_cases hok : 2 ≤ n ∧ n ≤ 8
  · have HT : Hid _ := many_yes n hok.1 hok.2 w
    rw [show rndN n = (n - 1) * 4 from if_pos hok]
    obtain ⟨h1, h2⟩ := hok
    go_enter Try.func11, Try.ntmps11
    go_wp2_with fail
    refine Calls.mono HT.out ?_
    rintro e w1 ⟨rfl, hw⟩
    rw [hw]
    clear hw w1 HT
    go_wp2_with fail
    go_ret
    exact ⟨rfl, rfl⟩
  · have HT : Hid _ := many_no n (by omega) w
    rw [show rndN n = 0 from if_neg hok]
    clear hok
    go_enter Try.func11, Try.ntmps11
    go_wp2_with fail
    refine Calls.mono HT.out ?_
    rintro e w1 ⟨rfl, hw⟩
    rw [hw]
    clear hw w1 HT
    go_wp2_with fail
    go_ret
    exact ⟨rfl, rfl⟩
theorem rndN_b (n : Int) : 0 ≤ rndN n ∧ rndN n ≤ 28 := by unfold rndN; split <;> omega
theorem bnd_any (n h : Int) (w : World) : Calls Try.prog 13 #[.int .i64 n, .int .i64 h] w fun e w' => e = .returned (.int .i64 (bndN n h)) ∧ w' = w := by
  have HT : Hid _ := rnd_any n w
  have hb := rndN_b n
  have h1 := max_int h 0
  have h2 := min_int (max h 0) 512
  have h3 : 0 ≤ min (max h 0) 512 ∧ min (max h 0) 512 ≤ 512 := by omega
  unfold bndN
  generalize rndN n = r at *
  generalize min (max h 0) 512 = x at *
  generalize max h 0 = y at *
  obtain ⟨b0, b1⟩ := hb
  obtain ⟨x0, x1⟩ := h3
  go_enter Try.func13, Try.ntmps13
  go_wp2_with fail
  refine Calls.mono HT.out ?_
  rintro e w1 ⟨rfl, hw⟩
  rw [hw]
  clear hw w1 HT
  go_wp2_with fail
  go_ret
  exact ⟨rfl, rfl⟩
theorem rrnd_any (n : Int) (w : World) : Calls Try.prog 12 #[.int .i64 n] w fun e w' => e = .returned (.int .i64 (rndN n)) ∧ w' = w := by
  go_enter Try.func12, Try.ntmps12
  by_cases h1 : 2 ≤ n
  · have d1 : decide (n < 2) = false := decide_eq_false (by omega)
    by_cases h2 : n ≤ 8
    · rw [show rndN n = (n - 1) * 4 from if_pos ⟨h1, h2⟩]
      have d2 : decide (8 < n) = false := decide_eq_false (by omega)
      go_wp2_with fail
      go_ret
      exact ⟨rfl, rfl⟩
    · rw [show rndN n = 0 from if_neg fun h => h2 h.2]
      have d2 : decide (8 < n) = true := decide_eq_true (by omega)
      clear h2
      go_wp2_with fail
      go_ret
      exact ⟨rfl, rfl⟩
  · rw [show rndN n = 0 from if_neg fun h => h1 h.1]
    have d1 : decide (n < 2) = true := decide_eq_true (by omega)
    clear h1
    go_wp2_with fail
    go_ret
    exact ⟨rfl, rfl⟩
theorem rbnd_any (n h : Int) (w : World) : Calls Try.prog 14 #[.int .i64 n, .int .i64 h] w fun e w' => e = .returned (.int .i64 (bndN n h)) ∧ w' = w := by
  have HT : Hid _ := rrnd_any n w
  have hb := rndN_b n
  have h1 := min_int h 512
  have h2 := max_int 0 (min h 512)
  have h3 : max 0 (min h 512) = min (max h 0) 512 := by omega
  rw [h3] at h2
  have h4 : 0 ≤ min (max h 0) 512 ∧ min (max h 0) 512 ≤ 512 := by omega
  unfold bndN
  clear h3
  generalize rndN n = r at *
  generalize min (max h 0) 512 = x at *
  generalize min h 512 = y at *
  obtain ⟨b0, b1⟩ := hb
  obtain ⟨x0, x1⟩ := h4
  go_enter Try.func14, Try.ntmps14
  go_wp2_with fail
  refine Calls.mono HT.out ?_
  rintro e w1 ⟨rfl, hw⟩
  rw [hw]
  clear hw w1 HT
  go_wp2_with fail
  go_ret
  exact ⟨rfl, rfl⟩
theorem rbuck_any (n t : Int) (htM : t ≤ 9223372036854775807) (w : World) : Calls Try.prog 10 #[.int .i64 n, .int .i64 t] w fun e w' => e = .returned (.int .i64 (buckN n t)) ∧ w' = w := by
  go_enter Try.func10, Try.ntmps10
  by_cases h1 : 2 ≤ n
  · have d1 : decide (n < 2) = false := decide_eq_false (by omega)
    by_cases h2 : n ≤ 8
    · have d2 : decide (8 < n) = false := decide_eq_false (by omega)
      by_cases h3 : 0 ≤ t
      · rw [show buckN n t = (t.tdiv (n - 1)).tmod 4 from if_pos ⟨h1, h2, h3⟩]
        obtain ⟨m, hm⟩ : ∃ m, m = n - 1 := ⟨_, rfl⟩
        rw [← hm]
        have hm' : n - 1 = m := hm.symm
        have hmz : ¬ m = 0 := by omega
        have hb := tdiv_b t m ⟨h3, htM⟩ (by omega)
        obtain ⟨a, ha⟩ : ∃ a, a = t.tdiv m := ⟨_, rfl⟩
        rw [← ha] at hb ⊢
        have ea : t.tdiv m = a := ha.symm
        obtain ⟨b0, b1⟩ := hb
        obtain ⟨r, hr⟩ : ∃ r, r = a.tmod 4 := ⟨_, rfl⟩
        have er : a.tmod 4 = r := hr.symm
        rw [← hr]
        clear hm ha hr
        go_wp2_with fail
        go_ret
        exact ⟨rfl, rfl⟩
      · rw [show buckN n t = -1 from if_neg fun h => h3 h.2.2]
        go_wp2_with fail
        go_ret
        exact ⟨rfl, rfl⟩
    · rw [show buckN n t = -1 from if_neg fun h => h2 h.2.1]
      have d2 : decide (8 < n) = true := decide_eq_true (by omega)
      clear h2
      go_wp2_with fail
      go_ret
      exact ⟨rfl, rfl⟩
  · rw [show buckN n t = -1 from if_neg fun h => h1 h.1]
    have d1 : decide (n < 2) = true := decide_eq_true (by omega)
    clear h1
    go_wp2_with fail
    go_ret
    exact ⟨rfl, rfl⟩
theorem rpeer_any (n s t : Int) (htM : t ≤ 9223372036854775807) (w : World) : Calls Try.prog 8 #[.int .i64 n, .int .i64 s, .int .i64 t] w fun e w' => e = .returned (.int .i64 (peerN n s t)) ∧ w' = w := by
  go_enter Try.func8, Try.ntmps8
  by_cases h1 : 2 ≤ n
  · have d1 : decide (n < 2) = false := decide_eq_false (by omega)
    by_cases h2 : n ≤ 8
    · have d2 : decide (8 < n) = false := decide_eq_false (by omega)
      by_cases h4 : 0 ≤ s
      · have d4 : decide (s < 0) = false := decide_eq_false (by omega)
        by_cases h5 : s < n
        · have d5 : decide (n ≤ s) = false := decide_eq_false (by omega)
          by_cases h3 : 0 ≤ t
          · have d3 : decide (t < 0) = false := decide_eq_false (by omega)
            rw [show peerN n s t = (s + 1 + t.tmod (n - 1)).tmod n from if_pos ⟨h1, h2, h3, h4, h5⟩]
            have hr := rem_b t (n - 1) h3 (by omega)
            obtain ⟨m, hm⟩ : ∃ m, m = n - 1 := ⟨_, rfl⟩
            have hmm : 1 ≤ m ∧ m ≤ 7 := by omega
            rw [← hm] at hr ⊢
            obtain ⟨r, hrr⟩ : ∃ r, r = t.tmod m := ⟨_, rfl⟩
            rw [← hrr] at hr ⊢
            obtain ⟨hr0, hr1⟩ := hr
            have er : t.tmod m = r := hrr.symm
            obtain ⟨p, hp⟩ : ∃ p, p = (s + 1 + r).tmod n := ⟨_, rfl⟩
            have ep : (s + 1 + r).tmod n = p := hp.symm
            rw [← hp]
            have hnz : ¬ n = 0 := by omega
            have hmz : ¬ m = 0 := by omega
            have hsr : s + 1 + r ≤ 100 := by omega
            have hr7 : r ≤ 7 := by omega
            have hm' : n - 1 = m := hm.symm
            clear hp hrr hr1 hm
            go_wp2_with fail
            go_ret
            exact ⟨rfl, rfl⟩
          · rw [show peerN n s t = -1 from if_neg fun h => h3 h.2.2.1]
            have d3 : decide (t < 0) = true := decide_eq_true (by omega)
            clear h3
            go_wp2_with fail
            go_ret
            exact ⟨rfl, rfl⟩
        · rw [show peerN n s t = -1 from if_neg fun h => h5 h.2.2.2.2]
          have d5 : decide (n ≤ s) = true := decide_eq_true (by omega)
          clear h5
          go_wp2_with fail
          go_ret
          exact ⟨rfl, rfl⟩
      · rw [show peerN n s t = -1 from if_neg fun h => h4 h.2.2.2.1]
        have d4 : decide (s < 0) = true := decide_eq_true (by omega)
        clear h4
        go_wp2_with fail
        go_ret
        exact ⟨rfl, rfl⟩
    · rw [show peerN n s t = -1 from if_neg fun h => h2 h.2.1]
      have d2 : decide (8 < n) = true := decide_eq_true (by omega)
      clear h2
      go_wp2_with fail
      go_ret
      exact ⟨rfl, rfl⟩
  · rw [show peerN n s t = -1 from if_neg fun h => h1 h.1]
    have d1 : decide (n < 2) = true := decide_eq_true (by omega)
    clear h1
    go_wp2_with fail
    go_ret
    exact ⟨rfl, rfl⟩
theorem awake_any (w : World) : Calls Try.prog 15 #[] w fun e w' => e = .returned (.bool true) ∧ Off (fun _ => False) w w' := by
  go_enter Try.func15, Try.ntmps15
  go_wp2_with fail
  refine (peer_any 3 1 0 (by omega) _).mono ?_
  rw [show peerN 3 1 0 = 2 by decide]
  rintro e w1 ⟨rfl, o1⟩
  go_wp2_with fail
  refine (peer_any 3 1 1 (by omega) _).mono ?_
  rw [show peerN 3 1 1 = 0 by decide]
  rintro e w2 ⟨rfl, o2⟩
  replace o2 := o1.trans o2 (fun _ _ h => h)
  clear o1
  go_wp2_with fail
  refine (rnd_any 3 _).mono ?_
  rw [show rndN 3 = 8 by decide]
  rintro e w3 ⟨rfl, hw⟩
  rw [hw]
  clear hw w3
  go_wp2_with fail
  refine (buck_any 3 2 (by omega) _).mono ?_
  rw [show buckN 3 2 = 1 by decide]
  rintro e w3 ⟨rfl, o3⟩
  replace o3 := o2.trans o3 (fun _ _ h => h)
  clear o2
  go_wp2_with fail
  go_ret
  exact ⟨rfl, o3⟩
end Go.Proofs.Ytachdgbgcdplnaa
