/- The contracts of Take, Tick, Left, Taken; of a bucket that there isn't; of 'awake'. -/
import Derived.Test.YthmhkeiaodhefaaBk17
namespace Go.Proofs.Ythmhkeiaodhefaa
set_option maxRecDepth 100000
open Go.RowKit

theorem left_any {X : World → Prop} {b : Nat} {r m n k : Int} {w : World} (h : Bkt X b r m n k w) :
    Calls Try.prog 12 #[.pointer (some ⟨b, 0, none⟩)] w fun e w' => e = .returned (.int .i64 n) ∧ w' = w := by
  obtain ⟨⟨c, d, hb, hc, hd, -⟩, -⟩ := h
  have H1 : Hid _ := tnow_any hc
  have c1 := hb.cell 1
  go_enter Try.func12, Try.ntmps12
  go_wp2_with fail
  refine Calls.mono H1.out ?_
  rintro e w1 ⟨rfl, hw⟩
  rw [hw]
  clear hw w1
  go_wp2_with fail
  go_ret
  exact ⟨rfl, rfl⟩
theorem taken_any {X : World → Prop} {b : Nat} {r m n k : Int} {w : World} (h : Bkt X b r m n k w) :
    Calls Try.prog 13 #[.pointer (some ⟨b, 0, none⟩)] w fun e w' => e = .returned (.int .i64 k) ∧ w' = w := by
  obtain ⟨⟨c, d, hb, hc, hd, -⟩, -⟩ := h
  have H1 : Hid _ := tnow_any hd
  have c2 := hb.cell 2
  go_enter Try.func13, Try.ntmps13
  go_wp2_with fail
  refine Calls.mono H1.out ?_
  rintro e w1 ⟨rfl, hw⟩
  rw [hw]
  clear hw w1
  go_wp2_with fail
  go_ret
  exact ⟨rfl, rfl⟩

set_option maxHeartbeats 1000000 in
theorem take_none {X : World → Prop} {b : Nat} {r m n k : Int} {w : World} (h : Bkt X b r m n k w) (hn : n = 0) :
    Calls Try.prog 11 #[.pointer (some ⟨b, 0, none⟩)] w fun e w' => e = .returned (.bool false) ∧ Bkt X b r m n k w' := by
  have HB : Hid _ := h
  obtain ⟨⟨c, d, hb, hc, hd, -⟩, -⟩ := h
  have H1 : Hid _ := take_no hc 1 (by omega) (by omega)
  have c1 := hb.cell 1
  clear hn
  go_enter Try.func11, Try.ntmps11
  go_wp2_with fail
  refine Calls.mono H1.out ?_
  rintro e w1 ⟨rfl, hw⟩
  rw [hw]
  clear hw w1
  go_wp2_with fail
  go_ret
  exact ⟨rfl, HB.out⟩

set_option maxHeartbeats 1000000 in
theorem take_some {X : World → Prop} {b : Nat} {r m n k : Int} {w : World} (h : Bkt X b r m n k w) (hn : 0 < n) (hk : k ≤ 1000000000) :
    Calls Try.prog 11 #[.pointer (some ⟨b, 0, none⟩)] w fun e w' => e = .returned (.bool true) ∧ Bkt X b r m (n - 1) (k + 1) w' := by
  obtain ⟨⟨c, d, hb, hc, hd, bc, bd, cd, hx⟩, r0, r1, m1, h0⟩ := h
  have H1 : Hid _ := take_yes hc 1 (by omega) (by omega)
  have c1 := hb.cell 1
  have HB : Hid _ := hb
  have HD : Hid _ := hd
  have HO : Hid _ := h0
  clear hb hd hc h0
  go_enter Try.func11, Try.ntmps11
  go_wp2_with fail
  refine Calls.mono H1.out ?_
  rintro e w1 ⟨rfl, t1, o1⟩
  have HB1 : Hid _ := HB.out.off o1 bc
  have hd1 := HD.out.off o1 (fun e => cd e.symm)
  have HO1 : Hid _ := hx _ _ HO.out (o1.mono (fun _ _ e => .inl e))
  have HT1 : Hid _ := t1
  have hk0 := hd1.low
  have H2 : Hid _ := add_yes hd1 1 (by omega) (by omega)
  have c2 := HB1.out.cell 2
  clear t1 o1 hd1 c1 HB HD HO H1
  go_wp2_with fail
  refine Calls.mono H2.out ?_
  rintro e w2 ⟨rfl, t2, o2⟩
  have HB2 : Hid _ := HB1.out.off o2 bd
  have HT2 : Hid _ := HT1.out.off o2 cd
  have HO2 : Hid _ := hx _ _ HO1.out (o2.mono (fun _ _ e => .inr e))
  have HT3 : Hid _ := t2
  clear t2 o2 c2 HB1 HT1 HO1 H2
  go_wp2_with fail
  go_ret
  exact ⟨rfl, ⟨c, d, HB2.out, HT2.out, HT3.out, bc, bd, cd, hx⟩, r0, r1, m1, HO2.out⟩

set_option maxHeartbeats 1000000 in
theorem more_any {X : World → Prop} {b : Nat} {r m n k : Int} {w : World} (h : Bkt X b r m n k w) :
    Calls Try.prog 20 #[.pointer (some ⟨b, 0, none⟩)] w fun e w' => e = .returned (.int .i64 (min r (m - n))) ∧ Off (fun _ => False) w w' := by
  have hl := h.low
  have m1 := h.m1
  obtain ⟨⟨c, d, hb, hc, hd, -⟩, -⟩ := h
  have HM : Hid (∀ q, Calls Try.prog 19 #[.pointer (some ⟨c, 0, none⟩)] (w.drewN q) fun e w' => e = .returned (.int .i64 m) ∧ w' = w.drewN q) := fun q => tmost_any (hc.drewN q)
  have HN : Hid (∀ q, Calls Try.prog 23 #[.pointer (some ⟨c, 0, none⟩)] (w.drewN q) fun e w' => e = .returned (.int .i64 n) ∧ w' = w.drewN q) := fun q => tnow_any (hc.drewN q)
  have c0 := hb.cell 0
  have c1 := hb.cell 1
  have hmn := min_int r (m - n)
  clear hb hc hd
  generalize min r (m - n) = y at *
  go_enter Try.func20, Try.ntmps20
  go_wp2_with fail
  go_quiet (first | (go_at_call 19; refine Calls.quiet_of_same (HM.out _)) | (go_at_call 23; refine Calls.quiet_of_same (HN.out _)))
  go_wp2_with fail
  go_ret
  exact ⟨rfl, (Off.refl _ w).drewN _⟩

set_option maxHeartbeats 1000000 in
theorem tick_any {X : World → Prop} {b : Nat} {r m n k : Int} {w : World} (h : Bkt X b r m n k w) :
    Calls Try.prog 10 #[.pointer (some ⟨b, 0, none⟩)] w fun e w' => e = .returned (.tuple #[]) ∧ Bkt X b r m (min m (n + r)) k w' := by
  have hl := h.low
  have hr0 := h.r0
  have hr1 := h.r1
  have hm1 := h.m1
  have HMO : Hid _ := more_any h
  have HB : Hid _ := h
  clear h
  obtain ⟨N, hN⟩ : ∃ N, N = min m (n + r) := ⟨_, rfl⟩
  rw [← hN]
  obtain ⟨y, hy⟩ : ∃ y, y = min r (m - n) := ⟨_, rfl⟩
  rw [← hy] at HMO
  by_cases hp : 0 < y
  · have hN1 : N = n + y := by omega
    have hle : y ≤ m - n := by omega
    clear hN hy
    subst hN1
    go_enter Try.func10, Try.ntmps10
    go_wp2_with fail
    refine Calls.mono HMO.out ?_
    rintro e w1 ⟨rfl, o1⟩
    have HB1 : Hid _ := HB.out.keep o1
    clear o1 HB HMO
    obtain ⟨⟨c, d, hb, hc, hd, bc, bd, cd, hx⟩, -, -, -, h0⟩ := HB1.out
    have H1 : Hid _ := add_yes hc y (by omega) (by omega)
    have c1 := hb.cell 1
    have HBC : Hid _ := hb
    have HD : Hid _ := hd
    have HO : Hid _ := h0
    clear hb hd hc h0
    go_wp2_with fail
    go_loop [2] (fun v => v = .int .i64 y) (fun _ => 0)
    case atStart => rfl
    case round =>
      subst hrel
      go_wp2_with fail
      refine Calls.mono H1.out ?_
      rintro e w2 ⟨rfl, t2, o2⟩
      have HB2 : Hid _ := HBC.out.off o2 bc
      have HD2 : Hid _ := HD.out.off o2 (fun e => cd e.symm)
      have HO2 : Hid _ := hx _ _ HO.out (o2.mono (fun _ _ e => .inl e))
      have HT2 : Hid _ := t2
      clear t2 o2
      go_wp2_with fail
      refine bodyPost_ret (results_none rfl _ _ _) rfl ?_
      exact ⟨rfl, ⟨c, d, HB2.out, HT2.out, HD2.out, bc, bd, cd, hx⟩, hr0, hr1, hm1, HO2.out⟩
  · have hN1 : N = n := by omega
    clear hN hy
    subst hN1
    go_enter Try.func10, Try.ntmps10
    go_wp2_with fail
    refine Calls.mono HMO.out ?_
    rintro e w1 ⟨rfl, o1⟩
    have HB1 : Hid _ := HB.out.keep o1
    clear o1 HB HMO
    go_wp2_with fail
    go_loop [2] (fun v => v = .int .i64 y) (fun _ => 0)
    case atStart => rfl
    case round =>
      subst hrel
      go_wp2_with fail
      go_end0
      exact ⟨rfl, HB1.out⟩
theorem tick_nil (w : World) : Calls Try.prog 10 #[.pointer none] w fun e w' => e = .returned (.tuple #[]) ∧ w' = w := by
  go_enter Try.func10, Try.ntmps10
  go_wp2_with fail
  refine bodyPost_ret (results_none rfl _ _ _) rfl ?_
  exact ⟨rfl, rfl⟩
theorem take_nil (w : World) : Calls Try.prog 11 #[.pointer none] w fun e w' => e = .returned (.bool false) ∧ w' = w := by
  go_enter Try.func11, Try.ntmps11
  go_wp2_with fail
  go_ret
  exact ⟨rfl, rfl⟩
theorem left_nil (w : World) : Calls Try.prog 12 #[.pointer none] w fun e w' => e = .returned (.int .i64 0) ∧ w' = w := by
  go_enter Try.func12, Try.ntmps12
  go_wp2_with fail
  go_ret
  exact ⟨rfl, rfl⟩
theorem taken_nil (w : World) : Calls Try.prog 13 #[.pointer none] w fun e w' => e = .returned (.int .i64 0) ∧ w' = w := by
  go_enter Try.func13, Try.ntmps13
  go_wp2_with fail
  go_ret
  exact ⟨rfl, rfl⟩

set_option maxHeartbeats 1000000 in
theorem awake_any (w : World) : Calls Try.prog 14 #[] w fun e w' => e = .returned (.bool true) ∧ Off (fun _ => False) w w' := by
  have HN : Hid _ := bnew_any 1 2 w
  rw [show cl 1 = 1 from rfl, show cl 2 = 2 from rfl] at HN
  go_enter Try.func14, Try.ntmps14
  go_wp2_with fail
  refine Calls.mono HN.out ?_
  rintro e w1 ⟨b, rfl, h1⟩
  have H1 : Hid _ := h1
  clear h1 HN
  go_wp2_with fail
  refine Calls.mono (take_some H1.out (by omega) (by omega)) ?_
  rintro e w2 ⟨rfl, h2⟩
  have H2 : Hid (Bkt (Sin w) b 1 2 1 1 w2) := h2
  clear h2 H1
  go_wp2_with fail
  refine Calls.mono (take_some H2.out (by omega) (by omega)) ?_
  rintro e w3 ⟨rfl, h3⟩
  have H3 : Hid (Bkt (Sin w) b 1 2 0 2 w3) := h3
  clear h3 H2
  go_wp2_with fail
  refine Calls.mono (take_none H3.out rfl) ?_
  rintro e w4 ⟨rfl, h4⟩
  have H4 : Hid _ := h4
  clear h4 H3
  go_wp2_with fail
  refine Calls.mono (tick_any H4.out) ?_
  rintro e w5 ⟨rfl, h5⟩
  have H5 : Hid (Bkt (Sin w) b 1 2 1 2 w5) := h5
  clear h5 H4
  go_wp2_with fail
  refine Calls.mono (take_some H5.out (by omega) (by omega)) ?_
  rintro e w6 ⟨rfl, h6⟩
  have H6 : Hid (Bkt (Sin w) b 1 2 0 3 w6) := h6
  clear h6 H5
  go_wp2_with fail
  refine Calls.mono (taken_any H6.out) ?_
  rintro e w7 ⟨rfl, hw⟩
  rw [hw]
  clear hw w7
  go_wp2_with fail
  go_ret
  exact ⟨rfl, H6.out.x⟩

theorem nil_walk (w : World) : Calls Try.prog 4 #[] w fun e w' => e = .returned (.bool true) ∧ Off (fun _ => False) w w' := by
  have HA : Hid _ := awake_any w
  have h1 := tick_nil w
  have h2 := take_nil w
  have h3 := left_nil w
  have h4 := taken_nil w
  go_enter Try.func4, Try.ntmps4
  go_wp2_with fail
  refine Calls.mono h1 ?_
  rintro e w7 ⟨rfl, hw⟩
  rw [hw]
  clear hw w7
  go_wp2_with fail
  refine Calls.mono h2 ?_
  rintro e w7 ⟨rfl, hw⟩
  rw [hw]
  clear hw w7
  go_wp2_with fail
  refine Calls.mono h3 ?_
  rintro e w7 ⟨rfl, hw⟩
  rw [hw]
  clear hw w7
  go_wp2_with fail
  refine Calls.mono h4 ?_
  rintro e w7 ⟨rfl, hw⟩
  rw [hw]
  clear hw w7
  go_wp2_with fail
  refine Calls.mono HA.out ?_
  rintro e w7 ⟨rfl, o⟩
  have HO : Hid _ := o
  clear o
  go_wp2_with fail
  go_ret
  exact ⟨rfl, HO.out⟩
end Go.Proofs.Ythmhkeiaodhefaa
