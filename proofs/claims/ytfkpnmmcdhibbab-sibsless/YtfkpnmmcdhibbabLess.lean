/- The walk of SibsLess. -/
import Derived.Test.YtfkpnmmcdhibbabLessP
namespace Go.Proofs.Ytfkpnmmcdhibbab
open Go.RowKit

theorem may_ext {f g : Nat → Int} {l : List A} (h : ∀ j, j < 8 → f j = g j) (hm : MayP f l) : MayP g l :=
  ⟨fun j hj => by rw [← h j hj]; exact hm.seen j hj, hm.few, hm.less, fun x hx => ⟨cov_mono (fun j hj => by rw [h j hj]; exact Int.le_refl _) (hm.cov x hx).1, (hm.cov x hx).2⟩⟩
theorem mayS_ext {f g : Nat → Int} {l : List A} (h : ∀ j, j < 8 → f j = g j) : mayS f l = mayS g l := by
  rw [Bool.eq_iff_iff, may_iff, may_iff]
  exact ⟨may_ext h, may_ext (fun j hj => (h j hj).symm)⟩
theorem joinV_ext {f g f2 g2 : Nat → Int} {l k : List A} (h1 : ∀ j, j < 8 → f j = f2 j) (h2 : ∀ j, j < 8 → g j = g2 j) : ∀ j, j < 8 → joinV f g l k j = joinV f2 g2 l k j := by
  intro j hj
  simp only [joinV, mayS_ext h1, mayS_ext h2]
  split
  · simp only [maxV, h1 j hj, h2 j hj]
  · rfl
theorem joinL_ext {f g f2 g2 : Nat → Int} {l k : List A} (h1 : ∀ j, j < 8 → f j = f2 j) (h2 : ∀ j, j < 8 → g j = g2 j) : joinL f g l k = joinL f2 g2 l k := by
  simp only [joinL, mayS_ext h1, mayS_ext h2, nc_ext h1, nc_ext h2]
theorem eqB_ext {f f2 g : Nat → Int} (h1 : ∀ j, j < 8 → f j = f2 j) : eqB f g = eqB f2 g := by
  rw [Bool.eq_iff_iff]
  simp only [eqB, decide_eq_true_eq]
  exact ⟨fun h j hj => by rw [← h1 j hj]; exact h j hj, fun h j hj => by rw [h1 j hj]; exact h j hj⟩
theorem leq_ext {f g f2 g2 : Nat → Int} {l k : List A} (h1 : ∀ j, j < 8 → f j = f2 j) (h2 : ∀ j, j < 8 → g j = g2 j) : leqS f g l k = leqS f2 g2 l k := by
  have hs : sameS (joinV f g l k) g (joinL f g l k) k = sameS (joinV f2 g2 l k) g2 (joinL f2 g2 l k) k := by
    rw [Bool.eq_iff_iff, same_iff, same_iff, joinL_ext h1 h2]
    refine and_congr_left' ?_
    exact ⟨fun h j hj => by rw [← h2 j hj, ← joinV_ext h1 h2 j hj]; exact h j hj, fun h j hj => by rw [h2 j hj, joinV_ext h1 h2 j hj]; exact h j hj⟩
  simp only [leqS, mayS_ext h1, mayS_ext h2, hs]
theorem leq_zero (g : Nat → Int) (b : Option Addr) (cb : Nat) (k : List V) (w : World) (h2 : Row w b cb k) :
    Calls Try.prog 28 #[.agg #[.int .i64 0, .int .i64 0, .int .i64 0, .int .i64 0, .int .i64 0, .int .i64 0, .int .i64 0, .int .i64 0, .slice none 0 0], .agg #[.int .i64 (g 0), .int .i64 (g 1), .int .i64 (g 2), .int .i64 (g 3), .int .i64 (g 4), .int .i64 (g 5), .int .i64 (g 6), .int .i64 (g 7), .slice b k.length cb]] w fun e w' => e = .returned (.bool (leqS zer g [] (cont k))) ∧ Off (fun _ => False) w w' :=
  sleq_any zer g none b 0 cb [] k w (Row.nil w none 0 (by omega)) h2

set_option maxRecDepth 100000 in
set_option maxHeartbeats 4000000 in
theorem less_walk (f : Nat → Int) (a : Option Addr) (c : Nat) (l : List V) (g : Nat → Int) (w : World) (_ : ∀ j, j < 8 → -9223372036854775808 ≤ f j ∧ f j ≤ 9223372036854775807) (hr : Row w a c l) (_ : ∀ j, j < 8 → -9223372036854775808 ≤ g j ∧ g j ≤ 9223372036854775807) :
    Calls Try.prog 6 #[.agg #[.int .i64 (f 0), .int .i64 (f 1), .int .i64 (f 2), .int .i64 (f 3), .int .i64 (f 4), .int .i64 (f 5), .int .i64 (f 6), .int .i64 (f 7), .slice a l.length c], .agg #[.int .i64 (g 0), .int .i64 (g 1), .int .i64 (g 2), .int .i64 (g 3), .int .i64 (g 4), .int .i64 (g 5), .int .i64 (g 6), .int .i64 (g 7)]] w fun e w' => e = .returned (.bool true) ∧ Off (fun _ => False) w w' := by
  have hnot := not_any
  obtain ⟨W, hW⟩ : ∃ W, W = ((w.alloc (.cells #[.int .i64 (f 0), .int .i64 (f 1), .int .i64 (f 2), .int .i64 (f 3), .int .i64 (f 4), .int .i64 (f 5), .int .i64 (f 6), .int .i64 (f 7), .slice a l.length c] 26)).alloc (.cells #[.int .i64 (g 0), .int .i64 (g 1), .int .i64 (g 2), .int .i64 (g 3), .int .i64 (g 4), .int .i64 (g 5), .int .i64 (g 6), .int .i64 (g 7)] 23)) := ⟨_, rfl⟩
  have O : Off (fun _ => False) w W := by rw [hW]; exact ((Off.refl _ w).alloc _).alloc _
  have C0 : Cel w.heap.size 26 #[.int .i64 (f 0), .int .i64 (f 1), .int .i64 (f 2), .int .i64 (f 3), .int .i64 (f 4), .int .i64 (f 5), .int .i64 (f 6), .int .i64 (f 7), .slice a l.length c] W := by rw [hW]; exact (Cel.new w _ _).alloc _
  have C1 : Cel (w.heap.size + 1) 23 #[.int .i64 (g 0), .int .i64 (g 1), .int .i64 (g 2), .int .i64 (g 3), .int .i64 (g 4), .int .i64 (g 5), .int .i64 (g 6), .int .i64 (g 7)] W := by rw [hW]; exact Cel.new1 w _ _ _
  have HW : Hid _ := hW.symm
  have H0 : Hid _ := C0
  have H1 : Hid _ := C1
  have HO : Hid _ := O
  have HR : Hid _ := hr.off O
  clear hW C0 C1 O hr
  cases m1 : mayS f (cont l)
  · go_enter Try.func6, Try.ntmps6
    go_wp2_with fail
    rw [HW.out]
    generalize hq1 : w.heap.size + 1 = q1 at H1 ⊢
    generalize hq0 : w.heap.size = q0 at H0 ⊢
    clear hq0 hq1
    refine (gmay_any f a c l _ HR.out).mono ?_
    rw [m1]
    rintro e w1 ⟨rfl, o1⟩
    go_wp2_with fail
    refine (awake_any _).mono ?_
    rintro e w9 ⟨rfl, o9⟩
    go_wp2_with fail
    go_ret
    exact ⟨rfl, HO.out.trans (o1.trans o9 (fun _ _ h => h)) (fun _ _ h => h)⟩
  cases m2 : mayB g
  · go_enter Try.func6, Try.ntmps6
    go_wp2_with fail
    rw [HW.out]
    generalize hq1 : w.heap.size + 1 = q1 at H1 ⊢
    generalize hq0 : w.heap.size = q0 at H0 ⊢
    clear hq0 hq1
    refine (gmay_any f a c l _ HR.out).mono ?_
    rw [m1]
    rintro e w1 ⟨rfl, o1⟩
    obtain ⟨x0, x1, x2, x3, x4, x5, x6, x7⟩ := cel8 (H1.out.off o1 (fun h => h))
    go_wp2_with fail
    refine (fmay_any g _).mono ?_
    rw [m2]
    rintro e w2 ⟨rfl, o2⟩
    replace o2 := o1.trans o2 (fun _ _ h => h)
    clear x0 x1 x2 x3 x4 x5 x6 x7 o1
    go_wp2_with fail
    refine (awake_any _).mono ?_
    rintro e w9 ⟨rfl, o9⟩
    go_wp2_with fail
    go_ret
    exact ⟨rfl, HO.out.trans (o2.trans o9 (fun _ _ h => h)) (fun _ _ h => h)⟩
  have HMY : Hid _ := may_iff.1 m1
  have HSN : Hid (∀ j, j < 8 → 0 ≤ g j ∧ g j ≤ 1099511627776) := by
    show ∀ j, j < 8 → 0 ≤ g j ∧ g j ≤ 1099511627776
    simpa [mayB] using m2
  go_enter Try.func6, Try.ntmps6
  go_wp2_with fail
  rw [HW.out]
  generalize hq1 : w.heap.size + 1 = q1 at H1 ⊢
  generalize hq0 : w.heap.size = q0 at H0 ⊢
  clear hq0 hq1
  refine (gmay_any f a c l _ HR.out).mono ?_
  rw [m1]
  rintro e w1 ⟨rfl, o1⟩
  obtain ⟨x0, x1, x2, x3, x4, x5, x6, x7⟩ := cel8 (H1.out.off o1 (fun h => h))
  go_wp2_with fail
  refine (fmay_any g _).mono ?_
  rw [m2]
  rintro e w2 ⟨rfl, o2⟩
  replace o2 := o1.trans o2 (fun _ _ h => h)
  clear x0 x1 x2 x3 x4 x5 x6 x7 o1
  have K0 := H0.out.off o2 (fun h => h)
  have K1 := H1.out.off o2 (fun h => h)
  have HHR := HR.out.off o2
  have HHO := HO.out.trans o2 (fun _ _ h => h)
  clear H0 H1 HR HO HW o2 m1 m2
  have H0 : Hid _ := K0
  have H1 : Hid _ := K1
  have HRS0 : Hid _ := HHR
  have HOW : Hid _ := HHO
  clear K0 K1 HHR HHO
  go_wp2_with fail
  generalize w2 = W at H0 H1 HRS0 HOW ⊢
  refine wp_region_held_drew (S := fun w' => Off (fun _ => False) W w') (by kernel_rfl) ((Off.refl _ W).drew) (fun hS => ?_)
  refine take_at (i := 0) 15 (v := .pointer (some ⟨q0, 0, none⟩)) rfl rfl (by kernel_rfl) (by kernel_rfl) (by kernel_rfl) (fun _ _ _ h => h) (Or.inl ⟨by rfl, fun w' hw' => by go_simp⟩) hS ?_
  simp only [Act.put, List.setIfInBounds_toArray, List.set_cons_zero, List.set_cons_succ]
  refine take_at (i := 1) 16 (v := .agg #[.int .i64 (f 0), .int .i64 (f 1), .int .i64 (f 2), .int .i64 (f 3), .int .i64 (f 4), .int .i64 (f 5), .int .i64 (f 6), .int .i64 (f 7)]) rfl rfl (by kernel_rfl) (by kernel_rfl) (by kernel_rfl) (fun _ _ _ h => h) (Or.inl ⟨by rfl, fun w' hw' => by obtain ⟨x0, x1, x2, x3, x4, x5, x6, x7, x8⟩ := cel9 (H0.out.off hw' (fun h => h)); go_simp⟩) hS ?_
  simp only [Act.put, List.setIfInBounds_toArray, List.set_cons_zero, List.set_cons_succ]
  refine take_at (i := 2) 17 (v := .agg #[.int .i64 (g 0), .int .i64 (g 1), .int .i64 (g 2), .int .i64 (g 3), .int .i64 (g 4), .int .i64 (g 5), .int .i64 (g 6), .int .i64 (g 7)]) rfl rfl (by kernel_rfl) (by kernel_rfl) (by kernel_rfl) (fun _ _ _ h => h) (Or.inl ⟨by rfl, fun w' hw' => by obtain ⟨x0, x1, x2, x3, x4, x5, x6, x7⟩ := cel8 (H1.out.off hw' (fun h => h)); go_simp⟩) hS ?_
  simp only [Act.put, List.setIfInBounds_toArray, List.set_cons_zero, List.set_cons_succ]
  refine take_at (i := 4) 19 (v := .pointer (some ⟨q0, 8, none⟩)) rfl rfl (by kernel_rfl) (by kernel_rfl) (by kernel_rfl) (fun _ _ _ h => h) (Or.inl ⟨by rfl, fun w' hw' => by go_simp⟩) hS ?_
  simp only [Act.put, List.setIfInBounds_toArray, List.set_cons_zero, List.set_cons_succ]
  refine take_at (i := 5) 20 (v := .slice a l.length c) rfl rfl (by kernel_rfl) (by kernel_rfl) (by kernel_rfl) (fun _ _ _ h => h) (Or.inl ⟨by rfl, fun w' hw' => by obtain ⟨x0, x1, x2, x3, x4, x5, x6, x7, x8⟩ := cel9 (H0.out.off hw' (fun h => h)); go_simp⟩) hS ?_
  simp only [Act.put, List.setIfInBounds_toArray, List.set_cons_zero, List.set_cons_succ]
  refine wpAnyH_ready (rs := [3, 7]) (by kernel_rfl) (by simp) ?_
  refine AllReadyH.cons rfl (fun K' hK' => ?_) (AllReadyH.cons rfl (fun K' hK' => ?_) AllReadyH.nil)
  · go_simp
    refine (fjoin_any f g _).mono ?_
    rintro e v3 ⟨m, rfl, hm, o3⟩
    have hS3 := hS.trans o3 (fun _ _ h => h)
    refine hK'.out _ _ hS3 (fun hS => ?_)
    clear hK' K' hS3
    have em : ∀ j, j < 8 → m j = maxV f g j := hm
    have HL1 : Hid (leqS f m (cont l) (cont l) = true) := by show _ = true; rw [leq_ext (f2 := f) (g2 := maxV f g) (fun _ _ => rfl) em]; exact less_one HMY.out HSN.out
    have HL2 : Hid (leqS m f (cont l) (cont l) = eqB m f) := by show _ = _; rw [leq_ext (f2 := maxV f g) (g2 := f) em (fun _ _ => rfl), eqB_ext em]; exact less_back HMY.out HSN.out
    have HL3 : Hid (leqS zer f [] (cont l) = true) := less_zero HMY.out
    have HL4 : ∀ (rf j : Nat → Int) (lr lj : List V), rf = reapV f (cont l) → cont lr = reapL f (cont l) → j = joinV (reapV f (cont l)) m (reapL f (cont l)) (cont l) → cont lj = joinL (reapV f (cont l)) m (reapL f (cont l)) (cont l) → leqS rf j (cont lr) (cont lj) = true := by
      intro rf j lr lj h1 h2 h3 h4
      have hv : reapV f (cont l) = f := by simp [reapV, may_yes HMY.out]
      rw [hv] at h1 h3 h4
      rw [h1, h2, h3, h4, joinL_ext (f2 := f) (g2 := maxV f g) (fun _ _ => rfl) em, leq_ext (f2 := f) (g2 := joinV f (maxV f g) (reapL f (cont l)) (cont l)) (fun _ _ => rfl) (joinV_ext (fun _ _ => rfl) em)]
      exact less_reap HMY.out HSN.out
    clear hm em
    refine take_at (i := 6) 21 (v := .agg #[.int .i64 (m 0), .int .i64 (m 1), .int .i64 (m 2), .int .i64 (m 3), .int .i64 (m 4), .int .i64 (m 5), .int .i64 (m 6), .int .i64 (m 7), .slice a l.length c]) rfl rfl (by kernel_rfl) (by kernel_rfl) (by kernel_rfl) (fun _ _ _ h => h) (Or.inl ⟨by rfl, fun w' hw' => by go_simp⟩) hS ?_
    simp only [Act.put, List.setIfInBounds_toArray, List.set_cons_zero, List.set_cons_succ]
    refine wpAnyH_ready (rs := [7]) (by kernel_rfl) (by simp) ?_
    refine AllReadyH.cons rfl (fun K' hK' => ?_) AllReadyH.nil
    go_simp
    refine hK'.out _ _ (hS.alloc _) (fun hS => ?_)
    clear hK' K'
    have DQ : Cel v3.heap.size 26 #[.int .i64 (zer 0), .int .i64 (zer 1), .int .i64 (zer 2), .int .i64 (zer 3), .int .i64 (zer 4), .int .i64 (zer 5), .int .i64 (zer 6), .int .i64 (zer 7), .slice none 0 0] (v3.alloc (.cells #[.int .i64 0, .int .i64 0, .int .i64 0, .int .i64 0, .int .i64 0, .int .i64 0, .int .i64 0, .int .i64 0, .slice none 0 0] 26)) := Cel.new v3 _ _
    have hq9 : W.heap.size ≤ v3.heap.size := by have := o3.size; exact this
    generalize hV0 : v3.alloc (.cells #[.int .i64 0, .int .i64 0, .int .i64 0, .int .i64 0, .int .i64 0, .int .i64 0, .int .i64 0, .int .i64 0, .slice none 0 0] 26) = V0 at DQ hS ⊢
    generalize hQ : v3.heap.size = QQ at DQ hq9 ⊢
    clear hV0 hQ o3
    obtain ⟨x0, x1, x2, x3, x4, x5, x6, x7, x8⟩ := cel9 DQ
    have fz := DQ.free
    refine wpAnyH_ready (rs := [8]) (by kernel_rfl) (by simp) ?_
    refine AllReadyH.cons rfl (fun K' hK' => ?_) AllReadyH.nil
    go_simp
    have hS5 := hS.st9 (b := QQ) (.inr (by omega)) m (.slice a l.length c)
    refine hK'.out _ _ hS5 (fun hS => ?_)
    clear hK' K' hS5
    have ZQ := DQ.st9 m (.slice a l.length c)
    clear DQ fz x0 x1 x2 x3 x4 x5 x6 x7 x8
    generalize hV : (((((((((V0.setCell ⟨QQ, 0, none⟩ (.int .i64 (m 0))).setCell ⟨QQ, 1, none⟩ (.int .i64 (m 1))).setCell ⟨QQ, 2, none⟩ (.int .i64 (m 2))).setCell ⟨QQ, 3, none⟩ (.int .i64 (m 3))).setCell ⟨QQ, 4, none⟩ (.int .i64 (m 4))).setCell ⟨QQ, 5, none⟩ (.int .i64 (m 5))).setCell ⟨QQ, 6, none⟩ (.int .i64 (m 6))).setCell ⟨QQ, 7, none⟩ (.int .i64 (m 7))).setCell ⟨QQ, 8, none⟩ (.slice a l.length c)) = V at ZQ hS ⊢
    clear hV
    refine wpAnyH_done (by kernel_rfl) ?_ _
    have HG0 := H0.out.off hS (fun h => h)
    have HRS3 := HRS0.out.off hS
    have OV := HOW.out.trans hS (fun _ _ h => h)
    clear hS
    have GQ : Hid _ := ZQ
    have G0 : Hid _ := HG0
    have HRS : Hid _ := HRS3
    have HOV : Hid _ := OV
    clear ZQ HG0 HRS3 OV
    generalize QQ = Q at GQ ⊢
    go_wp2_with fail
    refine wp_region_held_drew (S := fun w' => Off (fun _ => False) V w') (by kernel_rfl) ((Off.refl _ V).drew) (fun hS => ?_)
    refine take_at (i := 0) 22 (v := .agg #[.int .i64 (f 0), .int .i64 (f 1), .int .i64 (f 2), .int .i64 (f 3), .int .i64 (f 4), .int .i64 (f 5), .int .i64 (f 6), .int .i64 (f 7), .slice a l.length c]) rfl rfl (by kernel_rfl) (by kernel_rfl) (by kernel_rfl) (fun _ _ _ h => h) (Or.inl ⟨by rfl, fun w' hw' => by obtain ⟨x0, x1, x2, x3, x4, x5, x6, x7, x8⟩ := cel9 (G0.out.off hw' (fun h => h)); go_simp⟩) hS ?_
    simp only [Act.put, List.setIfInBounds_toArray, List.set_cons_zero, List.set_cons_succ]
    refine take_at (i := 1) 23 (v := .agg #[.int .i64 (m 0), .int .i64 (m 1), .int .i64 (m 2), .int .i64 (m 3), .int .i64 (m 4), .int .i64 (m 5), .int .i64 (m 6), .int .i64 (m 7), .slice a l.length c]) rfl rfl (by kernel_rfl) (by kernel_rfl) (by kernel_rfl) (fun _ _ _ h => h) (Or.inl ⟨by rfl, fun w' hw' => by obtain ⟨x0, x1, x2, x3, x4, x5, x6, x7, x8⟩ := cel9 (GQ.out.off hw' (fun h => h)); go_simp⟩) hS ?_
    simp only [Act.put, List.setIfInBounds_toArray, List.set_cons_zero, List.set_cons_succ]
    have ra := HRS.out.off hS
    have rb := HRS.out.off hS
    refine wpAnyH_ready (rs := [2]) (by kernel_rfl) (by simp) ?_
    refine AllReadyH.cons rfl (fun K' hK' => ?_) AllReadyH.nil
    go_simp
    refine (sleq_any f m a a c c l l _ ra rb).mono ?_
    rw [HL1.out]
    rintro e v2 ⟨rfl, o2⟩
    have hS1 := hS.trans o2 (fun _ _ h => h)
    refine hK'.out _ _ hS1 (fun hS => ?_)
    clear hK' K' hS1
    clear o2 ra rb
    refine take_at (i := 3) 25 (v := .bool true) rfl rfl (by kernel_rfl) (by kernel_rfl) (by kernel_rfl) (fun _ _ _ h => h) (Or.inl ⟨by rfl, fun w' hw' => by go_simp⟩) hS ?_
    simp only [Act.put, List.setIfInBounds_toArray, List.set_cons_zero, List.set_cons_succ]
    refine take_at (i := 4) 26 (v := .agg #[.int .i64 (m 0), .int .i64 (m 1), .int .i64 (m 2), .int .i64 (m 3), .int .i64 (m 4), .int .i64 (m 5), .int .i64 (m 6), .int .i64 (m 7), .slice a l.length c]) rfl rfl (by kernel_rfl) (by kernel_rfl) (by kernel_rfl) (fun _ _ _ h => h) (Or.inl ⟨by rfl, fun w' hw' => by obtain ⟨x0, x1, x2, x3, x4, x5, x6, x7, x8⟩ := cel9 (GQ.out.off hw' (fun h => h)); go_simp⟩) hS ?_
    simp only [Act.put, List.setIfInBounds_toArray, List.set_cons_zero, List.set_cons_succ]
    refine take_at (i := 5) 27 (v := .agg #[.int .i64 (f 0), .int .i64 (f 1), .int .i64 (f 2), .int .i64 (f 3), .int .i64 (f 4), .int .i64 (f 5), .int .i64 (f 6), .int .i64 (f 7), .slice a l.length c]) rfl rfl (by kernel_rfl) (by kernel_rfl) (by kernel_rfl) (fun _ _ _ h => h) (Or.inl ⟨by rfl, fun w' hw' => by obtain ⟨x0, x1, x2, x3, x4, x5, x6, x7, x8⟩ := cel9 (G0.out.off hw' (fun h => h)); go_simp⟩) hS ?_
    simp only [Act.put, List.setIfInBounds_toArray, List.set_cons_zero, List.set_cons_succ]
    refine take_at (i := 7) 29 (v := .pointer (some ⟨Q, 0, none⟩)) rfl rfl (by kernel_rfl) (by kernel_rfl) (by kernel_rfl) (fun _ _ _ h => h) (Or.inl ⟨by rfl, fun w' hw' => by go_simp⟩) hS ?_
    simp only [Act.put, List.setIfInBounds_toArray, List.set_cons_zero, List.set_cons_succ]
    refine take_at (i := 8) 30 (v := .agg #[.int .i64 (m 0), .int .i64 (m 1), .int .i64 (m 2), .int .i64 (m 3), .int .i64 (m 4), .int .i64 (m 5), .int .i64 (m 6), .int .i64 (m 7)]) rfl rfl (by kernel_rfl) (by kernel_rfl) (by kernel_rfl) (fun _ _ _ h => h) (Or.inl ⟨by rfl, fun w' hw' => by obtain ⟨x0, x1, x2, x3, x4, x5, x6, x7, x8⟩ := cel9 (GQ.out.off hw' (fun h => h)); go_simp⟩) hS ?_
    simp only [Act.put, List.setIfInBounds_toArray, List.set_cons_zero, List.set_cons_succ]
    refine take_at (i := 9) 31 (v := .pointer (some ⟨q0, 0, none⟩)) rfl rfl (by kernel_rfl) (by kernel_rfl) (by kernel_rfl) (fun _ _ _ h => h) (Or.inl ⟨by rfl, fun w' hw' => by go_simp⟩) hS ?_
    simp only [Act.put, List.setIfInBounds_toArray, List.set_cons_zero, List.set_cons_succ]
    refine take_at (i := 10) 32 (v := .agg #[.int .i64 (f 0), .int .i64 (f 1), .int .i64 (f 2), .int .i64 (f 3), .int .i64 (f 4), .int .i64 (f 5), .int .i64 (f 6), .int .i64 (f 7)]) rfl rfl (by kernel_rfl) (by kernel_rfl) (by kernel_rfl) (fun _ _ _ h => h) (Or.inl ⟨by rfl, fun w' hw' => by obtain ⟨x0, x1, x2, x3, x4, x5, x6, x7, x8⟩ := cel9 (G0.out.off hw' (fun h => h)); go_simp⟩) hS ?_
    simp only [Act.put, List.setIfInBounds_toArray, List.set_cons_zero, List.set_cons_succ]
    refine take_at (i := 11) 33 (v := .bool (eqB m f)) rfl rfl (by kernel_rfl) (by kernel_rfl) (by kernel_rfl) (fun _ _ _ h => h) (Or.inl ⟨by rfl, fun w' hw' => by have e := eql_vec m f; go_simp⟩) hS ?_
    simp only [Act.put, List.setIfInBounds_toArray, List.set_cons_zero, List.set_cons_succ]
    have ra := HRS.out.off hS
    have rb := HRS.out.off hS
    refine wpAnyH_ready (rs := [6]) (by kernel_rfl) (by simp) ?_
    refine AllReadyH.cons rfl (fun K' hK' => ?_) AllReadyH.nil
    go_simp
    refine (sleq_any m f a a c c l l _ ra rb).mono ?_
    rw [HL2.out]
    rintro e v6 ⟨rfl, o6⟩
    have hS1 := hS.trans o6 (fun _ _ h => h)
    refine hK'.out _ _ hS1 (fun hS => ?_)
    clear hK' K' hS1
    clear o6 ra rb
    refine take_at (i := 12) 34 (v := .bool true) rfl rfl (by kernel_rfl) (by kernel_rfl) (by kernel_rfl) (fun _ _ _ h => h) (Or.inl ⟨by rfl, fun w' hw' => by go_simp⟩) hS ?_
    simp only [Act.put, List.setIfInBounds_toArray, List.set_cons_zero, List.set_cons_succ]
    refine take_at (i := 13) 35 (v := .bool true) rfl rfl (by kernel_rfl) (by kernel_rfl) (by kernel_rfl) (fun _ _ _ h => h) (Or.inl ⟨by rfl, fun w' hw' => by go_simp⟩) hS ?_
    simp only [Act.put, List.setIfInBounds_toArray, List.set_cons_zero, List.set_cons_succ]
    refine take_at (i := 14) 36 (v := .bool true) rfl rfl (by kernel_rfl) (by kernel_rfl) (by kernel_rfl) (fun _ _ _ h => h) (Or.inl ⟨by rfl, fun w' hw' => by go_simp⟩) hS ?_
    simp only [Act.put, List.setIfInBounds_toArray, List.set_cons_zero, List.set_cons_succ]
    refine take_at (i := 15) 37 (v := .agg #[.int .i64 0, .int .i64 0, .int .i64 0, .int .i64 0, .int .i64 0, .int .i64 0, .int .i64 0, .int .i64 0, .slice none 0 0]) rfl rfl (by kernel_rfl) (by kernel_rfl) (by kernel_rfl) (fun _ _ _ h => h) (Or.inl ⟨by rfl, fun w' hw' => by go_simp⟩) hS ?_
    simp only [Act.put, List.setIfInBounds_toArray, List.set_cons_zero, List.set_cons_succ]
    refine take_at (i := 16) 38 (v := .agg #[.int .i64 (f 0), .int .i64 (f 1), .int .i64 (f 2), .int .i64 (f 3), .int .i64 (f 4), .int .i64 (f 5), .int .i64 (f 6), .int .i64 (f 7), .slice a l.length c]) rfl rfl (by kernel_rfl) (by kernel_rfl) (by kernel_rfl) (fun _ _ _ h => h) (Or.inl ⟨by rfl, fun w' hw' => by obtain ⟨x0, x1, x2, x3, x4, x5, x6, x7, x8⟩ := cel9 (G0.out.off hw' (fun h => h)); go_simp⟩) hS ?_
    simp only [Act.put, List.setIfInBounds_toArray, List.set_cons_zero, List.set_cons_succ]
    have rb := HRS.out.off hS
    refine wpAnyH_ready (rs := [17]) (by kernel_rfl) (by simp) ?_
    refine AllReadyH.cons rfl (fun K' hK' => ?_) AllReadyH.nil
    go_simp
    refine (leq_zero f a c l _ rb).mono ?_
    rw [HL3.out]
    rintro e v17 ⟨rfl, o17⟩
    have hS1 := hS.trans o17 (fun _ _ h => h)
    refine hK'.out _ _ hS1 (fun hS => ?_)
    clear hK' K' hS1
    clear o17 rb
    refine take_at (i := 18) 40 (v := .bool true) rfl rfl (by kernel_rfl) (by kernel_rfl) (by kernel_rfl) (fun _ _ _ h => h) (Or.inl ⟨by rfl, fun w' hw' => by go_simp⟩) hS ?_
    simp only [Act.put, List.setIfInBounds_toArray, List.set_cons_zero, List.set_cons_succ]
    refine take_at (i := 19) 41 (v := .bool true) rfl rfl (by kernel_rfl) (by kernel_rfl) (by kernel_rfl) (fun _ _ _ h => h) (Or.inl ⟨by rfl, fun w' hw' => by go_simp⟩) hS ?_
    simp only [Act.put, List.setIfInBounds_toArray, List.set_cons_zero, List.set_cons_succ]
    refine take_at (i := 20) 42 (v := .agg #[.int .i64 (f 0), .int .i64 (f 1), .int .i64 (f 2), .int .i64 (f 3), .int .i64 (f 4), .int .i64 (f 5), .int .i64 (f 6), .int .i64 (f 7), .slice a l.length c]) rfl rfl (by kernel_rfl) (by kernel_rfl) (by kernel_rfl) (fun _ _ _ h => h) (Or.inl ⟨by rfl, fun w' hw' => by obtain ⟨x0, x1, x2, x3, x4, x5, x6, x7, x8⟩ := cel9 (G0.out.off hw' (fun h => h)); go_simp⟩) hS ?_
    simp only [Act.put, List.setIfInBounds_toArray, List.set_cons_zero, List.set_cons_succ]
    refine take_at (i := 22) 44 (v := .agg #[.int .i64 (f 0), .int .i64 (f 1), .int .i64 (f 2), .int .i64 (f 3), .int .i64 (f 4), .int .i64 (f 5), .int .i64 (f 6), .int .i64 (f 7), .slice a l.length c]) rfl rfl (by kernel_rfl) (by kernel_rfl) (by kernel_rfl) (fun _ _ _ h => h) (Or.inl ⟨by rfl, fun w' hw' => by obtain ⟨x0, x1, x2, x3, x4, x5, x6, x7, x8⟩ := cel9 (G0.out.off hw' (fun h => h)); go_simp⟩) hS ?_
    simp only [Act.put, List.setIfInBounds_toArray, List.set_cons_zero, List.set_cons_succ]
    refine take_at (i := 24) 46 (v := .agg #[.int .i64 (m 0), .int .i64 (m 1), .int .i64 (m 2), .int .i64 (m 3), .int .i64 (m 4), .int .i64 (m 5), .int .i64 (m 6), .int .i64 (m 7), .slice a l.length c]) rfl rfl (by kernel_rfl) (by kernel_rfl) (by kernel_rfl) (fun _ _ _ h => h) (Or.inl ⟨by rfl, fun w' hw' => by obtain ⟨x0, x1, x2, x3, x4, x5, x6, x7, x8⟩ := cel9 (GQ.out.off hw' (fun h => h)); go_simp⟩) hS ?_
    simp only [Act.put, List.setIfInBounds_toArray, List.set_cons_zero, List.set_cons_succ]
    have ra := HRS.out.off hS
    refine wpAnyH_ready (rs := [21]) (by kernel_rfl) (by simp) ?_
    refine AllReadyH.cons rfl (fun K' hK' => ?_) AllReadyH.nil
    go_simp
    refine (sreap_any f a c l _ ra).mono ?_
    rintro e v21 ⟨rf, ar, cr, lr, rfl, hv21, hl21, md21, o21⟩
    have hS1 := hS.trans o21 (fun _ _ h => h)
    refine hK'.out _ _ hS1 (fun hS => ?_)
    clear hK' K' hS1
    have HVrf : Hid _ := hv21
    have HLrf : Hid _ := hl21
    have HMrf : Hid _ := md21.row
    clear hv21 hl21 md21 ra
    have HRR1 : Hid _ := HMrf.out
    have q1 := o21
    clear o21
    have ra := HRS.out.off hS
    refine wpAnyH_ready (rs := [23]) (by kernel_rfl) (by simp) ?_
    refine AllReadyH.cons rfl (fun K' hK' => ?_) AllReadyH.nil
    go_simp
    refine (sreap_any f a c l _ ra).mono ?_
    rintro e v23 ⟨rg, ag, cg, lg, rfl, hv23, hl23, md23, o23⟩
    have hS1 := hS.trans o23 (fun _ _ h => h)
    refine hK'.out _ _ hS1 (fun hS => ?_)
    clear hK' K' hS1
    have HVrg : Hid _ := hv23
    have HLrg : Hid _ := hl23
    have HMrg : Hid _ := md23.row
    clear hv23 hl23 md23 ra
    have HRR2 : Hid _ := HRR1.out.off o23
    clear o23
    have rb := HRS.out.off hS
    refine wpAnyH_ready (rs := [25]) (by kernel_rfl) (by simp) ?_
    refine AllReadyH.cons rfl (fun K' hK' => ?_) AllReadyH.nil
    go_simp
    refine (sjoin_any rg m ag a cg c lg l _ HMrg.out rb).mono ?_
    rintro e v25 ⟨j, aj, cj, lj, rfl, hvj, hlj, mdj, o25⟩
    have hS1 := hS.trans o25 (fun _ _ h => h)
    refine hK'.out _ _ hS1 (fun hS => ?_)
    clear hK' K' hS1
    have HRR : Hid _ := HRR2.out.off o25
    have HRJ : Hid _ := mdj.row
    have HJV : Hid _ := hvj
    have HJL : Hid _ := hlj
    clear hvj hlj mdj rb o25
    have ra := HRR.out
    have rb := HRJ.out
    refine wpAnyH_ready (rs := [26]) (by kernel_rfl) (by simp) ?_
    refine AllReadyH.cons rfl (fun K' hK' => ?_) AllReadyH.nil
    go_simp
    refine (sleq_any rf j ar aj cr cj lr lj _ ra rb).mono ?_
    rw [HL4 rf j lr lj HVrf.out HLrf.out (by rw [HJV.out, HVrg.out, HLrg.out]) (by rw [HJL.out, HVrg.out, HLrg.out])]
    rintro e v26 ⟨rfl, o26⟩
    have hS1 := hS.trans o26 (fun _ _ h => h)
    refine hK'.out _ _ hS1 (fun hS => ?_)
    clear hK' K' hS1
    clear o26 ra rb
    refine take_at (i := 27) 49 (v := .bool true) rfl rfl (by kernel_rfl) (by kernel_rfl) (by kernel_rfl) (fun _ _ _ h => h) (Or.inl ⟨by rfl, fun w' hw' => by go_simp⟩) hS ?_
    simp only [Act.put, List.setIfInBounds_toArray, List.set_cons_zero, List.set_cons_succ]
    refine take_at (i := 28) 50 (v := .bool true) rfl rfl (by kernel_rfl) (by kernel_rfl) (by kernel_rfl) (fun _ _ _ h => h) (Or.inl ⟨by rfl, fun w' hw' => by go_simp⟩) hS ?_
    simp only [Act.put, List.setIfInBounds_toArray, List.set_cons_zero, List.set_cons_succ]
    refine wpAnyH_ready (rs := [29]) (by kernel_rfl) (by simp) ?_
    refine AllReadyH.cons rfl (fun K' hK' => ?_) AllReadyH.nil
    go_simp
    refine (awake_any _).mono ?_
    rintro e v29 ⟨rfl, o29⟩
    have hS1 := hS.trans o29 (fun _ _ h => h)
    refine hK'.out _ _ hS1 (fun hS => ?_)
    clear hK' K' hS1
    clear o29
    refine take_at (i := 30) 52 (v := .bool true) rfl rfl (by kernel_rfl) (by kernel_rfl) (by kernel_rfl) (fun _ _ _ h => h) (Or.inl ⟨by rfl, fun w' hw' => by go_simp⟩) hS ?_
    simp only [Act.put, List.setIfInBounds_toArray, List.set_cons_zero, List.set_cons_succ]
    refine take_at (i := 31) 4 (v := .bool true) rfl rfl (by kernel_rfl) (by kernel_rfl) (by kernel_rfl) (fun _ _ _ h => h) (Or.inl ⟨by rfl, fun w' hw' => by go_simp⟩) hS ?_
    simp only [Act.put, List.setIfInBounds_toArray, List.set_cons_zero, List.set_cons_succ]
    refine wpAnyH_done (by kernel_rfl) ?_ _
    go_wp2_with fail
    go_ret
    exact ⟨rfl, HOV.out.trans hS (fun _ _ h => h)⟩
  · go_simp
    refine hK'.out _ _ (hS.alloc _) (fun hS => ?_)
    clear hK' K'
    have DQ : Cel W.heap.size 26 #[.int .i64 (zer 0), .int .i64 (zer 1), .int .i64 (zer 2), .int .i64 (zer 3), .int .i64 (zer 4), .int .i64 (zer 5), .int .i64 (zer 6), .int .i64 (zer 7), .slice none 0 0] (W.alloc (.cells #[.int .i64 0, .int .i64 0, .int .i64 0, .int .i64 0, .int .i64 0, .int .i64 0, .int .i64 0, .int .i64 0, .slice none 0 0] 26)).drew := (Cel.new W _ _).drew
    have hq9 : W.heap.size ≤ W.heap.size := Nat.le_refl _
    generalize hV0 : (W.alloc (.cells #[.int .i64 0, .int .i64 0, .int .i64 0, .int .i64 0, .int .i64 0, .int .i64 0, .int .i64 0, .int .i64 0, .slice none 0 0] 26)).drew = V0 at DQ hS ⊢
    generalize hQ : W.heap.size = QQ at DQ ⊢
    have hq8 : W.heap.size ≤ QQ := by omega
    clear hV0 hQ hq9
    refine wpAnyH_ready (rs := [3]) (by kernel_rfl) (by simp) ?_
    refine AllReadyH.cons rfl (fun K' hK' => ?_) AllReadyH.nil
    go_simp
    refine (fjoin_any f g _).mono ?_
    rintro e v3 ⟨m, rfl, hm, o3⟩
    have hS3 := hS.trans o3 (fun _ _ h => h)
    refine hK'.out _ _ hS3 (fun hS => ?_)
    clear hK' K' hS3
    replace DQ := DQ.off o3 (fun h => h)
    clear o3
    have em : ∀ j, j < 8 → m j = maxV f g j := hm
    have HL1 : Hid (leqS f m (cont l) (cont l) = true) := by show _ = true; rw [leq_ext (f2 := f) (g2 := maxV f g) (fun _ _ => rfl) em]; exact less_one HMY.out HSN.out
    have HL2 : Hid (leqS m f (cont l) (cont l) = eqB m f) := by show _ = _; rw [leq_ext (f2 := maxV f g) (g2 := f) em (fun _ _ => rfl), eqB_ext em]; exact less_back HMY.out HSN.out
    have HL3 : Hid (leqS zer f [] (cont l) = true) := less_zero HMY.out
    have HL4 : ∀ (rf j : Nat → Int) (lr lj : List V), rf = reapV f (cont l) → cont lr = reapL f (cont l) → j = joinV (reapV f (cont l)) m (reapL f (cont l)) (cont l) → cont lj = joinL (reapV f (cont l)) m (reapL f (cont l)) (cont l) → leqS rf j (cont lr) (cont lj) = true := by
      intro rf j lr lj h1 h2 h3 h4
      have hv : reapV f (cont l) = f := by simp [reapV, may_yes HMY.out]
      rw [hv] at h1 h3 h4
      rw [h1, h2, h3, h4, joinL_ext (f2 := f) (g2 := maxV f g) (fun _ _ => rfl) em, leq_ext (f2 := f) (g2 := joinV f (maxV f g) (reapL f (cont l)) (cont l)) (fun _ _ => rfl) (joinV_ext (fun _ _ => rfl) em)]
      exact less_reap HMY.out HSN.out
    clear hm em
    refine take_at (i := 6) 21 (v := .agg #[.int .i64 (m 0), .int .i64 (m 1), .int .i64 (m 2), .int .i64 (m 3), .int .i64 (m 4), .int .i64 (m 5), .int .i64 (m 6), .int .i64 (m 7), .slice a l.length c]) rfl rfl (by kernel_rfl) (by kernel_rfl) (by kernel_rfl) (fun _ _ _ h => h) (Or.inl ⟨by rfl, fun w' hw' => by go_simp⟩) hS ?_
    simp only [Act.put, List.setIfInBounds_toArray, List.set_cons_zero, List.set_cons_succ]
    obtain ⟨x0, x1, x2, x3, x4, x5, x6, x7, x8⟩ := cel9 DQ
    have fz := DQ.free
    refine wpAnyH_ready (rs := [8]) (by kernel_rfl) (by simp) ?_
    refine AllReadyH.cons rfl (fun K' hK' => ?_) AllReadyH.nil
    go_simp
    have hS5 := hS.st9 (b := QQ) (.inr (by omega)) m (.slice a l.length c)
    refine hK'.out _ _ hS5 (fun hS => ?_)
    clear hK' K' hS5
    have ZQ := DQ.st9 m (.slice a l.length c)
    clear DQ fz x0 x1 x2 x3 x4 x5 x6 x7 x8
    generalize hV : (((((((((v3.setCell ⟨QQ, 0, none⟩ (.int .i64 (m 0))).setCell ⟨QQ, 1, none⟩ (.int .i64 (m 1))).setCell ⟨QQ, 2, none⟩ (.int .i64 (m 2))).setCell ⟨QQ, 3, none⟩ (.int .i64 (m 3))).setCell ⟨QQ, 4, none⟩ (.int .i64 (m 4))).setCell ⟨QQ, 5, none⟩ (.int .i64 (m 5))).setCell ⟨QQ, 6, none⟩ (.int .i64 (m 6))).setCell ⟨QQ, 7, none⟩ (.int .i64 (m 7))).setCell ⟨QQ, 8, none⟩ (.slice a l.length c)) = V at ZQ hS ⊢
    clear hV
    refine wpAnyH_done (by kernel_rfl) ?_ _
    have HG0 := H0.out.off hS (fun h => h)
    have HRS3 := HRS0.out.off hS
    have OV := HOW.out.trans hS (fun _ _ h => h)
    clear hS
    have GQ : Hid _ := ZQ
    have G0 : Hid _ := HG0
    have HRS : Hid _ := HRS3
    have HOV : Hid _ := OV
    clear ZQ HG0 HRS3 OV
    generalize QQ = Q at GQ ⊢
    go_wp2_with fail
    refine wp_region_held_drew (S := fun w' => Off (fun _ => False) V w') (by kernel_rfl) ((Off.refl _ V).drew) (fun hS => ?_)
    refine take_at (i := 0) 22 (v := .agg #[.int .i64 (f 0), .int .i64 (f 1), .int .i64 (f 2), .int .i64 (f 3), .int .i64 (f 4), .int .i64 (f 5), .int .i64 (f 6), .int .i64 (f 7), .slice a l.length c]) rfl rfl (by kernel_rfl) (by kernel_rfl) (by kernel_rfl) (fun _ _ _ h => h) (Or.inl ⟨by rfl, fun w' hw' => by obtain ⟨x0, x1, x2, x3, x4, x5, x6, x7, x8⟩ := cel9 (G0.out.off hw' (fun h => h)); go_simp⟩) hS ?_
    simp only [Act.put, List.setIfInBounds_toArray, List.set_cons_zero, List.set_cons_succ]
    refine take_at (i := 1) 23 (v := .agg #[.int .i64 (m 0), .int .i64 (m 1), .int .i64 (m 2), .int .i64 (m 3), .int .i64 (m 4), .int .i64 (m 5), .int .i64 (m 6), .int .i64 (m 7), .slice a l.length c]) rfl rfl (by kernel_rfl) (by kernel_rfl) (by kernel_rfl) (fun _ _ _ h => h) (Or.inl ⟨by rfl, fun w' hw' => by obtain ⟨x0, x1, x2, x3, x4, x5, x6, x7, x8⟩ := cel9 (GQ.out.off hw' (fun h => h)); go_simp⟩) hS ?_
    simp only [Act.put, List.setIfInBounds_toArray, List.set_cons_zero, List.set_cons_succ]
    have ra := HRS.out.off hS
    have rb := HRS.out.off hS
    refine wpAnyH_ready (rs := [2]) (by kernel_rfl) (by simp) ?_
    refine AllReadyH.cons rfl (fun K' hK' => ?_) AllReadyH.nil
    go_simp
    refine (sleq_any f m a a c c l l _ ra rb).mono ?_
    rw [HL1.out]
    rintro e v2 ⟨rfl, o2⟩
    have hS1 := hS.trans o2 (fun _ _ h => h)
    refine hK'.out _ _ hS1 (fun hS => ?_)
    clear hK' K' hS1
    clear o2 ra rb
    refine take_at (i := 3) 25 (v := .bool true) rfl rfl (by kernel_rfl) (by kernel_rfl) (by kernel_rfl) (fun _ _ _ h => h) (Or.inl ⟨by rfl, fun w' hw' => by go_simp⟩) hS ?_
    simp only [Act.put, List.setIfInBounds_toArray, List.set_cons_zero, List.set_cons_succ]
    refine take_at (i := 4) 26 (v := .agg #[.int .i64 (m 0), .int .i64 (m 1), .int .i64 (m 2), .int .i64 (m 3), .int .i64 (m 4), .int .i64 (m 5), .int .i64 (m 6), .int .i64 (m 7), .slice a l.length c]) rfl rfl (by kernel_rfl) (by kernel_rfl) (by kernel_rfl) (fun _ _ _ h => h) (Or.inl ⟨by rfl, fun w' hw' => by obtain ⟨x0, x1, x2, x3, x4, x5, x6, x7, x8⟩ := cel9 (GQ.out.off hw' (fun h => h)); go_simp⟩) hS ?_
    simp only [Act.put, List.setIfInBounds_toArray, List.set_cons_zero, List.set_cons_succ]
    refine take_at (i := 5) 27 (v := .agg #[.int .i64 (f 0), .int .i64 (f 1), .int .i64 (f 2), .int .i64 (f 3), .int .i64 (f 4), .int .i64 (f 5), .int .i64 (f 6), .int .i64 (f 7), .slice a l.length c]) rfl rfl (by kernel_rfl) (by kernel_rfl) (by kernel_rfl) (fun _ _ _ h => h) (Or.inl ⟨by rfl, fun w' hw' => by obtain ⟨x0, x1, x2, x3, x4, x5, x6, x7, x8⟩ := cel9 (G0.out.off hw' (fun h => h)); go_simp⟩) hS ?_
    simp only [Act.put, List.setIfInBounds_toArray, List.set_cons_zero, List.set_cons_succ]
    refine take_at (i := 7) 29 (v := .pointer (some ⟨Q, 0, none⟩)) rfl rfl (by kernel_rfl) (by kernel_rfl) (by kernel_rfl) (fun _ _ _ h => h) (Or.inl ⟨by rfl, fun w' hw' => by go_simp⟩) hS ?_
    simp only [Act.put, List.setIfInBounds_toArray, List.set_cons_zero, List.set_cons_succ]
    refine take_at (i := 8) 30 (v := .agg #[.int .i64 (m 0), .int .i64 (m 1), .int .i64 (m 2), .int .i64 (m 3), .int .i64 (m 4), .int .i64 (m 5), .int .i64 (m 6), .int .i64 (m 7)]) rfl rfl (by kernel_rfl) (by kernel_rfl) (by kernel_rfl) (fun _ _ _ h => h) (Or.inl ⟨by rfl, fun w' hw' => by obtain ⟨x0, x1, x2, x3, x4, x5, x6, x7, x8⟩ := cel9 (GQ.out.off hw' (fun h => h)); go_simp⟩) hS ?_
    simp only [Act.put, List.setIfInBounds_toArray, List.set_cons_zero, List.set_cons_succ]
    refine take_at (i := 9) 31 (v := .pointer (some ⟨q0, 0, none⟩)) rfl rfl (by kernel_rfl) (by kernel_rfl) (by kernel_rfl) (fun _ _ _ h => h) (Or.inl ⟨by rfl, fun w' hw' => by go_simp⟩) hS ?_
    simp only [Act.put, List.setIfInBounds_toArray, List.set_cons_zero, List.set_cons_succ]
    refine take_at (i := 10) 32 (v := .agg #[.int .i64 (f 0), .int .i64 (f 1), .int .i64 (f 2), .int .i64 (f 3), .int .i64 (f 4), .int .i64 (f 5), .int .i64 (f 6), .int .i64 (f 7)]) rfl rfl (by kernel_rfl) (by kernel_rfl) (by kernel_rfl) (fun _ _ _ h => h) (Or.inl ⟨by rfl, fun w' hw' => by obtain ⟨x0, x1, x2, x3, x4, x5, x6, x7, x8⟩ := cel9 (G0.out.off hw' (fun h => h)); go_simp⟩) hS ?_
    simp only [Act.put, List.setIfInBounds_toArray, List.set_cons_zero, List.set_cons_succ]
    refine take_at (i := 11) 33 (v := .bool (eqB m f)) rfl rfl (by kernel_rfl) (by kernel_rfl) (by kernel_rfl) (fun _ _ _ h => h) (Or.inl ⟨by rfl, fun w' hw' => by have e := eql_vec m f; go_simp⟩) hS ?_
    simp only [Act.put, List.setIfInBounds_toArray, List.set_cons_zero, List.set_cons_succ]
    have ra := HRS.out.off hS
    have rb := HRS.out.off hS
    refine wpAnyH_ready (rs := [6]) (by kernel_rfl) (by simp) ?_
    refine AllReadyH.cons rfl (fun K' hK' => ?_) AllReadyH.nil
    go_simp
    refine (sleq_any m f a a c c l l _ ra rb).mono ?_
    rw [HL2.out]
    rintro e v6 ⟨rfl, o6⟩
    have hS1 := hS.trans o6 (fun _ _ h => h)
    refine hK'.out _ _ hS1 (fun hS => ?_)
    clear hK' K' hS1
    clear o6 ra rb
    refine take_at (i := 12) 34 (v := .bool true) rfl rfl (by kernel_rfl) (by kernel_rfl) (by kernel_rfl) (fun _ _ _ h => h) (Or.inl ⟨by rfl, fun w' hw' => by go_simp⟩) hS ?_
    simp only [Act.put, List.setIfInBounds_toArray, List.set_cons_zero, List.set_cons_succ]
    refine take_at (i := 13) 35 (v := .bool true) rfl rfl (by kernel_rfl) (by kernel_rfl) (by kernel_rfl) (fun _ _ _ h => h) (Or.inl ⟨by rfl, fun w' hw' => by go_simp⟩) hS ?_
    simp only [Act.put, List.setIfInBounds_toArray, List.set_cons_zero, List.set_cons_succ]
    refine take_at (i := 14) 36 (v := .bool true) rfl rfl (by kernel_rfl) (by kernel_rfl) (by kernel_rfl) (fun _ _ _ h => h) (Or.inl ⟨by rfl, fun w' hw' => by go_simp⟩) hS ?_
    simp only [Act.put, List.setIfInBounds_toArray, List.set_cons_zero, List.set_cons_succ]
    refine take_at (i := 15) 37 (v := .agg #[.int .i64 0, .int .i64 0, .int .i64 0, .int .i64 0, .int .i64 0, .int .i64 0, .int .i64 0, .int .i64 0, .slice none 0 0]) rfl rfl (by kernel_rfl) (by kernel_rfl) (by kernel_rfl) (fun _ _ _ h => h) (Or.inl ⟨by rfl, fun w' hw' => by go_simp⟩) hS ?_
    simp only [Act.put, List.setIfInBounds_toArray, List.set_cons_zero, List.set_cons_succ]
    refine take_at (i := 16) 38 (v := .agg #[.int .i64 (f 0), .int .i64 (f 1), .int .i64 (f 2), .int .i64 (f 3), .int .i64 (f 4), .int .i64 (f 5), .int .i64 (f 6), .int .i64 (f 7), .slice a l.length c]) rfl rfl (by kernel_rfl) (by kernel_rfl) (by kernel_rfl) (fun _ _ _ h => h) (Or.inl ⟨by rfl, fun w' hw' => by obtain ⟨x0, x1, x2, x3, x4, x5, x6, x7, x8⟩ := cel9 (G0.out.off hw' (fun h => h)); go_simp⟩) hS ?_
    simp only [Act.put, List.setIfInBounds_toArray, List.set_cons_zero, List.set_cons_succ]
    have rb := HRS.out.off hS
    refine wpAnyH_ready (rs := [17]) (by kernel_rfl) (by simp) ?_
    refine AllReadyH.cons rfl (fun K' hK' => ?_) AllReadyH.nil
    go_simp
    refine (leq_zero f a c l _ rb).mono ?_
    rw [HL3.out]
    rintro e v17 ⟨rfl, o17⟩
    have hS1 := hS.trans o17 (fun _ _ h => h)
    refine hK'.out _ _ hS1 (fun hS => ?_)
    clear hK' K' hS1
    clear o17 rb
    refine take_at (i := 18) 40 (v := .bool true) rfl rfl (by kernel_rfl) (by kernel_rfl) (by kernel_rfl) (fun _ _ _ h => h) (Or.inl ⟨by rfl, fun w' hw' => by go_simp⟩) hS ?_
    simp only [Act.put, List.setIfInBounds_toArray, List.set_cons_zero, List.set_cons_succ]
    refine take_at (i := 19) 41 (v := .bool true) rfl rfl (by kernel_rfl) (by kernel_rfl) (by kernel_rfl) (fun _ _ _ h => h) (Or.inl ⟨by rfl, fun w' hw' => by go_simp⟩) hS ?_
    simp only [Act.put, List.setIfInBounds_toArray, List.set_cons_zero, List.set_cons_succ]
    refine take_at (i := 20) 42 (v := .agg #[.int .i64 (f 0), .int .i64 (f 1), .int .i64 (f 2), .int .i64 (f 3), .int .i64 (f 4), .int .i64 (f 5), .int .i64 (f 6), .int .i64 (f 7), .slice a l.length c]) rfl rfl (by kernel_rfl) (by kernel_rfl) (by kernel_rfl) (fun _ _ _ h => h) (Or.inl ⟨by rfl, fun w' hw' => by obtain ⟨x0, x1, x2, x3, x4, x5, x6, x7, x8⟩ := cel9 (G0.out.off hw' (fun h => h)); go_simp⟩) hS ?_
    simp only [Act.put, List.setIfInBounds_toArray, List.set_cons_zero, List.set_cons_succ]
    refine take_at (i := 22) 44 (v := .agg #[.int .i64 (f 0), .int .i64 (f 1), .int .i64 (f 2), .int .i64 (f 3), .int .i64 (f 4), .int .i64 (f 5), .int .i64 (f 6), .int .i64 (f 7), .slice a l.length c]) rfl rfl (by kernel_rfl) (by kernel_rfl) (by kernel_rfl) (fun _ _ _ h => h) (Or.inl ⟨by rfl, fun w' hw' => by obtain ⟨x0, x1, x2, x3, x4, x5, x6, x7, x8⟩ := cel9 (G0.out.off hw' (fun h => h)); go_simp⟩) hS ?_
    simp only [Act.put, List.setIfInBounds_toArray, List.set_cons_zero, List.set_cons_succ]
    refine take_at (i := 24) 46 (v := .agg #[.int .i64 (m 0), .int .i64 (m 1), .int .i64 (m 2), .int .i64 (m 3), .int .i64 (m 4), .int .i64 (m 5), .int .i64 (m 6), .int .i64 (m 7), .slice a l.length c]) rfl rfl (by kernel_rfl) (by kernel_rfl) (by kernel_rfl) (fun _ _ _ h => h) (Or.inl ⟨by rfl, fun w' hw' => by obtain ⟨x0, x1, x2, x3, x4, x5, x6, x7, x8⟩ := cel9 (GQ.out.off hw' (fun h => h)); go_simp⟩) hS ?_
    simp only [Act.put, List.setIfInBounds_toArray, List.set_cons_zero, List.set_cons_succ]
    have ra := HRS.out.off hS
    refine wpAnyH_ready (rs := [21]) (by kernel_rfl) (by simp) ?_
    refine AllReadyH.cons rfl (fun K' hK' => ?_) AllReadyH.nil
    go_simp
    refine (sreap_any f a c l _ ra).mono ?_
    rintro e v21 ⟨rf, ar, cr, lr, rfl, hv21, hl21, md21, o21⟩
    have hS1 := hS.trans o21 (fun _ _ h => h)
    refine hK'.out _ _ hS1 (fun hS => ?_)
    clear hK' K' hS1
    have HVrf : Hid _ := hv21
    have HLrf : Hid _ := hl21
    have HMrf : Hid _ := md21.row
    clear hv21 hl21 md21 ra
    have HRR1 : Hid _ := HMrf.out
    have q1 := o21
    clear o21
    have ra := HRS.out.off hS
    refine wpAnyH_ready (rs := [23]) (by kernel_rfl) (by simp) ?_
    refine AllReadyH.cons rfl (fun K' hK' => ?_) AllReadyH.nil
    go_simp
    refine (sreap_any f a c l _ ra).mono ?_
    rintro e v23 ⟨rg, ag, cg, lg, rfl, hv23, hl23, md23, o23⟩
    have hS1 := hS.trans o23 (fun _ _ h => h)
    refine hK'.out _ _ hS1 (fun hS => ?_)
    clear hK' K' hS1
    have HVrg : Hid _ := hv23
    have HLrg : Hid _ := hl23
    have HMrg : Hid _ := md23.row
    clear hv23 hl23 md23 ra
    have HRR2 : Hid _ := HRR1.out.off o23
    clear o23
    have rb := HRS.out.off hS
    refine wpAnyH_ready (rs := [25]) (by kernel_rfl) (by simp) ?_
    refine AllReadyH.cons rfl (fun K' hK' => ?_) AllReadyH.nil
    go_simp
    refine (sjoin_any rg m ag a cg c lg l _ HMrg.out rb).mono ?_
    rintro e v25 ⟨j, aj, cj, lj, rfl, hvj, hlj, mdj, o25⟩
    have hS1 := hS.trans o25 (fun _ _ h => h)
    refine hK'.out _ _ hS1 (fun hS => ?_)
    clear hK' K' hS1
    have HRR : Hid _ := HRR2.out.off o25
    have HRJ : Hid _ := mdj.row
    have HJV : Hid _ := hvj
    have HJL : Hid _ := hlj
    clear hvj hlj mdj rb o25
    have ra := HRR.out
    have rb := HRJ.out
    refine wpAnyH_ready (rs := [26]) (by kernel_rfl) (by simp) ?_
    refine AllReadyH.cons rfl (fun K' hK' => ?_) AllReadyH.nil
    go_simp
    refine (sleq_any rf j ar aj cr cj lr lj _ ra rb).mono ?_
    rw [HL4 rf j lr lj HVrf.out HLrf.out (by rw [HJV.out, HVrg.out, HLrg.out]) (by rw [HJL.out, HVrg.out, HLrg.out])]
    rintro e v26 ⟨rfl, o26⟩
    have hS1 := hS.trans o26 (fun _ _ h => h)
    refine hK'.out _ _ hS1 (fun hS => ?_)
    clear hK' K' hS1
    clear o26 ra rb
    refine take_at (i := 27) 49 (v := .bool true) rfl rfl (by kernel_rfl) (by kernel_rfl) (by kernel_rfl) (fun _ _ _ h => h) (Or.inl ⟨by rfl, fun w' hw' => by go_simp⟩) hS ?_
    simp only [Act.put, List.setIfInBounds_toArray, List.set_cons_zero, List.set_cons_succ]
    refine take_at (i := 28) 50 (v := .bool true) rfl rfl (by kernel_rfl) (by kernel_rfl) (by kernel_rfl) (fun _ _ _ h => h) (Or.inl ⟨by rfl, fun w' hw' => by go_simp⟩) hS ?_
    simp only [Act.put, List.setIfInBounds_toArray, List.set_cons_zero, List.set_cons_succ]
    refine wpAnyH_ready (rs := [29]) (by kernel_rfl) (by simp) ?_
    refine AllReadyH.cons rfl (fun K' hK' => ?_) AllReadyH.nil
    go_simp
    refine (awake_any _).mono ?_
    rintro e v29 ⟨rfl, o29⟩
    have hS1 := hS.trans o29 (fun _ _ h => h)
    refine hK'.out _ _ hS1 (fun hS => ?_)
    clear hK' K' hS1
    clear o29
    refine take_at (i := 30) 52 (v := .bool true) rfl rfl (by kernel_rfl) (by kernel_rfl) (by kernel_rfl) (fun _ _ _ h => h) (Or.inl ⟨by rfl, fun w' hw' => by go_simp⟩) hS ?_
    simp only [Act.put, List.setIfInBounds_toArray, List.set_cons_zero, List.set_cons_succ]
    refine take_at (i := 31) 4 (v := .bool true) rfl rfl (by kernel_rfl) (by kernel_rfl) (by kernel_rfl) (fun _ _ _ h => h) (Or.inl ⟨by rfl, fun w' hw' => by go_simp⟩) hS ?_
    simp only [Act.put, List.setIfInBounds_toArray, List.set_cons_zero, List.set_cons_succ]
    refine wpAnyH_done (by kernel_rfl) ?_ _
    go_wp2_with fail
    go_ret
    exact ⟨rfl, HOV.out.trans hS (fun _ _ h => h)⟩
end Go.Proofs.Ytfkpnmmcdhibbab
