/- Items of several texts. -/
import Derived.Test.YtmjmgdbhmbjmaabASib
namespace Go.Proofs.Ytmjmgdbhmbjmaab
open Go.RowKit
theorem min_any (n m : Nat) (h : m = min n 16) (ts : Array TypeId) (t : TypeId) (W : World) : (Builtin.min_ ts t #[.int .i64 (n : Int), .int .i64 16]).run Try.prog W = .ok (.int .i64 (m : Int)) W := by
 rw [run_min_int2]
 congr 2
 split <;> omega
set_option maxRecDepth 100000 in
set_option maxHeartbeats 1000000 in
theorem sjoin_any (f g : Nat → Int) (a b : Option Addr) (ca cb : Nat) (l1 l2 : List V) (w : World) (h1 : Row w a ca l1) (h2 : Row w b cb l2) :
  Calls Try.prog 31 #[.agg #[.int .i64 (f 0), .int .i64 (f 1), .int .i64 (f 2), .int .i64 (f 3), .int .i64 (f 4), .int .i64 (f 5), .int .i64 (f 6), .int .i64 (f 7), .slice a l1.length ca], .agg #[.int .i64 (g 0), .int .i64 (g 1), .int .i64 (g 2), .int .i64 (g 3), .int .i64 (g 4), .int .i64 (g 5), .int .i64 (g 6), .int .i64 (g 7), .slice b l2.length cb]] w fun e w' => ∃ (h : Nat → Int) (a' : Option Addr) (c' : Nat) (l : List V), e = .returned (.agg #[.int .i64 (h 0), .int .i64 (h 1), .int .i64 (h 2), .int .i64 (h 3), .int .i64 (h 4), .int .i64 (h 5), .int .i64 (h 6), .int .i64 (h 7), .slice a' l.length c']) ∧ h = joinV f g (cont l1) (cont l2) ∧ cont l = joinL f g (cont l1) (cont l2) ∧ Made w.heap.size w' a' c' l ∧ Off (fun _ => False) w w' := by
 have hnot := not_any
 obtain ⟨W, hW⟩ : ∃ W, W = (((w.alloc (.cells #[.int .i64 (f 0), .int .i64 (f 1), .int .i64 (f 2), .int .i64 (f 3), .int .i64 (f 4), .int .i64 (f 5), .int .i64 (f 6), .int .i64 (f 7), .slice a l1.length ca] 30)).alloc (.cells #[.int .i64 (g 0), .int .i64 (g 1), .int .i64 (g 2), .int .i64 (g 3), .int .i64 (g 4), .int .i64 (g 5), .int .i64 (g 6), .int .i64 (g 7), .slice b l2.length cb] 30)).alloc (.cells #[.int .i64 (zer 0), .int .i64 (zer 1), .int .i64 (zer 2), .int .i64 (zer 3), .int .i64 (zer 4), .int .i64 (zer 5), .int .i64 (zer 6), .int .i64 (zer 7), .slice none 0 0] 30)) := ⟨_, rfl⟩
 have O : Off (fun _ => False) w W := by rw [hW]; exact (((Off.refl _ w).alloc _).alloc _).alloc _
 have C0 : Cel w.heap.size 30 #[.int .i64 (f 0), .int .i64 (f 1), .int .i64 (f 2), .int .i64 (f 3), .int .i64 (f 4), .int .i64 (f 5), .int .i64 (f 6), .int .i64 (f 7), .slice a l1.length ca] W := by rw [hW]; exact ((Cel.new w _ _).alloc _).alloc _
 have C1 : Cel (w.heap.size + 1) 30 #[.int .i64 (g 0), .int .i64 (g 1), .int .i64 (g 2), .int .i64 (g 3), .int .i64 (g 4), .int .i64 (g 5), .int .i64 (g 6), .int .i64 (g 7), .slice b l2.length cb] W := by rw [hW]; exact (Cel.new1 w _ _ _).alloc _
 have C2 : Cel (w.heap.size + 2) 30 #[.int .i64 (zer 0), .int .i64 (zer 1), .int .i64 (zer 2), .int .i64 (zer 3), .int .i64 (zer 4), .int .i64 (zer 5), .int .i64 (zer 6), .int .i64 (zer 7), .slice none 0 0] W := by rw [hW]; exact Cel.new2 w _ _ _ _
 have HW : Hid ((((w.alloc (.cells #[.int .i64 (f 0), .int .i64 (f 1), .int .i64 (f 2), .int .i64 (f 3), .int .i64 (f 4), .int .i64 (f 5), .int .i64 (f 6), .int .i64 (f 7), .slice a l1.length ca] 30)).alloc (.cells #[.int .i64 (g 0), .int .i64 (g 1), .int .i64 (g 2), .int .i64 (g 3), .int .i64 (g 4), .int .i64 (g 5), .int .i64 (g 6), .int .i64 (g 7), .slice b l2.length cb] 30)).alloc (.cells #[.int .i64 0, .int .i64 0, .int .i64 0, .int .i64 0, .int .i64 0, .int .i64 0, .int .i64 0, .int .i64 0, .slice none 0 0] 30)) = W) := hW.symm
 have R1 := h1.off O
 have R2 := h2.off O
 obtain ⟨x0, x1, x2, x3, x4, x5, x6, x7, x8⟩ := cel9 C0
 have HC0 : Hid _ := C0
 have HC1 : Hid _ := C1
 have HC2 : Hid _ := C2
 have HO : Hid _ := O
 have HR1 : Hid _ := R1
 have HR2 : Hid _ := R2
 clear hW C0 C1 C2 O R1 R2
 cases m1 : mayS f (cont l1)
 ·have hj : joinV f g (cont l1) (cont l2) = zer ∧ joinL f g (cont l1) (cont l2) = [] := by simp [joinV, joinL, m1]
  go_enter Try.func31, Try.ntmps31
  go_wp2_with fail
  rw [HW.out]
  refine (smay_any f a ca l1 W HR1.out).mono ?_
  rw [m1]
  rintro e w1 ⟨rfl, o1⟩
  have D2 := HC2.out.off o1 (fun h => h)
  clear x0 x1 x2 x3 x4 x5 x6 x7 x8
  obtain ⟨x0, x1, x2, x3, x4, x5, x6, x7, x8⟩ := cel9 D2
  have fz := D2.free
  rw [show w.heap.size + 1 + 1 = w.heap.size + 2 from rfl]
  generalize hq2 : w.heap.size + 2 = q2 at D2 x0 x1 x2 x3 x4 x5 x6 x7 x8 fz ⊢
  have hq : w.heap.size ≤ q2 := by omega
  clear hq2
  go_wp2_with fail
  have E2 := D2.clr9
  have OE := (HO.out.trans o1 (fun _ _ h => h)).clr9 (b := q2) (.inr (by omega))
  refine bodyPost_ret (results_none9 rfl rfl E2) rfl ?_
  exact ⟨zer, none, 0, [], rfl, hj.1.symm, by rw [hj.2]; rfl, Made.nil _ _, OE⟩
 cases m2 : mayS g (cont l2)
 ·have hj : joinV f g (cont l1) (cont l2) = zer ∧ joinL f g (cont l1) (cont l2) = [] := by simp [joinV, joinL, m2]
  go_enter Try.func31, Try.ntmps31
  go_wp2_with fail
  rw [HW.out]
  refine (smay_any f a ca l1 W HR1.out).mono ?_
  rw [m1]
  rintro e w1 ⟨rfl, o1⟩
  have D1 := HC1.out.off o1 (fun h => h)
  clear x0 x1 x2 x3 x4 x5 x6 x7 x8
  obtain ⟨x0, x1, x2, x3, x4, x5, x6, x7, x8⟩ := cel9 D1
  have r2 := HR2.out.off o1
  go_wp2_with fail
  refine (smay_any g b cb l2 w1 r2).mono ?_
  rw [m2]
  rintro e w2 ⟨rfl, o2⟩
  have O2 := o1.trans o2 (fun _ _ h => h)
  have D2 := HC2.out.off O2 (fun h => h)
  clear x0 x1 x2 x3 x4 x5 x6 x7 x8 D1
  obtain ⟨x0, x1, x2, x3, x4, x5, x6, x7, x8⟩ := cel9 D2
  have fz := D2.free
  rw [show w.heap.size + 1 + 1 = w.heap.size + 2 from rfl]
  generalize hq2 : w.heap.size + 2 = q2 at D2 x0 x1 x2 x3 x4 x5 x6 x7 x8 fz ⊢
  have hq : w.heap.size ≤ q2 := by omega
  clear hq2
  go_wp2_with fail
  have E2 := D2.clr9
  have OE := (HO.out.trans O2 (fun _ _ h => h)).clr9 (b := q2) (.inr (by omega))
  refine bodyPost_ret (results_none9 rfl rfl E2) rfl ?_
  exact ⟨zer, none, 0, [], rfl, hj.1.symm, by rw [hj.2]; rfl, Made.nil _ _, OE⟩
 have hj : joinV f g (cont l1) (cont l2) = maxV f g ∧ joinL f g (cont l1) (cont l2) = (mergeA (nc g) (nc f) (cont l1) (cont l2)).take 16 := by simp [joinV, joinL, m1, m2]
 have n1 : l1.length ≤ 16 := by have := (may_iff.1 m1).few; rwa [cont_len] at this
 have n2 : l2.length ≤ 16 := by have := (may_iff.1 m2).few; rwa [cont_len] at this
 have HJ : Hid _ := hj
 clear hj
 go_enter Try.func31, Try.ntmps31
 go_wp2_with fail
 rw [HW.out]
 refine (smay_any f a ca l1 W HR1.out).mono ?_
 rw [m1]
 rintro e w1 ⟨rfl, o1⟩
 have D1 := HC1.out.off o1 (fun h => h)
 clear x0 x1 x2 x3 x4 x5 x6 x7 x8
 obtain ⟨x0, x1, x2, x3, x4, x5, x6, x7, x8⟩ := cel9 D1
 have r2 := HR2.out.off o1
 go_wp2_with fail
 refine (smay_any g b cb l2 w1 r2).mono ?_
 rw [m2]
 rintro e w2 ⟨rfl, o2⟩
 have O2 := o1.trans o2 (fun _ _ h => h)
 have OW2 := HO.out.trans O2 (fun _ _ h => h)
 have H0 : Hid _ := HC0.out.off O2 (fun h => h)
 have H1 : Hid _ := HC1.out.off O2 (fun h => h)
 have H2 : Hid _ := HC2.out.off O2 (fun h => h)
 have HHR1 : Hid _ := HR1.out.off O2
 have HHR2 : Hid _ := HR2.out.off O2
 clear HR1 HR2
 have HR1 : Hid _ := HHR1.out
 have HR2 : Hid _ := HHR2.out
 have sW : w.heap.size ≤ w2.heap.size := OW2.size
 have HOW2 : Hid _ := OW2
 clear x0 x1 x2 x3 x4 x5 x6 x7 x8 D1 O2 o1 o2 r2 HC0 HC1 HC2 HHR1 HHR2 HO HW h1 h2 OW2
 go_wp2_with fail
 generalize hq2 : w.heap.size + 1 + 1 = q2 at ⊢
 have HQ2 : Hid (w.heap.size ≤ q2) := by show w.heap.size ≤ q2; omega
 rw [show w.heap.size + 2 = q2 by omega] at H2
 generalize hq1 : w.heap.size + 1 = q1 at H1 ⊢
 generalize hq0 : w.heap.size = q0 at H0 ⊢
 have HN0 : Hid (¬ q0 = q2) := by show ¬ q0 = q2; omega
 have HN1 : Hid (¬ q1 = q2) := by show ¬ q1 = q2; omega
 clear hq0 hq1 hq2
 refine wp_region_held_drew (S := fun w' => Off (fun _ => False) w2 w') (by kernel_rfl) ((Off.refl _ w2).drew) (fun hS => ?_)
 refine take_at (i := 0) 15 (v := .pointer (some ⟨q0, 8, none⟩)) rfl rfl (by kernel_rfl) (by kernel_rfl) (by kernel_rfl) (fun _ _ _ h => h) (Or.inl ⟨by rfl, fun w' hw' => by go_simp⟩) hS ?_
 simp only [Act.put, lsA, lsZ, lsS]
 refine take_at (i := 1) 16 (v := .slice a l1.length ca) rfl rfl (by kernel_rfl) (by kernel_rfl) (by kernel_rfl) (fun _ _ _ h => h) (Or.inl ⟨by rfl, fun w' hw' => by obtain ⟨x0, x1, x2, x3, x4, x5, x6, x7, x8⟩ := cel9 (H0.out.off hw' (fun h => h)); go_simp⟩) hS ?_
 simp only [Act.put, lsA, lsZ, lsS]
 refine take_at (i := 2) 17 (v := .pointer (some ⟨q1, 8, none⟩)) rfl rfl (by kernel_rfl) (by kernel_rfl) (by kernel_rfl) (fun _ _ _ h => h) (Or.inl ⟨by rfl, fun w' hw' => by go_simp⟩) hS ?_
 simp only [Act.put, lsA, lsZ, lsS]
 refine take_at (i := 3) 18 (v := .slice b l2.length cb) rfl rfl (by kernel_rfl) (by kernel_rfl) (by kernel_rfl) (fun _ _ _ h => h) (Or.inl ⟨by rfl, fun w' hw' => by obtain ⟨x0, x1, x2, x3, x4, x5, x6, x7, x8⟩ := cel9 (H1.out.off hw' (fun h => h)); go_simp⟩) hS ?_
 simp only [Act.put, lsA, lsZ, lsS]
 refine take_at (i := 4) 19 (v := .pointer (some ⟨q1, 0, none⟩)) rfl rfl (by kernel_rfl) (by kernel_rfl) (by kernel_rfl) (fun _ _ _ h => h) (Or.inl ⟨by rfl, fun w' hw' => by go_simp⟩) hS ?_
 simp only [Act.put, lsA, lsZ, lsS]
 refine take_at (i := 5) 20 (v := .agg #[.int .i64 (g 0), .int .i64 (g 1), .int .i64 (g 2), .int .i64 (g 3), .int .i64 (g 4), .int .i64 (g 5), .int .i64 (g 6), .int .i64 (g 7)]) rfl rfl (by kernel_rfl) (by kernel_rfl) (by kernel_rfl) (fun _ _ _ h => h) (Or.inl ⟨by rfl, fun w' hw' => by obtain ⟨x0, x1, x2, x3, x4, x5, x6, x7, x8⟩ := cel9 (H1.out.off hw' (fun h => h)); go_simp⟩) hS ?_
 simp only [Act.put, lsA, lsZ, lsS]
 refine take_at (i := 7) 22 (v := .pointer (some ⟨q0, 0, none⟩)) rfl rfl (by kernel_rfl) (by kernel_rfl) (by kernel_rfl) (fun _ _ _ h => h) (Or.inl ⟨by rfl, fun w' hw' => by go_simp⟩) hS ?_
 simp only [Act.put, lsA, lsZ, lsS]
 refine take_at (i := 8) 23 (v := .agg #[.int .i64 (f 0), .int .i64 (f 1), .int .i64 (f 2), .int .i64 (f 3), .int .i64 (f 4), .int .i64 (f 5), .int .i64 (f 6), .int .i64 (f 7)]) rfl rfl (by kernel_rfl) (by kernel_rfl) (by kernel_rfl) (fun _ _ _ h => h) (Or.inl ⟨by rfl, fun w' hw' => by obtain ⟨x0, x1, x2, x3, x4, x5, x6, x7, x8⟩ := cel9 (H0.out.off hw' (fun h => h)); go_simp⟩) hS ?_
 simp only [Act.put, lsA, lsZ, lsS]
 refine wpAnyH_ready (rs := [6]) (by kernel_rfl) (by simp) ?_
 refine AllReadyH.cons rfl (fun K' hK' => ?_) AllReadyH.nil
 go_simp
 refine (newTo_any g _).mono ?_
 rintro e v1 ⟨rfl, CA, o1⟩
 have hS1 := hS.trans o1 (fun _ _ h => h)
 refine hK'.out _ _ hS1 (fun hS => ?_)
 clear hK' K' hS1
 generalize w2.drew.heap.size = pA at CA ⊢
 refine wpAnyH_ready (rs := [9]) (by kernel_rfl) (by simp) ?_
 refine AllReadyH.cons rfl (fun K' hK' => ?_) AllReadyH.nil
 go_simp
 refine (newTo_any f _).mono ?_
 rintro e v2 ⟨rfl, CB, o2⟩
 have hS2 := hS.trans o2 (fun _ _ h => h)
 refine hK'.out _ _ hS2 (fun hS => ?_)
 clear hK' K' hS2
 replace CA := CA.off o2 (fun h => h)
 generalize v1.heap.size = pB at CB ⊢
 have hr1 := HR1.out.off hS
 have hr2 := HR2.out.off hS
 have sN := hS.size
 clear o1 o2
 refine wpAnyH_ready (rs := [10]) (by kernel_rfl) (by simp) ?_
 refine AllReadyH.cons rfl (fun K' hK' => ?_) AllReadyH.nil
 go_simp
 refine (merge_any g f pA pB a b ca cb l1 l2 _ hr1 hr2 CA CB (by omega)).mono ?_
 rintro e v3 ⟨a3, c3, l, rfl, own3, hv3, ha3, hl3, o3⟩
 have hS3 := hS.trans o3 (fun _ _ h => h)
 refine hK'.out _ _ hS3 (fun hS => ?_)
 clear hK' K' hS3
 have md := own3.made hv3 ha3
 have HMD : Hid _ := md
 have HQV : Hid (q2 < v2.heap.size ∧ w.heap.size ≤ v2.heap.size) := ⟨Nat.lt_of_lt_of_le H2.out.lt sN, Nat.le_trans sW sN⟩
 have HL3 : Hid _ := hl3
 have HS3 : Hid _ := hS
 clear own3 hv3 ha3 hl3 o3 hr1 hr2 CA CB md
 refine take_at (i := 11) 5 (v := .slice a3 l.length c3) rfl rfl (by kernel_rfl) (by kernel_rfl) (by kernel_rfl) (fun _ _ _ h => h) (Or.inl ⟨by rfl, fun w' hw' => by go_simp⟩) hS ?_
 simp only [Act.put, lsA, lsZ, lsS]
 refine wpAnyH_done (by kernel_rfl) ?_ _
 have G0 : Hid _ := H0.out.off HS3.out (fun h => h)
 have G1 : Hid _ := H1.out.off HS3.out (fun h => h)
 have HG2 : Hid _ := H2.out.off HS3.out (fun h => h)
 have OW3 := HOW2.out.trans HS3.out (fun _ _ h => h)
 obtain ⟨m, hm⟩ : ∃ m, m = min l.length 16 := ⟨_, rfl⟩
 have hmin := min_any l.length m hm
 obtain ⟨ht, hrt⟩ := HMD.out.take m (by omega)
 obtain ⟨lt, hlt⟩ : ∃ lt, lt = l.take m := ⟨_, rfl⟩
 rw [← hlt] at ht hrt
 have HLT : Hid _ := hlt
 clear hlt
 have HMM : Hid _ := hm
 have HRT : Hid _ := hrt
 have HOW3 : Hid _ := OW3
 clear hm hrt H0 H1 H2 HOW2 HS3 OW3 hS HR1 HR2 HMD
 go_wp2_with fail
 refine wp_region_held_drew (S := fun w' => Off (fun c => c = q2) v3 w') (by kernel_rfl) ((Off.refl _ v3).drew) (fun hS => ?_)
 refine take_at (i := 0) 26 (v := .pointer (some ⟨q0, 0, none⟩)) rfl rfl (by kernel_rfl) (by kernel_rfl) (by kernel_rfl) (fun _ _ _ h => h) (Or.inl ⟨by rfl, fun w' hw' => by go_simp⟩) hS ?_
 simp only [Act.put, lsA, lsZ, lsS]
 refine take_at (i := 1) 27 (v := .agg #[.int .i64 (f 0), .int .i64 (f 1), .int .i64 (f 2), .int .i64 (f 3), .int .i64 (f 4), .int .i64 (f 5), .int .i64 (f 6), .int .i64 (f 7)]) rfl rfl (by kernel_rfl) (by kernel_rfl) (by kernel_rfl) (fun _ _ _ h => h) (Or.inl ⟨by rfl, fun w' hw' => by obtain ⟨x0, x1, x2, x3, x4, x5, x6, x7, x8⟩ := cel9 (G0.out.off hw' HN0.out); go_simp⟩) hS ?_
 simp only [Act.put, lsA, lsZ, lsS]
 refine take_at (i := 2) 28 (v := .pointer (some ⟨q1, 0, none⟩)) rfl rfl (by kernel_rfl) (by kernel_rfl) (by kernel_rfl) (fun _ _ _ h => h) (Or.inl ⟨by rfl, fun w' hw' => by go_simp⟩) hS ?_
 simp only [Act.put, lsA, lsZ, lsS]
 refine take_at (i := 3) 29 (v := .agg #[.int .i64 (g 0), .int .i64 (g 1), .int .i64 (g 2), .int .i64 (g 3), .int .i64 (g 4), .int .i64 (g 5), .int .i64 (g 6), .int .i64 (g 7)]) rfl rfl (by kernel_rfl) (by kernel_rfl) (by kernel_rfl) (fun _ _ _ h => h) (Or.inl ⟨by rfl, fun w' hw' => by obtain ⟨x0, x1, x2, x3, x4, x5, x6, x7, x8⟩ := cel9 (G1.out.off hw' HN1.out); go_simp⟩) hS ?_
 simp only [Act.put, lsA, lsZ, lsS]
 refine take_at (i := 5) 31 (v := .slice a3 l.length c3) rfl rfl (by kernel_rfl) (by kernel_rfl) (by kernel_rfl) (fun _ _ _ h => h) (Or.inl ⟨by rfl, fun w' hw' => by go_simp⟩) hS ?_
 simp only [Act.put, lsA, lsZ, lsS]
 refine take_at (i := 6) 32 (v := .slice a3 l.length c3) rfl rfl (by kernel_rfl) (by kernel_rfl) (by kernel_rfl) (fun _ _ _ h => h) (Or.inl ⟨by rfl, fun w' hw' => by go_simp⟩) hS ?_
 simp only [Act.put, lsA, lsZ, lsS]
 refine take_at (i := 7) 33 (v := .int .i64 (l.length : Int)) rfl rfl (by kernel_rfl) (by kernel_rfl) (by kernel_rfl) (fun _ _ _ h => h) (Or.inl ⟨by rfl, fun w' hw' => by go_simp⟩) hS ?_
 simp only [Act.put, lsA, lsZ, lsS]
 refine take_at (i := 8) 34 (v := .int .i64 (m : Int)) rfl rfl (by kernel_rfl) (by kernel_rfl) (by kernel_rfl) (fun _ _ _ h => h) (Or.inl ⟨by rfl, fun w' hw' => by go_simp⟩) hS ?_
 simp only [Act.put, lsA, lsZ, lsS]
 refine take_at (i := 9) 35 (v := .slice a3 lt.length c3) rfl rfl (by kernel_rfl) (by kernel_rfl) (by kernel_rfl) (fun _ _ _ h => h) (Or.inl ⟨by rfl, fun w' hw' => by go_simp⟩) hS ?_
 simp only [Act.put, lsA, lsZ, lsS]
 refine wpAnyH_ready (rs := [4]) (by kernel_rfl) (by simp) ?_
 refine AllReadyH.cons rfl (fun K' hK' => ?_) AllReadyH.nil
 go_simp
 refine (join_any f g _).mono ?_
 rintro e v4 ⟨h, rfl, hh, o4⟩
 have hS4 := hS.trans o4 (fun _ _ h => h.elim)
 refine hK'.out _ _ hS4 (fun hS => ?_)
 clear hK' K' hS4
 have G2 := HG2.out.off ((Off.refl (fun _ => False) v3).drew.trans o4 (fun _ _ h => h)) (fun h => h)
 have O4 := (Off.refl (fun _ => False) v3).drew.trans o4 (fun _ _ h => h)
 obtain ⟨x0, x1, x2, x3, x4, x5, x6, x7, x8⟩ := cel9 G2
 have fz := G2.free
 have HHH : Hid _ := hh
 clear hh
 refine take_at (i := 10) 36 (v := .agg #[.int .i64 (h 0), .int .i64 (h 1), .int .i64 (h 2), .int .i64 (h 3), .int .i64 (h 4), .int .i64 (h 5), .int .i64 (h 6), .int .i64 (h 7), .slice a3 lt.length c3]) rfl rfl (by kernel_rfl) (by kernel_rfl) (by kernel_rfl) (fun _ _ _ h => h) (Or.inl ⟨by rfl, fun w' hw' => by go_simp⟩) hS ?_
 simp only [Act.put, lsA, lsZ, lsS]
 refine wpAnyH_ready (rs := [11]) (by kernel_rfl) (by simp) ?_
 refine AllReadyH.cons rfl (fun K' hK' => ?_) AllReadyH.nil
 go_simp
 have hS5 := hS.st9 (b := q2) (.inl rfl) h (.slice a3 lt.length c3)
 refine hK'.out _ _ hS5 (fun hS => ?_)
 clear hK' K' hS5
 refine wpAnyH_done (by kernel_rfl) ?_ _
 go_wp2_with fail
 refine bodyPost_ret (results_sibs rfl rfl (G2.st9 h (.slice a3 lt.length c3))) rfl ?_
 have OZ := HOW3.out.trans O4 (fun _ _ h => h)
 have hlo := HQ2.out
 refine ⟨maxV f g, a3, c3, lt, by rw [vec_ext (g := maxV f g) HHH.out], HJ.out.1.symm, ?_, ?_, OZ.st9 (.inr hlo) h _⟩
 ·rw [HJ.out.2, ← HL3.out, HLT.out]
  have hm := HMM.out
  simp only [cont, List.map_take]
  rw [hm]
  rcases Nat.le_total l.length 16 with h9 | h9
  ·rw [Nat.min_eq_left h9, List.take_of_length_le (by simp), List.take_of_length_le (by simpa using h9)]
  ·rw [Nat.min_eq_right h9]
 ·refine Made.mono (N := v2.heap.size) ?_ HQV.out.2
  refine (HRT.out.off O4).offN ((Off.refl (fun c => c = q2) v4).st9 (.inl rfl) h _) (fun k hk e => ?_)
  have := HQV.out.1
  omega
end Go.Proofs.Ytmjmgdbhmbjmaab
