/- VectorReckons. -/
import Derived.Test.YtalcfkdmlebkbaaDoorRefV
namespace Go.Proofs.YtalcfkdmlebkbaaDoor
open Go.RowKit

theorem eq_of {f g : Nat → Int} (h : ∀ j, j < 8 → f j = g j) : eqB f g = true := by simpa [eqB] using h
theorem eql_bool (x : Bool) (W : World) : (binOp .eql 4 (.bool x) (.bool x)).run Tryd.prog W = .ok (.bool true) W := by cases x <;> go_simp
set_option maxRecDepth 100000 in
set_option maxHeartbeats 4000000 in
theorem reckons_walk (a b : Nat → Int) (n N f0 f1 k : Int) (w : World) (ht : Tab w) (hr : ∀ j, j < 8 → -9223372036854775808 ≤ a j ∧ a j ≤ 9223372036854775807) :
    Calls Tryd.prog 3 #[.agg #[.int .i64 (a 0), .int .i64 (a 1), .int .i64 (a 2), .int .i64 (a 3), .int .i64 (a 4), .int .i64 (a 5), .int .i64 (a 6), .int .i64 (a 7)], .agg #[.int .i64 (b 0), .int .i64 (b 1), .int .i64 (b 2), .int .i64 (b 3), .int .i64 (b 4), .int .i64 (b 5), .int .i64 (b 6), .int .i64 (b 7)], .agg #[.int .i64 n, .int .i64 N], .agg #[.int .i64 f0, .int .i64 f1], .int .i64 k] w fun e w' => e = .returned (.bool true) ∧ Off (fun _ => False) w w' := by
  have HT : Hid (∀ w', Off (fun _ => False) w w' → Tab w') := fun w' h => ht.off h (fun _ _ h => h)
  clear ht
  have N1 := next_any a (fun j hj => (hr j hj).1) k
  have N2 := fnext_any a (fun j hj => (hr j hj).1) k
  rcases hX : nextV a k with ⟨p1, p2, p3⟩
  rw [hX] at N1 N2
  have HN1 : Hid _ := N1
  have HN2 : Hid _ := N2
  have W1 := with_any a n N
  have W2 := fwith_any a n N
  obtain ⟨h, hh⟩ : ∃ h, h = withV a n N := ⟨_, rfl⟩
  rw [← hh] at W1 W2
  have HW1 : Hid _ := W1
  have HW2 : Hid _ := W2
  clear N1 N2 W1 W2 hh hX hr
  go_enter Tryd.func3, Tryd.ntmps3
  go_wp2_with fail
  obtain ⟨W, hW⟩ : ∃ W, W = ((((w.alloc (.cells #[.int .i64 (a 0), .int .i64 (a 1), .int .i64 (a 2), .int .i64 (a 3), .int .i64 (a 4), .int .i64 (a 5), .int .i64 (a 6), .int .i64 (a 7)] 23)).alloc (.cells #[.int .i64 (b 0), .int .i64 (b 1), .int .i64 (b 2), .int .i64 (b 3), .int .i64 (b 4), .int .i64 (b 5), .int .i64 (b 6), .int .i64 (b 7)] 23)).alloc (.cells #[.int .i64 n, .int .i64 N] 25)).alloc (.cells #[.int .i64 f0, .int .i64 f1] 25)) := ⟨_, rfl⟩
  have O : Off (fun _ => False) w W := by rw [hW]; exact ((((Off.refl _ w).alloc _).alloc _).alloc _).alloc _
  have C0 : Cel (w.heap.size) 23 #[.int .i64 (a 0), .int .i64 (a 1), .int .i64 (a 2), .int .i64 (a 3), .int .i64 (a 4), .int .i64 (a 5), .int .i64 (a 6), .int .i64 (a 7)] W := by
    rw [hW]
    have h := Cel.new w 23 #[.int .i64 (a 0), .int .i64 (a 1), .int .i64 (a 2), .int .i64 (a 3), .int .i64 (a 4), .int .i64 (a 5), .int .i64 (a 6), .int .i64 (a 7)]
    exact ((h.alloc _).alloc _).alloc _
  have C1 : Cel (w.heap.size + 1) 23 #[.int .i64 (b 0), .int .i64 (b 1), .int .i64 (b 2), .int .i64 (b 3), .int .i64 (b 4), .int .i64 (b 5), .int .i64 (b 6), .int .i64 (b 7)] W := by
    rw [hW]
    have h := Cel.new (w.alloc (.cells #[.int .i64 (a 0), .int .i64 (a 1), .int .i64 (a 2), .int .i64 (a 3), .int .i64 (a 4), .int .i64 (a 5), .int .i64 (a 6), .int .i64 (a 7)] 23)) 23 #[.int .i64 (b 0), .int .i64 (b 1), .int .i64 (b 2), .int .i64 (b 3), .int .i64 (b 4), .int .i64 (b 5), .int .i64 (b 6), .int .i64 (b 7)]
    simp only [World.size_alloc] at h
    exact (h.alloc _).alloc _
  have C2 : Cel (w.heap.size + 1 + 1) 25 #[.int .i64 n, .int .i64 N] W := by
    rw [hW]
    have h := Cel.new ((w.alloc (.cells #[.int .i64 (a 0), .int .i64 (a 1), .int .i64 (a 2), .int .i64 (a 3), .int .i64 (a 4), .int .i64 (a 5), .int .i64 (a 6), .int .i64 (a 7)] 23)).alloc (.cells #[.int .i64 (b 0), .int .i64 (b 1), .int .i64 (b 2), .int .i64 (b 3), .int .i64 (b 4), .int .i64 (b 5), .int .i64 (b 6), .int .i64 (b 7)] 23)) 25 #[.int .i64 n, .int .i64 N]
    simp only [World.size_alloc] at h
    exact h.alloc _
  have C3 : Cel (w.heap.size + 1 + 1 + 1) 25 #[.int .i64 f0, .int .i64 f1] W := by
    rw [hW]
    have h := Cel.new (((w.alloc (.cells #[.int .i64 (a 0), .int .i64 (a 1), .int .i64 (a 2), .int .i64 (a 3), .int .i64 (a 4), .int .i64 (a 5), .int .i64 (a 6), .int .i64 (a 7)] 23)).alloc (.cells #[.int .i64 (b 0), .int .i64 (b 1), .int .i64 (b 2), .int .i64 (b 3), .int .i64 (b 4), .int .i64 (b 5), .int .i64 (b 6), .int .i64 (b 7)] 23)).alloc (.cells #[.int .i64 n, .int .i64 N] 25)) 25 #[.int .i64 f0, .int .i64 f1]
    simp only [World.size_alloc] at h
    exact h
  rw [← hW]
  clear hW
  generalize hq3 : w.heap.size + 1 + 1 + 1 = q3 at C3 ⊢
  generalize hq2 : w.heap.size + 1 + 1 = q2 at C2 ⊢
  generalize hq1 : w.heap.size + 1 = q1 at C1 ⊢
  generalize hq0 : w.heap.size = q0 at C0 ⊢
  clear hq0 hq1 hq2 hq3
  have H0 : Hid _ := C0
  have H1 : Hid _ := C1
  have H2 : Hid _ := C2
  have H3 : Hid _ := C3
  clear C0 C1 C2 C3
  refine (HN1.out _).mono ?_
  rintro e v1 ⟨rfl, o1⟩
  have A1 := H0.out.off o1 (fun h => h)
  obtain ⟨c0, c1, c2, c3, c4, c5, c6, c7⟩ := cel8 (A1.alloc (.cells #[.int .i64 p1, .int .i64 p2] 25))
  go_wp2_with fail
  clear c0 c1 c2 c3 c4 c5 c6 c7
  obtain ⟨V1, hV⟩ : ∃ V, V = v1.alloc (.cells #[.int .i64 p1, .int .i64 p2] 25) := ⟨_, rfl⟩
  have D4 : Cel v1.heap.size 25 #[.int .i64 p1, .int .i64 p2] V1 := by rw [hV]; exact Cel.new v1 _ _
  have oV : Off (fun _ => False) W V1 := by rw [hV]; exact o1.alloc _
  rw [← hV]
  clear hV o1 A1
  generalize v1.heap.size = q4 at D4 ⊢
  refine (HN2.out _).mono ?_
  rintro e v2 ⟨rfl, o2⟩
  go_wp2_with fail
  obtain ⟨V, hV⟩ : ∃ V, V = v2.alloc (.cells #[.int .i64 p1, .int .i64 p2] 25) := ⟨_, rfl⟩
  have D5 : Cel v2.heap.size 25 #[.int .i64 p1, .int .i64 p2] V := by rw [hV]; exact Cel.new v2 _ _
  have oU : Off (fun _ => False) V1 V := by rw [hV]; exact o2.alloc _
  rw [← hV]
  clear hV o2
  generalize v2.heap.size = q5 at D5 ⊢
  replace D4 := D4.off oU (fun h => h)
  have oW := oV.trans oU (fun _ _ h => h)
  have D0 := H0.out.off oW (fun h => h)
  have D1 := H1.out.off oW (fun h => h)
  have D2 := H2.out.off oW (fun h => h)
  have D3 := H3.out.off oW (fun h => h)
  replace O := O.trans oW (fun _ _ h => h)
  clear H0 H1 H2 H3 oU oV oW HN1 HN2
  have H0 : Hid _ := D0
  have H1 : Hid _ := D1
  have H2 : Hid _ := D2
  have H3 : Hid _ := D3
  have H4 : Hid _ := D4
  have H5 : Hid _ := D5
  clear D0 D1 D2 D3 D4 D5
  refine wp_region_held_drew (S := fun w' => Off (fun _ => False) V w') (by kernel_rfl) ((Off.refl _ V).drew) (fun hS => ?_)
  refine take_at (i := 0) 27 (v := .agg #[.int .i64 (a 0), .int .i64 (a 1), .int .i64 (a 2), .int .i64 (a 3), .int .i64 (a 4), .int .i64 (a 5), .int .i64 (a 6), .int .i64 (a 7)]) rfl rfl (by kernel_rfl) (by kernel_rfl) (by kernel_rfl) (fun _ _ _ h => h) (Or.inl ⟨by rfl, fun w' hw' => by obtain ⟨x0, x1, x2, x3, x4, x5, x6, x7⟩ := cel8 (H0.out.off hw' (fun h => h)); go_simp⟩) hS ?_
  simp only [Act.put, List.setIfInBounds_toArray, List.set_cons_zero, List.set_cons_succ]
  refine take_at (i := 2) 29 (v := .agg #[.int .i64 (a 0), .int .i64 (a 1), .int .i64 (a 2), .int .i64 (a 3), .int .i64 (a 4), .int .i64 (a 5), .int .i64 (a 6), .int .i64 (a 7)]) rfl rfl (by kernel_rfl) (by kernel_rfl) (by kernel_rfl) (fun _ _ _ h => h) (Or.inl ⟨by rfl, fun w' hw' => by obtain ⟨x0, x1, x2, x3, x4, x5, x6, x7⟩ := cel8 (H0.out.off hw' (fun h => h)); go_simp⟩) hS ?_
  simp only [Act.put, List.setIfInBounds_toArray, List.set_cons_zero, List.set_cons_succ]
  refine wpAnyH_ready (rs := [1]) (by kernel_rfl) (by simp) ?_
  refine AllReadyH.cons rfl (fun K' hK' => ?_) AllReadyH.nil
  go_simp
  refine (may_any a _).mono ?_
  rintro e v1 ⟨rfl, o1⟩
  refine hK'.out _ _ (hS.trans o1 (fun _ _ h => h)) (fun hS => ?_)
  clear hK' K' o1
  refine wpAnyH_ready (rs := [3]) (by kernel_rfl) (by simp) ?_
  refine AllReadyH.cons rfl (fun K' hK' => ?_) AllReadyH.nil
  go_simp
  refine (fmay_any a _).mono ?_
  rintro e v1 ⟨rfl, o1⟩
  refine hK'.out _ _ (hS.trans o1 (fun _ _ h => h)) (fun hS => ?_)
  clear hK' K' o1
  refine take_at (i := 4) 31 (v := .bool true) rfl rfl (by kernel_rfl) (by kernel_rfl) (by kernel_rfl) (fun _ _ _ h => h) (Or.inl ⟨by rfl, fun w' hw' => by have e := eql_bool (mayB a); go_simp⟩) hS ?_
  simp only [Act.put, List.setIfInBounds_toArray, List.set_cons_zero, List.set_cons_succ]
  refine take_at (i := 5) 32 (v := .bool true) rfl rfl (by kernel_rfl) (by kernel_rfl) (by kernel_rfl) (fun _ _ _ h => h) (Or.inl ⟨by rfl, fun w' hw' => by go_simp⟩) hS ?_
  simp only [Act.put, List.setIfInBounds_toArray, List.set_cons_zero, List.set_cons_succ]
  refine take_at (i := 6) 33 (v := .agg #[.int .i64 (a 0), .int .i64 (a 1), .int .i64 (a 2), .int .i64 (a 3), .int .i64 (a 4), .int .i64 (a 5), .int .i64 (a 6), .int .i64 (a 7)]) rfl rfl (by kernel_rfl) (by kernel_rfl) (by kernel_rfl) (fun _ _ _ h => h) (Or.inl ⟨by rfl, fun w' hw' => by obtain ⟨x0, x1, x2, x3, x4, x5, x6, x7⟩ := cel8 (H0.out.off hw' (fun h => h)); go_simp⟩) hS ?_
  simp only [Act.put, List.setIfInBounds_toArray, List.set_cons_zero, List.set_cons_succ]
  refine take_at (i := 7) 34 (v := .agg #[.int .i64 n, .int .i64 N]) rfl rfl (by kernel_rfl) (by kernel_rfl) (by kernel_rfl) (fun _ _ _ h => h) (Or.inl ⟨by rfl, fun w' hw' => by have x0 := (H2.out.off hw' (fun h => h)).cell 0; have x1 := (H2.out.off hw' (fun h => h)).cell 1; simp at x0 x1; go_simp⟩) hS ?_
  simp only [Act.put, List.setIfInBounds_toArray, List.set_cons_zero, List.set_cons_succ]
  refine take_at (i := 9) 36 (v := .agg #[.int .i64 (a 0), .int .i64 (a 1), .int .i64 (a 2), .int .i64 (a 3), .int .i64 (a 4), .int .i64 (a 5), .int .i64 (a 6), .int .i64 (a 7)]) rfl rfl (by kernel_rfl) (by kernel_rfl) (by kernel_rfl) (fun _ _ _ h => h) (Or.inl ⟨by rfl, fun w' hw' => by obtain ⟨x0, x1, x2, x3, x4, x5, x6, x7⟩ := cel8 (H0.out.off hw' (fun h => h)); go_simp⟩) hS ?_
  simp only [Act.put, List.setIfInBounds_toArray, List.set_cons_zero, List.set_cons_succ]
  refine take_at (i := 10) 37 (v := .agg #[.int .i64 n, .int .i64 N]) rfl rfl (by kernel_rfl) (by kernel_rfl) (by kernel_rfl) (fun _ _ _ h => h) (Or.inl ⟨by rfl, fun w' hw' => by have x0 := (H2.out.off hw' (fun h => h)).cell 0; have x1 := (H2.out.off hw' (fun h => h)).cell 1; simp at x0 x1; go_simp⟩) hS ?_
  simp only [Act.put, List.setIfInBounds_toArray, List.set_cons_zero, List.set_cons_succ]
  refine wpAnyH_ready (rs := [8]) (by kernel_rfl) (by simp) ?_
  refine AllReadyH.cons rfl (fun K' hK' => ?_) AllReadyH.nil
  go_simp
  refine (covers_any a n N _).mono ?_
  rintro e v1 ⟨rfl, o1⟩
  refine hK'.out _ _ (hS.trans o1 (fun _ _ h => h)) (fun hS => ?_)
  clear hK' K' o1
  refine wpAnyH_ready (rs := [11]) (by kernel_rfl) (by simp) ?_
  refine AllReadyH.cons rfl (fun K' hK' => ?_) AllReadyH.nil
  go_simp
  refine (fcovers_any a n N _).mono ?_
  rintro e v1 ⟨rfl, o1⟩
  refine hK'.out _ _ (hS.trans o1 (fun _ _ h => h)) (fun hS => ?_)
  clear hK' K' o1
  refine take_at (i := 12) 39 (v := .bool true) rfl rfl (by kernel_rfl) (by kernel_rfl) (by kernel_rfl) (fun _ _ _ h => h) (Or.inl ⟨by rfl, fun w' hw' => by have e := eql_bool (coversB a n N); go_simp⟩) hS ?_
  simp only [Act.put, List.setIfInBounds_toArray, List.set_cons_zero, List.set_cons_succ]
  refine take_at (i := 13) 40 (v := .bool true) rfl rfl (by kernel_rfl) (by kernel_rfl) (by kernel_rfl) (fun _ _ _ h => h) (Or.inl ⟨by rfl, fun w' hw' => by go_simp⟩) hS ?_
  simp only [Act.put, List.setIfInBounds_toArray, List.set_cons_zero, List.set_cons_succ]
  refine take_at (i := 14) 41 (v := .bool true) rfl rfl (by kernel_rfl) (by kernel_rfl) (by kernel_rfl) (fun _ _ _ h => h) (Or.inl ⟨by rfl, fun w' hw' => by go_simp⟩) hS ?_
  simp only [Act.put, List.setIfInBounds_toArray, List.set_cons_zero, List.set_cons_succ]
  refine take_at (i := 15) 42 (v := .agg #[.int .i64 (a 0), .int .i64 (a 1), .int .i64 (a 2), .int .i64 (a 3), .int .i64 (a 4), .int .i64 (a 5), .int .i64 (a 6), .int .i64 (a 7)]) rfl rfl (by kernel_rfl) (by kernel_rfl) (by kernel_rfl) (fun _ _ _ h => h) (Or.inl ⟨by rfl, fun w' hw' => by obtain ⟨x0, x1, x2, x3, x4, x5, x6, x7⟩ := cel8 (H0.out.off hw' (fun h => h)); go_simp⟩) hS ?_
  simp only [Act.put, List.setIfInBounds_toArray, List.set_cons_zero, List.set_cons_succ]
  refine take_at (i := 16) 43 (v := .agg #[.int .i64 (b 0), .int .i64 (b 1), .int .i64 (b 2), .int .i64 (b 3), .int .i64 (b 4), .int .i64 (b 5), .int .i64 (b 6), .int .i64 (b 7)]) rfl rfl (by kernel_rfl) (by kernel_rfl) (by kernel_rfl) (fun _ _ _ h => h) (Or.inl ⟨by rfl, fun w' hw' => by obtain ⟨x0, x1, x2, x3, x4, x5, x6, x7⟩ := cel8 (H1.out.off hw' (fun h => h)); go_simp⟩) hS ?_
  simp only [Act.put, List.setIfInBounds_toArray, List.set_cons_zero, List.set_cons_succ]
  refine take_at (i := 18) 45 (v := .agg #[.int .i64 (a 0), .int .i64 (a 1), .int .i64 (a 2), .int .i64 (a 3), .int .i64 (a 4), .int .i64 (a 5), .int .i64 (a 6), .int .i64 (a 7)]) rfl rfl (by kernel_rfl) (by kernel_rfl) (by kernel_rfl) (fun _ _ _ h => h) (Or.inl ⟨by rfl, fun w' hw' => by obtain ⟨x0, x1, x2, x3, x4, x5, x6, x7⟩ := cel8 (H0.out.off hw' (fun h => h)); go_simp⟩) hS ?_
  simp only [Act.put, List.setIfInBounds_toArray, List.set_cons_zero, List.set_cons_succ]
  refine take_at (i := 19) 46 (v := .agg #[.int .i64 (b 0), .int .i64 (b 1), .int .i64 (b 2), .int .i64 (b 3), .int .i64 (b 4), .int .i64 (b 5), .int .i64 (b 6), .int .i64 (b 7)]) rfl rfl (by kernel_rfl) (by kernel_rfl) (by kernel_rfl) (fun _ _ _ h => h) (Or.inl ⟨by rfl, fun w' hw' => by obtain ⟨x0, x1, x2, x3, x4, x5, x6, x7⟩ := cel8 (H1.out.off hw' (fun h => h)); go_simp⟩) hS ?_
  simp only [Act.put, List.setIfInBounds_toArray, List.set_cons_zero, List.set_cons_succ]
  refine wpAnyH_ready (rs := [17]) (by kernel_rfl) (by simp) ?_
  refine AllReadyH.cons rfl (fun K' hK' => ?_) AllReadyH.nil
  go_simp
  refine (join_any a b _).mono ?_
  rintro e v1 ⟨g1, rfl, hg, o1⟩
  have Hg1 : Hid _ := hg
  clear hg
  refine hK'.out _ _ (hS.trans o1 (fun _ _ h => h)) (fun hS => ?_)
  clear hK' K' o1
  refine wpAnyH_ready (rs := [20]) (by kernel_rfl) (by simp) ?_
  refine AllReadyH.cons rfl (fun K' hK' => ?_) AllReadyH.nil
  go_simp
  refine (fjoin_any a b _).mono ?_
  rintro e v1 ⟨g2, rfl, hg, o1⟩
  have Hg2 : Hid _ := hg
  clear hg
  refine hK'.out _ _ (hS.trans o1 (fun _ _ h => h)) (fun hS => ?_)
  clear hK' K' o1
  refine take_at (i := 21) 48 (v := .bool true) rfl rfl (by kernel_rfl) (by kernel_rfl) (by kernel_rfl) (fun _ _ _ h => h) (Or.inl ⟨by rfl, fun w' hw' => by have e := eql_vec g1 g2; rw [eq_of (fun j hj => by rw [Hg1.out j hj, Hg2.out j hj])] at e; go_simp⟩) hS ?_
  simp only [Act.put, List.setIfInBounds_toArray, List.set_cons_zero, List.set_cons_succ]
  refine take_at (i := 22) 49 (v := .bool true) rfl rfl (by kernel_rfl) (by kernel_rfl) (by kernel_rfl) (fun _ _ _ h => h) (Or.inl ⟨by rfl, fun w' hw' => by go_simp⟩) hS ?_
  simp only [Act.put, List.setIfInBounds_toArray, List.set_cons_zero, List.set_cons_succ]
  refine take_at (i := 23) 50 (v := .bool true) rfl rfl (by kernel_rfl) (by kernel_rfl) (by kernel_rfl) (fun _ _ _ h => h) (Or.inl ⟨by rfl, fun w' hw' => by go_simp⟩) hS ?_
  simp only [Act.put, List.setIfInBounds_toArray, List.set_cons_zero, List.set_cons_succ]
  refine take_at (i := 24) 51 (v := .agg #[.int .i64 (a 0), .int .i64 (a 1), .int .i64 (a 2), .int .i64 (a 3), .int .i64 (a 4), .int .i64 (a 5), .int .i64 (a 6), .int .i64 (a 7)]) rfl rfl (by kernel_rfl) (by kernel_rfl) (by kernel_rfl) (fun _ _ _ h => h) (Or.inl ⟨by rfl, fun w' hw' => by obtain ⟨x0, x1, x2, x3, x4, x5, x6, x7⟩ := cel8 (H0.out.off hw' (fun h => h)); go_simp⟩) hS ?_
  simp only [Act.put, List.setIfInBounds_toArray, List.set_cons_zero, List.set_cons_succ]
  refine take_at (i := 25) 52 (v := .agg #[.int .i64 (b 0), .int .i64 (b 1), .int .i64 (b 2), .int .i64 (b 3), .int .i64 (b 4), .int .i64 (b 5), .int .i64 (b 6), .int .i64 (b 7)]) rfl rfl (by kernel_rfl) (by kernel_rfl) (by kernel_rfl) (fun _ _ _ h => h) (Or.inl ⟨by rfl, fun w' hw' => by obtain ⟨x0, x1, x2, x3, x4, x5, x6, x7⟩ := cel8 (H1.out.off hw' (fun h => h)); go_simp⟩) hS ?_
  simp only [Act.put, List.setIfInBounds_toArray, List.set_cons_zero, List.set_cons_succ]
  refine take_at (i := 27) 54 (v := .agg #[.int .i64 (a 0), .int .i64 (a 1), .int .i64 (a 2), .int .i64 (a 3), .int .i64 (a 4), .int .i64 (a 5), .int .i64 (a 6), .int .i64 (a 7)]) rfl rfl (by kernel_rfl) (by kernel_rfl) (by kernel_rfl) (fun _ _ _ h => h) (Or.inl ⟨by rfl, fun w' hw' => by obtain ⟨x0, x1, x2, x3, x4, x5, x6, x7⟩ := cel8 (H0.out.off hw' (fun h => h)); go_simp⟩) hS ?_
  simp only [Act.put, List.setIfInBounds_toArray, List.set_cons_zero, List.set_cons_succ]
  refine take_at (i := 28) 55 (v := .agg #[.int .i64 (b 0), .int .i64 (b 1), .int .i64 (b 2), .int .i64 (b 3), .int .i64 (b 4), .int .i64 (b 5), .int .i64 (b 6), .int .i64 (b 7)]) rfl rfl (by kernel_rfl) (by kernel_rfl) (by kernel_rfl) (fun _ _ _ h => h) (Or.inl ⟨by rfl, fun w' hw' => by obtain ⟨x0, x1, x2, x3, x4, x5, x6, x7⟩ := cel8 (H1.out.off hw' (fun h => h)); go_simp⟩) hS ?_
  simp only [Act.put, List.setIfInBounds_toArray, List.set_cons_zero, List.set_cons_succ]
  refine wpAnyH_ready (rs := [26]) (by kernel_rfl) (by simp) ?_
  refine AllReadyH.cons rfl (fun K' hK' => ?_) AllReadyH.nil
  go_simp
  refine (leq_any a b _).mono ?_
  rintro e v1 ⟨rfl, o1⟩
  refine hK'.out _ _ (hS.trans o1 (fun _ _ h => h)) (fun hS => ?_)
  clear hK' K' o1
  refine wpAnyH_ready (rs := [29]) (by kernel_rfl) (by simp) ?_
  refine AllReadyH.cons rfl (fun K' hK' => ?_) AllReadyH.nil
  go_simp
  refine (fleq_any a b _).mono ?_
  rintro e v1 ⟨rfl, o1⟩
  refine hK'.out _ _ (hS.trans o1 (fun _ _ h => h)) (fun hS => ?_)
  clear hK' K' o1
  refine take_at (i := 30) 57 (v := .bool true) rfl rfl (by kernel_rfl) (by kernel_rfl) (by kernel_rfl) (fun _ _ _ h => h) (Or.inl ⟨by rfl, fun w' hw' => by have e := eql_bool (leqB a b); go_simp⟩) hS ?_
  simp only [Act.put, List.setIfInBounds_toArray, List.set_cons_zero, List.set_cons_succ]
  refine take_at (i := 31) 58 (v := .bool true) rfl rfl (by kernel_rfl) (by kernel_rfl) (by kernel_rfl) (fun _ _ _ h => h) (Or.inl ⟨by rfl, fun w' hw' => by go_simp⟩) hS ?_
  simp only [Act.put, List.setIfInBounds_toArray, List.set_cons_zero, List.set_cons_succ]
  refine take_at (i := 32) 59 (v := .bool true) rfl rfl (by kernel_rfl) (by kernel_rfl) (by kernel_rfl) (fun _ _ _ h => h) (Or.inl ⟨by rfl, fun w' hw' => by go_simp⟩) hS ?_
  simp only [Act.put, List.setIfInBounds_toArray, List.set_cons_zero, List.set_cons_succ]
  refine take_at (i := 33) 60 (v := .agg #[.int .i64 (a 0), .int .i64 (a 1), .int .i64 (a 2), .int .i64 (a 3), .int .i64 (a 4), .int .i64 (a 5), .int .i64 (a 6), .int .i64 (a 7)]) rfl rfl (by kernel_rfl) (by kernel_rfl) (by kernel_rfl) (fun _ _ _ h => h) (Or.inl ⟨by rfl, fun w' hw' => by obtain ⟨x0, x1, x2, x3, x4, x5, x6, x7⟩ := cel8 (H0.out.off hw' (fun h => h)); go_simp⟩) hS ?_
  simp only [Act.put, List.setIfInBounds_toArray, List.set_cons_zero, List.set_cons_succ]
  refine take_at (i := 34) 61 (v := .agg #[.int .i64 n, .int .i64 N]) rfl rfl (by kernel_rfl) (by kernel_rfl) (by kernel_rfl) (fun _ _ _ h => h) (Or.inl ⟨by rfl, fun w' hw' => by have x0 := (H2.out.off hw' (fun h => h)).cell 0; have x1 := (H2.out.off hw' (fun h => h)).cell 1; simp at x0 x1; go_simp⟩) hS ?_
  simp only [Act.put, List.setIfInBounds_toArray, List.set_cons_zero, List.set_cons_succ]
  refine take_at (i := 36) 63 (v := .agg #[.int .i64 (a 0), .int .i64 (a 1), .int .i64 (a 2), .int .i64 (a 3), .int .i64 (a 4), .int .i64 (a 5), .int .i64 (a 6), .int .i64 (a 7)]) rfl rfl (by kernel_rfl) (by kernel_rfl) (by kernel_rfl) (fun _ _ _ h => h) (Or.inl ⟨by rfl, fun w' hw' => by obtain ⟨x0, x1, x2, x3, x4, x5, x6, x7⟩ := cel8 (H0.out.off hw' (fun h => h)); go_simp⟩) hS ?_
  simp only [Act.put, List.setIfInBounds_toArray, List.set_cons_zero, List.set_cons_succ]
  refine take_at (i := 37) 64 (v := .agg #[.int .i64 n, .int .i64 N]) rfl rfl (by kernel_rfl) (by kernel_rfl) (by kernel_rfl) (fun _ _ _ h => h) (Or.inl ⟨by rfl, fun w' hw' => by have x0 := (H2.out.off hw' (fun h => h)).cell 0; have x1 := (H2.out.off hw' (fun h => h)).cell 1; simp at x0 x1; go_simp⟩) hS ?_
  simp only [Act.put, List.setIfInBounds_toArray, List.set_cons_zero, List.set_cons_succ]
  refine wpAnyH_ready (rs := [35]) (by kernel_rfl) (by simp) ?_
  refine AllReadyH.cons rfl (fun K' hK' => ?_) AllReadyH.nil
  go_simp
  refine (HW1.out _).mono ?_
  rintro e v1 ⟨rfl, o1⟩
  refine hK'.out _ _ (hS.trans o1 (fun _ _ h => h)) (fun hS => ?_)
  clear hK' K' o1
  refine wpAnyH_ready (rs := [38]) (by kernel_rfl) (by simp) ?_
  refine AllReadyH.cons rfl (fun K' hK' => ?_) AllReadyH.nil
  go_simp
  refine (HW2.out _).mono ?_
  rintro e v1 ⟨rfl, o1⟩
  refine hK'.out _ _ (hS.trans o1 (fun _ _ h => h)) (fun hS => ?_)
  clear hK' K' o1
  refine take_at (i := 39) 66 (v := .bool true) rfl rfl (by kernel_rfl) (by kernel_rfl) (by kernel_rfl) (fun _ _ _ h => h) (Or.inl ⟨by rfl, fun w' hw' => by have e := eql_vec h h; rw [eq_of (fun j hj => rfl)] at e; go_simp⟩) hS ?_
  simp only [Act.put, List.setIfInBounds_toArray, List.set_cons_zero, List.set_cons_succ]
  refine take_at (i := 40) 67 (v := .bool true) rfl rfl (by kernel_rfl) (by kernel_rfl) (by kernel_rfl) (fun _ _ _ h => h) (Or.inl ⟨by rfl, fun w' hw' => by go_simp⟩) hS ?_
  simp only [Act.put, List.setIfInBounds_toArray, List.set_cons_zero, List.set_cons_succ]
  refine take_at (i := 41) 68 (v := .bool true) rfl rfl (by kernel_rfl) (by kernel_rfl) (by kernel_rfl) (fun _ _ _ h => h) (Or.inl ⟨by rfl, fun w' hw' => by go_simp⟩) hS ?_
  simp only [Act.put, List.setIfInBounds_toArray, List.set_cons_zero, List.set_cons_succ]
  refine take_at (i := 42) 69 (v := .agg #[.int .i64 p1, .int .i64 p2]) rfl rfl (by kernel_rfl) (by kernel_rfl) (by kernel_rfl) (fun _ _ _ h => h) (Or.inl ⟨by rfl, fun w' hw' => by have x0 := (H4.out.off hw' (fun h => h)).cell 0; have x1 := (H4.out.off hw' (fun h => h)).cell 1; simp at x0 x1; go_simp⟩) hS ?_
  simp only [Act.put, List.setIfInBounds_toArray, List.set_cons_zero, List.set_cons_succ]
  refine take_at (i := 43) 70 (v := .agg #[.int .i64 p1, .int .i64 p2]) rfl rfl (by kernel_rfl) (by kernel_rfl) (by kernel_rfl) (fun _ _ _ h => h) (Or.inl ⟨by rfl, fun w' hw' => by have x0 := (H5.out.off hw' (fun h => h)).cell 0; have x1 := (H5.out.off hw' (fun h => h)).cell 1; simp at x0 x1; go_simp⟩) hS ?_
  simp only [Act.put, List.setIfInBounds_toArray, List.set_cons_zero, List.set_cons_succ]
  refine take_at (i := 44) 71 (v := .bool true) rfl rfl (by kernel_rfl) (by kernel_rfl) (by kernel_rfl) (fun _ _ _ h => h) (Or.inl ⟨by rfl, fun w' hw' => by have e := eql_dot p1 p2 p1 p2; simp only [and_self, decide_true] at e; go_simp⟩) hS ?_
  simp only [Act.put, List.setIfInBounds_toArray, List.set_cons_zero, List.set_cons_succ]
  refine take_at (i := 45) 72 (v := .bool true) rfl rfl (by kernel_rfl) (by kernel_rfl) (by kernel_rfl) (fun _ _ _ h => h) (Or.inl ⟨by rfl, fun w' hw' => by go_simp⟩) hS ?_
  simp only [Act.put, List.setIfInBounds_toArray, List.set_cons_zero, List.set_cons_succ]
  refine take_at (i := 46) 73 (v := .bool true) rfl rfl (by kernel_rfl) (by kernel_rfl) (by kernel_rfl) (fun _ _ _ h => h) (Or.inl ⟨by rfl, fun w' hw' => by go_simp⟩) hS ?_
  simp only [Act.put, List.setIfInBounds_toArray, List.set_cons_zero, List.set_cons_succ]
  refine take_at (i := 47) 74 (v := .int .i64 p3) rfl rfl (by kernel_rfl) (by kernel_rfl) (by kernel_rfl) (fun _ _ _ h => h) (Or.inl ⟨by rfl, fun w' hw' => by go_simp⟩) hS ?_
  simp only [Act.put, List.setIfInBounds_toArray, List.set_cons_zero, List.set_cons_succ]
  refine take_at (i := 48) 75 (v := .int .i64 p3) rfl rfl (by kernel_rfl) (by kernel_rfl) (by kernel_rfl) (fun _ _ _ h => h) (Or.inl ⟨by rfl, fun w' hw' => by go_simp⟩) hS ?_
  simp only [Act.put, List.setIfInBounds_toArray, List.set_cons_zero, List.set_cons_succ]
  refine take_at (i := 49) 76 (v := .bool true) rfl rfl (by kernel_rfl) (by kernel_rfl) (by kernel_rfl) (fun _ _ _ h => h) (Or.inl ⟨by rfl, fun w' hw' => by go_simp⟩) hS ?_
  simp only [Act.put, List.setIfInBounds_toArray, List.set_cons_zero, List.set_cons_succ]
  refine take_at (i := 50) 77 (v := .bool true) rfl rfl (by kernel_rfl) (by kernel_rfl) (by kernel_rfl) (fun _ _ _ h => h) (Or.inl ⟨by rfl, fun w' hw' => by go_simp⟩) hS ?_
  simp only [Act.put, List.setIfInBounds_toArray, List.set_cons_zero, List.set_cons_succ]
  refine take_at (i := 51) 78 (v := .bool true) rfl rfl (by kernel_rfl) (by kernel_rfl) (by kernel_rfl) (fun _ _ _ h => h) (Or.inl ⟨by rfl, fun w' hw' => by go_simp⟩) hS ?_
  simp only [Act.put, List.setIfInBounds_toArray, List.set_cons_zero, List.set_cons_succ]
  refine take_at (i := 52) 79 (v := .agg #[.int .i64 n, .int .i64 N]) rfl rfl (by kernel_rfl) (by kernel_rfl) (by kernel_rfl) (fun _ _ _ h => h) (Or.inl ⟨by rfl, fun w' hw' => by have x0 := (H2.out.off hw' (fun h => h)).cell 0; have x1 := (H2.out.off hw' (fun h => h)).cell 1; simp at x0 x1; go_simp⟩) hS ?_
  simp only [Act.put, List.setIfInBounds_toArray, List.set_cons_zero, List.set_cons_succ]
  refine take_at (i := 53) 80 (v := .agg #[.int .i64 f0, .int .i64 f1]) rfl rfl (by kernel_rfl) (by kernel_rfl) (by kernel_rfl) (fun _ _ _ h => h) (Or.inl ⟨by rfl, fun w' hw' => by have x0 := (H3.out.off hw' (fun h => h)).cell 0; have x1 := (H3.out.off hw' (fun h => h)).cell 1; simp at x0 x1; go_simp⟩) hS ?_
  simp only [Act.put, List.setIfInBounds_toArray, List.set_cons_zero, List.set_cons_succ]
  refine take_at (i := 55) 82 (v := .agg #[.int .i64 n, .int .i64 N]) rfl rfl (by kernel_rfl) (by kernel_rfl) (by kernel_rfl) (fun _ _ _ h => h) (Or.inl ⟨by rfl, fun w' hw' => by have x0 := (H2.out.off hw' (fun h => h)).cell 0; have x1 := (H2.out.off hw' (fun h => h)).cell 1; simp at x0 x1; go_simp⟩) hS ?_
  simp only [Act.put, List.setIfInBounds_toArray, List.set_cons_zero, List.set_cons_succ]
  refine take_at (i := 56) 83 (v := .agg #[.int .i64 f0, .int .i64 f1]) rfl rfl (by kernel_rfl) (by kernel_rfl) (by kernel_rfl) (fun _ _ _ h => h) (Or.inl ⟨by rfl, fun w' hw' => by have x0 := (H3.out.off hw' (fun h => h)).cell 0; have x1 := (H3.out.off hw' (fun h => h)).cell 1; simp at x0 x1; go_simp⟩) hS ?_
  simp only [Act.put, List.setIfInBounds_toArray, List.set_cons_zero, List.set_cons_succ]
  refine wpAnyH_ready (rs := [54]) (by kernel_rfl) (by simp) ?_
  refine AllReadyH.cons rfl (fun K' hK' => ?_) AllReadyH.nil
  go_simp
  refine (less_any n N f0 f1 _).mono ?_
  rintro e v1 ⟨rfl, o1⟩
  refine hK'.out _ _ (hS.trans o1 (fun _ _ h => h)) (fun hS => ?_)
  clear hK' K' o1
  refine wpAnyH_ready (rs := [57]) (by kernel_rfl) (by simp) ?_
  refine AllReadyH.cons rfl (fun K' hK' => ?_) AllReadyH.nil
  go_simp
  refine (fless_any n N f0 f1 _).mono ?_
  rintro e v1 ⟨rfl, o1⟩
  refine hK'.out _ _ (hS.trans o1 (fun _ _ h => h)) (fun hS => ?_)
  clear hK' K' o1
  refine take_at (i := 58) 85 (v := .bool true) rfl rfl (by kernel_rfl) (by kernel_rfl) (by kernel_rfl) (fun _ _ _ h => h) (Or.inl ⟨by rfl, fun w' hw' => by have e := eql_bool (lessB n N f0 f1); go_simp⟩) hS ?_
  simp only [Act.put, List.setIfInBounds_toArray, List.set_cons_zero, List.set_cons_succ]
  refine take_at (i := 59) 86 (v := .bool true) rfl rfl (by kernel_rfl) (by kernel_rfl) (by kernel_rfl) (fun _ _ _ h => h) (Or.inl ⟨by rfl, fun w' hw' => by go_simp⟩) hS ?_
  simp only [Act.put, List.setIfInBounds_toArray, List.set_cons_zero, List.set_cons_succ]
  refine take_at (i := 60) 87 (v := .bool true) rfl rfl (by kernel_rfl) (by kernel_rfl) (by kernel_rfl) (fun _ _ _ h => h) (Or.inl ⟨by rfl, fun w' hw' => by go_simp⟩) hS ?_
  simp only [Act.put, List.setIfInBounds_toArray, List.set_cons_zero, List.set_cons_succ]
  refine wpAnyH_ready (rs := [61]) (by kernel_rfl) (by simp) ?_
  refine AllReadyH.cons rfl (fun K' hK' => ?_) AllReadyH.nil
  go_simp
  refine (awake_any _ (HT.out _ (O.trans hS (fun _ _ h => h)))).mono ?_
  rintro e v1 ⟨rfl, o1⟩
  refine hK'.out _ _ (hS.trans o1 (fun _ _ h => h)) (fun hS => ?_)
  clear hK' K' o1
  refine take_at (i := 62) 89 (v := .bool true) rfl rfl (by kernel_rfl) (by kernel_rfl) (by kernel_rfl) (fun _ _ _ h => h) (Or.inl ⟨by rfl, fun w' hw' => by go_simp⟩) hS ?_
  simp only [Act.put, List.setIfInBounds_toArray, List.set_cons_zero, List.set_cons_succ]
  refine take_at (i := 63) 10 (v := .bool true) rfl rfl (by kernel_rfl) (by kernel_rfl) (by kernel_rfl) (fun _ _ _ h => h) (Or.inl ⟨by rfl, fun w' hw' => by go_simp⟩) hS ?_
  simp only [Act.put, List.setIfInBounds_toArray, List.set_cons_zero, List.set_cons_succ]
  refine wpAnyH_done (by kernel_rfl) ?_ _
  go_wp2_with fail
  go_ret
  exact ⟨rfl, O.trans hS (fun _ _ h => h)⟩
end Go.Proofs.YtalcfkdmlebkbaaDoor
