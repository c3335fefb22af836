/- One way through VectorCovers. -/
import Derived.Test.YtalcfkdmlebkbaaDoorCovP
namespace Go.Proofs.YtalcfkdmlebkbaaDoor
open Go.RowKit

set_option maxRecDepth 100000 in
set_option maxHeartbeats 2000000 in
theorem covers_1D (a b : Nat → Int) (n N k : Int) (w : World) (ht : Tab w) (hr : ∀ j, j < 8 → -9223372036854775808 ≤ a j ∧ a j ≤ 9223372036854775807) (hc : coversB a n N = true) (n0 : 0 ≤ n) (n1 : n < 8) (n2 : 1 ≤ N) :
    Calls Tryd.prog 7 #[.agg #[.int .i64 (a 0), .int .i64 (a 1), .int .i64 (a 2), .int .i64 (a 3), .int .i64 (a 4), .int .i64 (a 5), .int .i64 (a 6), .int .i64 (a 7)], .agg #[.int .i64 (b 0), .int .i64 (b 1), .int .i64 (b 2), .int .i64 (b 3), .int .i64 (b 4), .int .i64 (b 5), .int .i64 (b 6), .int .i64 (b 7)], .agg #[.int .i64 n, .int .i64 N], .int .i64 k] w fun e w' => e = .returned (.bool true) ∧ Off (fun _ => False) w w' := by
  have hnot := not_any
  have HT : Hid (∀ w', Off (fun _ => False) w w' → Tab w') := fun w' h => ht.off h (fun _ _ h => h)
  clear ht
  go_enter Tryd.func7, Tryd.ntmps7
  go_wp2_with fail
  obtain ⟨W, hW⟩ : ∃ W, W = (((w.alloc (.cells #[.int .i64 (a 0), .int .i64 (a 1), .int .i64 (a 2), .int .i64 (a 3), .int .i64 (a 4), .int .i64 (a 5), .int .i64 (a 6), .int .i64 (a 7)] 23)).alloc (.cells #[.int .i64 (b 0), .int .i64 (b 1), .int .i64 (b 2), .int .i64 (b 3), .int .i64 (b 4), .int .i64 (b 5), .int .i64 (b 6), .int .i64 (b 7)] 23)).alloc (.cells #[.int .i64 n, .int .i64 N] 25)) := ⟨_, rfl⟩
  have O : Off (fun _ => False) w W := by rw [hW]; exact (((Off.refl _ w).alloc _).alloc _).alloc _
  have C0 : Cel (w.heap.size) 23 #[.int .i64 (a 0), .int .i64 (a 1), .int .i64 (a 2), .int .i64 (a 3), .int .i64 (a 4), .int .i64 (a 5), .int .i64 (a 6), .int .i64 (a 7)] W := by
    rw [hW]
    have h := Cel.new w 23 #[.int .i64 (a 0), .int .i64 (a 1), .int .i64 (a 2), .int .i64 (a 3), .int .i64 (a 4), .int .i64 (a 5), .int .i64 (a 6), .int .i64 (a 7)]
    exact (h.alloc _).alloc _
  have C1 : Cel (w.heap.size + 1) 23 #[.int .i64 (b 0), .int .i64 (b 1), .int .i64 (b 2), .int .i64 (b 3), .int .i64 (b 4), .int .i64 (b 5), .int .i64 (b 6), .int .i64 (b 7)] W := by
    rw [hW]
    have h := Cel.new (w.alloc (.cells #[.int .i64 (a 0), .int .i64 (a 1), .int .i64 (a 2), .int .i64 (a 3), .int .i64 (a 4), .int .i64 (a 5), .int .i64 (a 6), .int .i64 (a 7)] 23)) 23 #[.int .i64 (b 0), .int .i64 (b 1), .int .i64 (b 2), .int .i64 (b 3), .int .i64 (b 4), .int .i64 (b 5), .int .i64 (b 6), .int .i64 (b 7)]
    simp only [World.size_alloc] at h
    exact h.alloc _
  have C2 : Cel (w.heap.size + 1 + 1) 25 #[.int .i64 n, .int .i64 N] W := by
    rw [hW]
    have h := Cel.new ((w.alloc (.cells #[.int .i64 (a 0), .int .i64 (a 1), .int .i64 (a 2), .int .i64 (a 3), .int .i64 (a 4), .int .i64 (a 5), .int .i64 (a 6), .int .i64 (a 7)] 23)).alloc (.cells #[.int .i64 (b 0), .int .i64 (b 1), .int .i64 (b 2), .int .i64 (b 3), .int .i64 (b 4), .int .i64 (b 5), .int .i64 (b 6), .int .i64 (b 7)] 23)) 25 #[.int .i64 n, .int .i64 N]
    simp only [World.size_alloc] at h
    exact h
  rw [← hW]
  clear hW
  generalize hq2 : w.heap.size + 1 + 1 = q2 at C2 ⊢
  generalize hq1 : w.heap.size + 1 = q1 at C1 ⊢
  generalize hq0 : w.heap.size = q0 at C0 ⊢
  clear hq0 hq1 hq2
  have H0 : Hid _ := C0
  have H1 : Hid _ := C1
  have H2 : Hid _ := C2
  clear C0 C1 C2
  refine (join_any a b _).mono ?_
  rintro e v1 ⟨g, rfl, hg, o1⟩
  have HG : Hid _ := hg
  clear hg
  go_wp2_with fail
  obtain ⟨V, hV⟩ : ∃ V, V = v1.alloc (.cells #[.int .i64 (g 0), .int .i64 (g 1), .int .i64 (g 2), .int .i64 (g 3), .int .i64 (g 4), .int .i64 (g 5), .int .i64 (g 6), .int .i64 (g 7)] 23) := ⟨_, rfl⟩
  have D3 : Cel v1.heap.size 23 #[.int .i64 (g 0), .int .i64 (g 1), .int .i64 (g 2), .int .i64 (g 3), .int .i64 (g 4), .int .i64 (g 5), .int .i64 (g 6), .int .i64 (g 7)] V := by rw [hV]; exact Cel.new v1 _ _
  have oV : Off (fun _ => False) W V := by rw [hV]; exact o1.alloc _
  have D0 := H0.out.off oV (fun h => h)
  have D1 := H1.out.off oV (fun h => h)
  have D2 := H2.out.off oV (fun h => h)
  replace O := O.trans oV (fun _ _ h => h)
  clear H0 H1 H2
  have H0 : Hid _ := D0
  have H1 : Hid _ := D1
  have H2 : Hid _ := D2
  clear D0 D1 D2
  rw [← hV]
  clear hV o1 oV
  generalize v1.heap.size = q3 at D3 ⊢
  have H3 : Hid _ := D3
  clear D3
  have CJ := covers_join HG.out n N
  have C1 : Hid _ := hc
  have CG : Hid (coversB g n N = true) := (show coversB g n N = true by rw [CJ, hc]; rfl)
  clear hc CJ
  refine wp_region_held_drew (S := fun w' => Off (fun _ => False) V w') (by kernel_rfl) ((Off.refl _ V).drew) (fun hS => ?_)
  refine take_at (i := 0) 15 (v := .agg #[.int .i64 (g 0), .int .i64 (g 1), .int .i64 (g 2), .int .i64 (g 3), .int .i64 (g 4), .int .i64 (g 5), .int .i64 (g 6), .int .i64 (g 7)]) rfl rfl (by kernel_rfl) (by kernel_rfl) (by kernel_rfl) (fun _ _ _ h => h) (Or.inl ⟨by rfl, fun w' hw' => by obtain ⟨x0, x1, x2, x3, x4, x5, x6, x7⟩ := cel8 (H3.out.off hw' (fun h => h)); go_simp⟩) hS ?_
  simp only [Act.put, List.setIfInBounds_toArray, List.set_cons_zero, List.set_cons_succ]
  refine take_at (i := 1) 16 (v := .agg #[.int .i64 n, .int .i64 N]) rfl rfl (by kernel_rfl) (by kernel_rfl) (by kernel_rfl) (fun _ _ _ h => h) (Or.inl ⟨by rfl, fun w' hw' => by have x0 := (H2.out.off hw' (fun h => h)).cell 0; have x1 := (H2.out.off hw' (fun h => h)).cell 1; simp at x0 x1; go_simp⟩) hS ?_
  simp only [Act.put, List.setIfInBounds_toArray, List.set_cons_zero, List.set_cons_succ]
  refine take_at (i := 3) 18 (v := .agg #[.int .i64 (a 0), .int .i64 (a 1), .int .i64 (a 2), .int .i64 (a 3), .int .i64 (a 4), .int .i64 (a 5), .int .i64 (a 6), .int .i64 (a 7)]) rfl rfl (by kernel_rfl) (by kernel_rfl) (by kernel_rfl) (fun _ _ _ h => h) (Or.inl ⟨by rfl, fun w' hw' => by obtain ⟨x0, x1, x2, x3, x4, x5, x6, x7⟩ := cel8 (H0.out.off hw' (fun h => h)); go_simp⟩) hS ?_
  simp only [Act.put, List.setIfInBounds_toArray, List.set_cons_zero, List.set_cons_succ]
  refine take_at (i := 4) 19 (v := .agg #[.int .i64 n, .int .i64 N]) rfl rfl (by kernel_rfl) (by kernel_rfl) (by kernel_rfl) (fun _ _ _ h => h) (Or.inl ⟨by rfl, fun w' hw' => by have x0 := (H2.out.off hw' (fun h => h)).cell 0; have x1 := (H2.out.off hw' (fun h => h)).cell 1; simp at x0 x1; go_simp⟩) hS ?_
  simp only [Act.put, List.setIfInBounds_toArray, List.set_cons_zero, List.set_cons_succ]
  refine wpAnyH_ready (rs := [2]) (by kernel_rfl) (by simp) ?_
  refine AllReadyH.cons rfl (fun K' hK' => ?_) AllReadyH.nil
  go_simp
  refine (covers_any g n N _).mono ?_
  rw [CG.out]
  rintro e v1 ⟨rfl, o1⟩
  refine hK'.out _ _ (hS.trans o1 (fun _ _ h => h)) (fun hS => ?_)
  clear hK' K' o1
  refine wpAnyH_ready (rs := [5]) (by kernel_rfl) (by simp) ?_
  refine AllReadyH.cons rfl (fun K' hK' => ?_) AllReadyH.nil
  go_simp
  refine (covers_any a n N _).mono ?_
  rw [C1.out]
  rintro e v1 ⟨rfl, o1⟩
  refine hK'.out _ _ (hS.trans o1 (fun _ _ h => h)) (fun hS => ?_)
  clear hK' K' o1
  refine take_at (i := 6) 21 (v := .bool true) rfl rfl (by kernel_rfl) (by kernel_rfl) (by kernel_rfl) (fun _ _ _ h => h) (Or.inl ⟨by rfl, fun w' hw' => by go_simp⟩) hS ?_
  simp only [Act.put, List.setIfInBounds_toArray, List.set_cons_zero, List.set_cons_succ]
  refine take_at (i := 7) 22 (v := undef) rfl rfl (by kernel_rfl) (by kernel_rfl) (by kernel_rfl) (fun _ _ _ h => h) (Or.inr ⟨by rfl, rfl⟩) hS ?_
  simp only [Act.put, List.setIfInBounds_toArray, List.set_cons_zero, List.set_cons_succ]
  refine take_at (i := 8) 23 (v := undef) rfl rfl (by kernel_rfl) (by kernel_rfl) (by kernel_rfl) (fun _ _ _ h => h) (Or.inr ⟨by rfl, rfl⟩) hS ?_
  simp only [Act.put, List.setIfInBounds_toArray, List.set_cons_zero, List.set_cons_succ]
  refine take_at (i := 9) 24 (v := undef) rfl rfl (by kernel_rfl) (by kernel_rfl) (by kernel_rfl) (fun _ _ _ h => h) (Or.inr ⟨by rfl, rfl⟩) hS ?_
  simp only [Act.put, List.setIfInBounds_toArray, List.set_cons_zero, List.set_cons_succ]
  refine take_at (i := 10) 25 (v := .bool true) rfl rfl (by kernel_rfl) (by kernel_rfl) (by kernel_rfl) (fun _ _ _ h => h) (Or.inl ⟨by rfl, fun w' hw' => by go_simp⟩) hS ?_
  simp only [Act.put, List.setIfInBounds_toArray, List.set_cons_zero, List.set_cons_succ]
  refine take_at (i := 11) 26 (v := .bool false) rfl rfl (by kernel_rfl) (by kernel_rfl) (by kernel_rfl) (fun _ _ _ h => h) (Or.inl ⟨by rfl, fun w' hw' => by have e := eql_bool2 (true) (true); simp at e; go_simp⟩) hS ?_
  simp only [Act.put, List.setIfInBounds_toArray, List.set_cons_zero, List.set_cons_succ]
  refine wpAnyH_done (by kernel_rfl) ?_ _
  obtain ⟨X, hX, oX⟩ : ∃ X, X = _ ∧ Off (fun _ => False) V X := ⟨_, rfl, hS⟩
  rw [← hX]
  clear hX
  go_wp2_with fail
  have e0 : decide (0 ≤ n) = true := by simp; omega
  have e1 : decide (n < 8) = true := by simp; omega
  have e2 : decide (1 ≤ N) = true := by simp; omega
  have F2' := covers_with a ⟨n0, n1⟩ n2
  have F3' := leq_with a (N := N) ⟨n0, n1⟩
  have WT' := with_any a n N
  obtain ⟨h, hh⟩ : ∃ h, h = withV a n N := ⟨_, rfl⟩
  rw [← hh] at F2' F3' WT'
  have F2 : Hid _ := F2'
  have F3 : Hid _ := F3'
  have WT : Hid _ := WT'
  clear F2' F3' WT' hh
  refine wp_region_held_drew (S := fun w' => Off (fun _ => False) V w') (by kernel_rfl) oX.drew (fun hS => ?_)
  refine take_at (i := 0) 27 (v := .pointer (some ⟨q2, 0, none⟩)) rfl rfl (by kernel_rfl) (by kernel_rfl) (by kernel_rfl) (fun _ _ _ h => h) (Or.inl ⟨by rfl, fun w' hw' => by go_simp⟩) hS ?_
  simp only [Act.put, List.setIfInBounds_toArray, List.set_cons_zero, List.set_cons_succ]
  refine take_at (i := 1) 28 (v := .int .i64 n) rfl rfl (by kernel_rfl) (by kernel_rfl) (by kernel_rfl) (fun _ _ _ h => h) (Or.inl ⟨by rfl, fun w' hw' => by have x0 := (H2.out.off hw' (fun h => h)).cell 0; have x1 := (H2.out.off hw' (fun h => h)).cell 1; simp at x0 x1; go_simp⟩) hS ?_
  simp only [Act.put, List.setIfInBounds_toArray, List.set_cons_zero, List.set_cons_succ]
  refine take_at (i := 2) 29 (v := .bool true) rfl rfl (by kernel_rfl) (by kernel_rfl) (by kernel_rfl) (fun _ _ _ h => h) (Or.inl ⟨by rfl, fun w' hw' => by go_simp⟩) hS ?_
  simp only [Act.put, List.setIfInBounds_toArray, List.set_cons_zero, List.set_cons_succ]
  refine take_at (i := 3) 30 (v := .bool true) rfl rfl (by kernel_rfl) (by kernel_rfl) (by kernel_rfl) (fun _ _ _ h => h) (Or.inl ⟨by rfl, fun w' hw' => by go_simp⟩) hS ?_
  simp only [Act.put, List.setIfInBounds_toArray, List.set_cons_zero, List.set_cons_succ]
  refine take_at (i := 4) 31 (v := .pointer (some ⟨q2, 0, none⟩)) rfl rfl (by kernel_rfl) (by kernel_rfl) (by kernel_rfl) (fun _ _ _ h => h) (Or.inl ⟨by rfl, fun w' hw' => by go_simp⟩) hS ?_
  simp only [Act.put, List.setIfInBounds_toArray, List.set_cons_zero, List.set_cons_succ]
  refine take_at (i := 5) 32 (v := .int .i64 n) rfl rfl (by kernel_rfl) (by kernel_rfl) (by kernel_rfl) (fun _ _ _ h => h) (Or.inl ⟨by rfl, fun w' hw' => by have x0 := (H2.out.off hw' (fun h => h)).cell 0; have x1 := (H2.out.off hw' (fun h => h)).cell 1; simp at x0 x1; go_simp⟩) hS ?_
  simp only [Act.put, List.setIfInBounds_toArray, List.set_cons_zero, List.set_cons_succ]
  refine take_at (i := 6) 33 (v := .bool true) rfl rfl (by kernel_rfl) (by kernel_rfl) (by kernel_rfl) (fun _ _ _ h => h) (Or.inl ⟨by rfl, fun w' hw' => by go_simp⟩) hS ?_
  simp only [Act.put, List.setIfInBounds_toArray, List.set_cons_zero, List.set_cons_succ]
  refine take_at (i := 7) 34 (v := .bool true) rfl rfl (by kernel_rfl) (by kernel_rfl) (by kernel_rfl) (fun _ _ _ h => h) (Or.inl ⟨by rfl, fun w' hw' => by go_simp⟩) hS ?_
  simp only [Act.put, List.setIfInBounds_toArray, List.set_cons_zero, List.set_cons_succ]
  refine take_at (i := 8) 35 (v := .bool true) rfl rfl (by kernel_rfl) (by kernel_rfl) (by kernel_rfl) (fun _ _ _ h => h) (Or.inl ⟨by rfl, fun w' hw' => by go_simp⟩) hS ?_
  simp only [Act.put, List.setIfInBounds_toArray, List.set_cons_zero, List.set_cons_succ]
  refine take_at (i := 9) 36 (v := .pointer (some ⟨q2, 1, none⟩)) rfl rfl (by kernel_rfl) (by kernel_rfl) (by kernel_rfl) (fun _ _ _ h => h) (Or.inl ⟨by rfl, fun w' hw' => by go_simp⟩) hS ?_
  simp only [Act.put, List.setIfInBounds_toArray, List.set_cons_zero, List.set_cons_succ]
  refine take_at (i := 10) 37 (v := .int .i64 N) rfl rfl (by kernel_rfl) (by kernel_rfl) (by kernel_rfl) (fun _ _ _ h => h) (Or.inl ⟨by rfl, fun w' hw' => by have x0 := (H2.out.off hw' (fun h => h)).cell 0; have x1 := (H2.out.off hw' (fun h => h)).cell 1; simp at x0 x1; go_simp⟩) hS ?_
  simp only [Act.put, List.setIfInBounds_toArray, List.set_cons_zero, List.set_cons_succ]
  refine take_at (i := 11) 38 (v := .bool true) rfl rfl (by kernel_rfl) (by kernel_rfl) (by kernel_rfl) (fun _ _ _ h => h) (Or.inl ⟨by rfl, fun w' hw' => by go_simp⟩) hS ?_
  simp only [Act.put, List.setIfInBounds_toArray, List.set_cons_zero, List.set_cons_succ]
  refine take_at (i := 12) 39 (v := .bool true) rfl rfl (by kernel_rfl) (by kernel_rfl) (by kernel_rfl) (fun _ _ _ h => h) (Or.inl ⟨by rfl, fun w' hw' => by go_simp⟩) hS ?_
  simp only [Act.put, List.setIfInBounds_toArray, List.set_cons_zero, List.set_cons_succ]
  refine take_at (i := 13) 40 (v := .bool true) rfl rfl (by kernel_rfl) (by kernel_rfl) (by kernel_rfl) (fun _ _ _ h => h) (Or.inl ⟨by rfl, fun w' hw' => by go_simp⟩) hS ?_
  simp only [Act.put, List.setIfInBounds_toArray, List.set_cons_zero, List.set_cons_succ]
  refine take_at (i := 14) 41 (v := .agg #[.int .i64 (a 0), .int .i64 (a 1), .int .i64 (a 2), .int .i64 (a 3), .int .i64 (a 4), .int .i64 (a 5), .int .i64 (a 6), .int .i64 (a 7)]) rfl rfl (by kernel_rfl) (by kernel_rfl) (by kernel_rfl) (fun _ _ _ h => h) (Or.inl ⟨by rfl, fun w' hw' => by obtain ⟨x0, x1, x2, x3, x4, x5, x6, x7⟩ := cel8 (H0.out.off hw' (fun h => h)); go_simp⟩) hS ?_
  simp only [Act.put, List.setIfInBounds_toArray, List.set_cons_zero, List.set_cons_succ]
  refine take_at (i := 15) 42 (v := .agg #[.int .i64 n, .int .i64 N]) rfl rfl (by kernel_rfl) (by kernel_rfl) (by kernel_rfl) (fun _ _ _ h => h) (Or.inl ⟨by rfl, fun w' hw' => by have x0 := (H2.out.off hw' (fun h => h)).cell 0; have x1 := (H2.out.off hw' (fun h => h)).cell 1; simp at x0 x1; go_simp⟩) hS ?_
  simp only [Act.put, List.setIfInBounds_toArray, List.set_cons_zero, List.set_cons_succ]
  refine take_at (i := 17) 44 (v := .agg #[.int .i64 n, .int .i64 N]) rfl rfl (by kernel_rfl) (by kernel_rfl) (by kernel_rfl) (fun _ _ _ h => h) (Or.inl ⟨by rfl, fun w' hw' => by have x0 := (H2.out.off hw' (fun h => h)).cell 0; have x1 := (H2.out.off hw' (fun h => h)).cell 1; simp at x0 x1; go_simp⟩) hS ?_
  simp only [Act.put, List.setIfInBounds_toArray, List.set_cons_zero, List.set_cons_succ]
  refine wpAnyH_ready (rs := [16]) (by kernel_rfl) (by simp) ?_
  refine AllReadyH.cons rfl (fun K' hK' => ?_) AllReadyH.nil
  go_simp
  refine (WT.out _).mono ?_
  rintro e v1 ⟨rfl, o1⟩
  refine hK'.out _ _ (hS.trans o1 (fun _ _ h => h)) (fun hS => ?_)
  clear hK' K' o1
  refine wpAnyH_ready (rs := [18]) (by kernel_rfl) (by simp) ?_
  refine AllReadyH.cons rfl (fun K' hK' => ?_) AllReadyH.nil
  go_simp
  refine (covers_any h n N _).mono ?_
  rw [F2.out]
  rintro e v1 ⟨rfl, o1⟩
  refine hK'.out _ _ (hS.trans o1 (fun _ _ h => h)) (fun hS => ?_)
  clear hK' K' o1
  refine take_at (i := 19) 46 (v := .bool false) rfl rfl (by kernel_rfl) (by kernel_rfl) (by kernel_rfl) (fun _ _ _ h => h) (Or.inl ⟨by rfl, fun w' hw' => by go_simp⟩) hS ?_
  simp only [Act.put, List.setIfInBounds_toArray, List.set_cons_zero, List.set_cons_succ]
  refine take_at (i := 20) 47 (v := .bool false) rfl rfl (by kernel_rfl) (by kernel_rfl) (by kernel_rfl) (fun _ _ _ h => h) (Or.inl ⟨by rfl, fun w' hw' => by go_simp⟩) hS ?_
  simp only [Act.put, List.setIfInBounds_toArray, List.set_cons_zero, List.set_cons_succ]
  refine take_at (i := 21) 48 (v := .agg #[.int .i64 (a 0), .int .i64 (a 1), .int .i64 (a 2), .int .i64 (a 3), .int .i64 (a 4), .int .i64 (a 5), .int .i64 (a 6), .int .i64 (a 7)]) rfl rfl (by kernel_rfl) (by kernel_rfl) (by kernel_rfl) (fun _ _ _ h => h) (Or.inl ⟨by rfl, fun w' hw' => by obtain ⟨x0, x1, x2, x3, x4, x5, x6, x7⟩ := cel8 (H0.out.off hw' (fun h => h)); go_simp⟩) hS ?_
  simp only [Act.put, List.setIfInBounds_toArray, List.set_cons_zero, List.set_cons_succ]
  refine take_at (i := 22) 49 (v := .agg #[.int .i64 (a 0), .int .i64 (a 1), .int .i64 (a 2), .int .i64 (a 3), .int .i64 (a 4), .int .i64 (a 5), .int .i64 (a 6), .int .i64 (a 7)]) rfl rfl (by kernel_rfl) (by kernel_rfl) (by kernel_rfl) (fun _ _ _ h => h) (Or.inl ⟨by rfl, fun w' hw' => by obtain ⟨x0, x1, x2, x3, x4, x5, x6, x7⟩ := cel8 (H0.out.off hw' (fun h => h)); go_simp⟩) hS ?_
  simp only [Act.put, List.setIfInBounds_toArray, List.set_cons_zero, List.set_cons_succ]
  refine take_at (i := 23) 50 (v := .agg #[.int .i64 n, .int .i64 N]) rfl rfl (by kernel_rfl) (by kernel_rfl) (by kernel_rfl) (fun _ _ _ h => h) (Or.inl ⟨by rfl, fun w' hw' => by have x0 := (H2.out.off hw' (fun h => h)).cell 0; have x1 := (H2.out.off hw' (fun h => h)).cell 1; simp at x0 x1; go_simp⟩) hS ?_
  simp only [Act.put, List.setIfInBounds_toArray, List.set_cons_zero, List.set_cons_succ]
  refine wpAnyH_ready (rs := [24]) (by kernel_rfl) (by simp) ?_
  refine AllReadyH.cons rfl (fun K' hK' => ?_) AllReadyH.nil
  go_simp
  refine (WT.out _).mono ?_
  rintro e v1 ⟨rfl, o1⟩
  refine hK'.out _ _ (hS.trans o1 (fun _ _ h => h)) (fun hS => ?_)
  clear hK' K' o1
  refine wpAnyH_ready (rs := [25]) (by kernel_rfl) (by simp) ?_
  refine AllReadyH.cons rfl (fun K' hK' => ?_) AllReadyH.nil
  go_simp
  refine (leq_any a h _).mono ?_
  rw [F3.out]
  rintro e v1 ⟨rfl, o1⟩
  refine hK'.out _ _ (hS.trans o1 (fun _ _ h => h)) (fun hS => ?_)
  clear hK' K' o1
  refine take_at (i := 26) 53 (v := .bool false) rfl rfl (by kernel_rfl) (by kernel_rfl) (by kernel_rfl) (fun _ _ _ h => h) (Or.inl ⟨by rfl, fun w' hw' => by go_simp⟩) hS ?_
  simp only [Act.put, List.setIfInBounds_toArray, List.set_cons_zero, List.set_cons_succ]
  refine take_at (i := 27) 54 (v := .bool false) rfl rfl (by kernel_rfl) (by kernel_rfl) (by kernel_rfl) (fun _ _ _ h => h) (Or.inl ⟨by rfl, fun w' hw' => by go_simp⟩) hS ?_
  simp only [Act.put, List.setIfInBounds_toArray, List.set_cons_zero, List.set_cons_succ]
  refine take_at (i := 28) 55 (v := .bool false) rfl rfl (by kernel_rfl) (by kernel_rfl) (by kernel_rfl) (fun _ _ _ h => h) (Or.inl ⟨by rfl, fun w' hw' => by go_simp⟩) hS ?_
  simp only [Act.put, List.setIfInBounds_toArray, List.set_cons_zero, List.set_cons_succ]
  refine wpAnyH_done (by kernel_rfl) ?_ _
  obtain ⟨Y0, hY0, oY0⟩ : ∃ Y0, Y0 = _ ∧ Off (fun _ => False) V Y0 := ⟨_, rfl, hS⟩
  rw [← hY0]
  clear hY0
  have OY0 := O.trans oY0 (fun _ _ h => h)
  have A0 := H0.out.off oY0 (fun h => h)
  obtain ⟨c0, c1, c2, c3, c4, c5, c6, c7⟩ := cel8 A0
  go_wp2_with fail
  by_cases h0 : nodeB k = true
  · obtain ⟨m, hm, rfl⟩ : ∃ m : Nat, m < 8 ∧ k = (m : Int) := by
      simp only [nodeB, decide_eq_true_eq] at h0
      exact ⟨k.toNat, by omega, by omega⟩
    by_cases h1 : 1099511627776 ≤ a m
    · have nv : nextV a m = (0, 0, 11) := by simp [nextV, h0, h1]
      refine (next_any a (fun j hj => (hr j hj).1) m _).mono ?_
      rw [nv]
      rintro e v4 ⟨rfl, o4⟩
      have O4 := OY0.trans o4 (fun _ _ h => h)
      clear c0 c1 c2 c3 c4 c5 c6 c7
      clear nv
      have A1 := A0.off o4 (fun h => h)
      go_wp2_with fail
      refine (awake_any _ (HT.out _ (O4.alloc _))).mono ?_
      rintro e v8 ⟨rfl, o8⟩
      go_wp2_with fail
      go_ret
      exact ⟨rfl, (O4.alloc _).trans o8 (fun _ _ h => h)⟩
    · have nv : nextV a m = ((m : Int), a m + 1, 0) := by simp [nextV, h0, h1]
      refine (next_any a (fun j hj => (hr j hj).1) m _).mono ?_
      rw [nv]
      rintro e v4 ⟨rfl, o4⟩
      have O4 := OY0.trans o4 (fun _ _ h => h)
      clear c0 c1 c2 c3 c4 c5 c6 c7
      clear nv
      have A1 := A0.off o4 (fun h => h)
      obtain ⟨y, hy⟩ : ∃ y, y = a m + 1 := ⟨_, rfl⟩
      rw [← hy]
      have HY : Hid _ := hy
      clear hy
      obtain ⟨c0, c1, c2, c3, c4, c5, c6, c7⟩ := cel8 (A1.alloc (.cells #[.int .i64 (m : Int), .int .i64 y] 25))
      go_wp2_with fail
      clear c0 c1 c2 c3 c4 c5 c6 c7
      obtain ⟨Y, hY⟩ : ∃ Y, Y = v4.alloc (.cells #[.int .i64 (m : Int), .int .i64 y] 25) := ⟨_, rfl⟩
      have B1 : Cel v4.heap.size 25 #[.int .i64 (m : Int), .int .i64 y] Y := by rw [hY]; exact Cel.new v4 _ _
      have B0 : Cel q0 23 #[.int .i64 (a 0), .int .i64 (a 1), .int .i64 (a 2), .int .i64 (a 3), .int .i64 (a 4), .int .i64 (a 5), .int .i64 (a 6), .int .i64 (a 7)] Y := by rw [hY]; exact A1.alloc _
      have OY : Off (fun _ => False) w Y := by rw [hY]; exact O4.alloc _
      rw [← hY]
      clear hY A1 A0 O4 OY0 o4 oY0
      generalize v4.heap.size = q4 at B1 ⊢
      refine (may_any a _).mono ?_
      rintro e Z ⟨rfl, oZ⟩
      replace B0 := B0.off oZ (fun h => h)
      replace B1 := B1.off oZ (fun h => h)
      replace OY := OY.trans oZ (fun _ _ h => h)
      clear oZ
      by_cases hmay : mayB a = true
      · rw [hmay]
        have hall : ∀ j, j < 8 → 0 ≤ a j ∧ a j ≤ 1099511627776 := by simpa [mayB] using hmay
        clear hmay
        have hn : 0 ≤ (m : Int) ∧ (m : Int) < 8 := by omega
        have F1 : Hid (coversB a m y = false) := by
          show coversB a m y = false
          rw [HY.out]
          simp [coversB]
          omega
        have F2' := covers_with a hn (show 1 ≤ y by rw [HY.out]; have := hall m hm; omega)
        have F3' : mayB (withV a m y) = true := by
          simp only [mayB, decide_eq_true_eq]
          intro j hj
          rw [with_at a hn]
          have := hall j hj
          have := hall m hm
          have := HY.out
          split
          · simp; omega
          · omega
        have WT' := with_any a m y
        obtain ⟨h, hh⟩ : ∃ h, h = withV a m y := ⟨_, rfl⟩
        rw [← hh] at F2' F3' WT'
        have F2 : Hid _ := F2'
        have F3 : Hid _ := F3'
        have WT : Hid _ := WT'
        clear F2' F3' WT' hh hall hn h0 h1
        go_wp2_with fail
        have Y0 : Hid _ := B0
        have Y1 : Hid _ := B1
        clear B0 B1
        refine wp_region_held_drew (S := fun w' => Off (fun _ => False) Z w') (by kernel_rfl) ((Off.refl _ Z).drew) (fun hS => ?_)
        refine take_at (i := 0) 70 (v := .agg #[.int .i64 (a 0), .int .i64 (a 1), .int .i64 (a 2), .int .i64 (a 3), .int .i64 (a 4), .int .i64 (a 5), .int .i64 (a 6), .int .i64 (a 7)]) rfl rfl (by kernel_rfl) (by kernel_rfl) (by kernel_rfl) (fun _ _ _ h => h) (Or.inl ⟨by rfl, fun w' hw' => by obtain ⟨x0, x1, x2, x3, x4, x5, x6, x7⟩ := cel8 (Y0.out.off hw' (fun h => h)); go_simp⟩) hS ?_
        simp only [Act.put, List.setIfInBounds_toArray, List.set_cons_zero, List.set_cons_succ]
        refine take_at (i := 1) 71 (v := .agg #[.int .i64 (m : Int), .int .i64 y]) rfl rfl (by kernel_rfl) (by kernel_rfl) (by kernel_rfl) (fun _ _ _ h => h) (Or.inl ⟨by rfl, fun w' hw' => by have x0 := (Y1.out.off hw' (fun h => h)).cell 0; have x1 := (Y1.out.off hw' (fun h => h)).cell 1; simp at x0 x1; go_simp⟩) hS ?_
        simp only [Act.put, List.setIfInBounds_toArray, List.set_cons_zero, List.set_cons_succ]
        refine wpAnyH_ready (rs := [2]) (by kernel_rfl) (by simp) ?_
        refine AllReadyH.cons rfl (fun K' hK' => ?_) AllReadyH.nil
        go_simp
        refine (covers_any a m y _).mono ?_
        rw [F1.out]
        rintro e v1 ⟨rfl, o1⟩
        refine hK'.out _ _ (hS.trans o1 (fun _ _ h => h)) (fun hS => ?_)
        clear hK' K' o1
        refine take_at (i := 3) 73 (v := .bool true) rfl rfl (by kernel_rfl) (by kernel_rfl) (by kernel_rfl) (fun _ _ _ h => h) (Or.inl ⟨by rfl, fun w' hw' => by go_simp⟩) hS ?_
        simp only [Act.put, List.setIfInBounds_toArray, List.set_cons_zero, List.set_cons_succ]
        refine take_at (i := 4) 74 (v := .bool true) rfl rfl (by kernel_rfl) (by kernel_rfl) (by kernel_rfl) (fun _ _ _ h => h) (Or.inl ⟨by rfl, fun w' hw' => by go_simp⟩) hS ?_
        simp only [Act.put, List.setIfInBounds_toArray, List.set_cons_zero, List.set_cons_succ]
        refine take_at (i := 5) 75 (v := .agg #[.int .i64 (a 0), .int .i64 (a 1), .int .i64 (a 2), .int .i64 (a 3), .int .i64 (a 4), .int .i64 (a 5), .int .i64 (a 6), .int .i64 (a 7)]) rfl rfl (by kernel_rfl) (by kernel_rfl) (by kernel_rfl) (fun _ _ _ h => h) (Or.inl ⟨by rfl, fun w' hw' => by obtain ⟨x0, x1, x2, x3, x4, x5, x6, x7⟩ := cel8 (Y0.out.off hw' (fun h => h)); go_simp⟩) hS ?_
        simp only [Act.put, List.setIfInBounds_toArray, List.set_cons_zero, List.set_cons_succ]
        refine take_at (i := 6) 76 (v := .agg #[.int .i64 (m : Int), .int .i64 y]) rfl rfl (by kernel_rfl) (by kernel_rfl) (by kernel_rfl) (fun _ _ _ h => h) (Or.inl ⟨by rfl, fun w' hw' => by have x0 := (Y1.out.off hw' (fun h => h)).cell 0; have x1 := (Y1.out.off hw' (fun h => h)).cell 1; simp at x0 x1; go_simp⟩) hS ?_
        simp only [Act.put, List.setIfInBounds_toArray, List.set_cons_zero, List.set_cons_succ]
        refine take_at (i := 8) 78 (v := .agg #[.int .i64 (m : Int), .int .i64 y]) rfl rfl (by kernel_rfl) (by kernel_rfl) (by kernel_rfl) (fun _ _ _ h => h) (Or.inl ⟨by rfl, fun w' hw' => by have x0 := (Y1.out.off hw' (fun h => h)).cell 0; have x1 := (Y1.out.off hw' (fun h => h)).cell 1; simp at x0 x1; go_simp⟩) hS ?_
        simp only [Act.put, List.setIfInBounds_toArray, List.set_cons_zero, List.set_cons_succ]
        refine wpAnyH_ready (rs := [7]) (by kernel_rfl) (by simp) ?_
        refine AllReadyH.cons rfl (fun K' hK' => ?_) AllReadyH.nil
        go_simp
        refine (WT.out _).mono ?_
        rintro e v1 ⟨rfl, o1⟩
        refine hK'.out _ _ (hS.trans o1 (fun _ _ h => h)) (fun hS => ?_)
        clear hK' K' o1
        refine wpAnyH_ready (rs := [9]) (by kernel_rfl) (by simp) ?_
        refine AllReadyH.cons rfl (fun K' hK' => ?_) AllReadyH.nil
        go_simp
        refine (covers_any h m y _).mono ?_
        rw [F2.out]
        rintro e v1 ⟨rfl, o1⟩
        refine hK'.out _ _ (hS.trans o1 (fun _ _ h => h)) (fun hS => ?_)
        clear hK' K' o1
        refine take_at (i := 10) 80 (v := .bool true) rfl rfl (by kernel_rfl) (by kernel_rfl) (by kernel_rfl) (fun _ _ _ h => h) (Or.inl ⟨by rfl, fun w' hw' => by go_simp⟩) hS ?_
        simp only [Act.put, List.setIfInBounds_toArray, List.set_cons_zero, List.set_cons_succ]
        refine take_at (i := 11) 81 (v := .bool true) rfl rfl (by kernel_rfl) (by kernel_rfl) (by kernel_rfl) (fun _ _ _ h => h) (Or.inl ⟨by rfl, fun w' hw' => by go_simp⟩) hS ?_
        simp only [Act.put, List.setIfInBounds_toArray, List.set_cons_zero, List.set_cons_succ]
        refine take_at (i := 12) 82 (v := .agg #[.int .i64 (a 0), .int .i64 (a 1), .int .i64 (a 2), .int .i64 (a 3), .int .i64 (a 4), .int .i64 (a 5), .int .i64 (a 6), .int .i64 (a 7)]) rfl rfl (by kernel_rfl) (by kernel_rfl) (by kernel_rfl) (fun _ _ _ h => h) (Or.inl ⟨by rfl, fun w' hw' => by obtain ⟨x0, x1, x2, x3, x4, x5, x6, x7⟩ := cel8 (Y0.out.off hw' (fun h => h)); go_simp⟩) hS ?_
        simp only [Act.put, List.setIfInBounds_toArray, List.set_cons_zero, List.set_cons_succ]
        refine take_at (i := 13) 83 (v := .agg #[.int .i64 (m : Int), .int .i64 y]) rfl rfl (by kernel_rfl) (by kernel_rfl) (by kernel_rfl) (fun _ _ _ h => h) (Or.inl ⟨by rfl, fun w' hw' => by have x0 := (Y1.out.off hw' (fun h => h)).cell 0; have x1 := (Y1.out.off hw' (fun h => h)).cell 1; simp at x0 x1; go_simp⟩) hS ?_
        simp only [Act.put, List.setIfInBounds_toArray, List.set_cons_zero, List.set_cons_succ]
        refine wpAnyH_ready (rs := [14]) (by kernel_rfl) (by simp) ?_
        refine AllReadyH.cons rfl (fun K' hK' => ?_) AllReadyH.nil
        go_simp
        refine (WT.out _).mono ?_
        rintro e v1 ⟨rfl, o1⟩
        refine hK'.out _ _ (hS.trans o1 (fun _ _ h => h)) (fun hS => ?_)
        clear hK' K' o1
        refine wpAnyH_ready (rs := [15]) (by kernel_rfl) (by simp) ?_
        refine AllReadyH.cons rfl (fun K' hK' => ?_) AllReadyH.nil
        go_simp
        refine (may_any h _).mono ?_
        rw [F3.out]
        rintro e v1 ⟨rfl, o1⟩
        refine hK'.out _ _ (hS.trans o1 (fun _ _ h => h)) (fun hS => ?_)
        clear hK' K' o1
        refine take_at (i := 16) 86 (v := .bool true) rfl rfl (by kernel_rfl) (by kernel_rfl) (by kernel_rfl) (fun _ _ _ h => h) (Or.inl ⟨by rfl, fun w' hw' => by go_simp⟩) hS ?_
        simp only [Act.put, List.setIfInBounds_toArray, List.set_cons_zero, List.set_cons_succ]
        refine take_at (i := 17) 87 (v := .bool true) rfl rfl (by kernel_rfl) (by kernel_rfl) (by kernel_rfl) (fun _ _ _ h => h) (Or.inl ⟨by rfl, fun w' hw' => by go_simp⟩) hS ?_
        simp only [Act.put, List.setIfInBounds_toArray, List.set_cons_zero, List.set_cons_succ]
        refine wpAnyH_ready (rs := [18]) (by kernel_rfl) (by simp) ?_
        refine AllReadyH.cons rfl (fun K' hK' => ?_) AllReadyH.nil
        go_simp
        refine (awake_any _ (HT.out _ (OY.trans hS (fun _ _ h => h)))).mono ?_
        rintro e v1 ⟨rfl, o1⟩
        refine hK'.out _ _ (hS.trans o1 (fun _ _ h => h)) (fun hS => ?_)
        clear hK' K' o1
        refine take_at (i := 19) 89 (v := .bool true) rfl rfl (by kernel_rfl) (by kernel_rfl) (by kernel_rfl) (fun _ _ _ h => h) (Or.inl ⟨by rfl, fun w' hw' => by go_simp⟩) hS ?_
        simp only [Act.put, List.setIfInBounds_toArray, List.set_cons_zero, List.set_cons_succ]
        refine take_at (i := 20) 8 (v := .bool true) rfl rfl (by kernel_rfl) (by kernel_rfl) (by kernel_rfl) (fun _ _ _ h => h) (Or.inl ⟨by rfl, fun w' hw' => by go_simp⟩) hS ?_
        simp only [Act.put, List.setIfInBounds_toArray, List.set_cons_zero, List.set_cons_succ]
        refine wpAnyH_done (by kernel_rfl) ?_ _
        go_wp2_with fail
        go_ret
        exact ⟨rfl, OY.trans hS (fun _ _ h => h)⟩
      · have hmay : mayB a = false := by simpa using hmay
        rw [hmay]
        go_wp2_with fail
        refine (awake_any _ (HT.out _ OY)).mono ?_
        rintro e v8 ⟨rfl, o8⟩
        go_wp2_with fail
        go_ret
        exact ⟨rfl, OY.trans o8 (fun _ _ h => h)⟩
  · have h0 : nodeB k = false := by simpa using h0
    have nv : nextV a k = (0, 0, 1) := by simp [nextV, h0]
    refine (next_any a (fun j hj => (hr j hj).1) k _).mono ?_
    rw [nv]
    rintro e v4 ⟨rfl, o4⟩
    have O4 := OY0.trans o4 (fun _ _ h => h)
    clear c0 c1 c2 c3 c4 c5 c6 c7
    clear nv
    go_wp2_with fail
    refine (awake_any _ (HT.out _ (O4.alloc _))).mono ?_
    rintro e v8 ⟨rfl, o8⟩
    go_wp2_with fail
    go_ret
    exact ⟨rfl, (O4.alloc _).trans o8 (fun _ _ h => h)⟩
end Go.Proofs.YtalcfkdmlebkbaaDoor
