/- VectorTexts. -/
import Derived.Test.YtalcfkdmlebkbaaDoorFParse
namespace Go.Proofs.YtalcfkdmlebkbaaDoor
open Go.RowKit

theorem eq_of {f g : Nat → Int} (h : ∀ j, j < 8 → f j = g j) : eqB f g = true := by simpa [eqB] using h
theorem eql_bool (x : Bool) (W : World) : (binOp .eql 4 (.bool x) (.bool x)).run Tryd.prog W = .ok (.bool true) W := by cases x <;> go_simp
set_option maxRecDepth 100000 in
set_option maxHeartbeats 1000000 in
theorem texts_list (f : Nat → Int) (l : List UInt8) (w : World) (ht : Tab w) (he : Errs w) (hr : ∀ j, j < 8 → -9223372036854775808 ≤ f j ∧ f j ≤ 9223372036854775807) (hl : l.length ≤ 140737488351232) :
    Calls Tryd.prog 5 #[.agg #[.int .i64 (f 0), .int .i64 (f 1), .int .i64 (f 2), .int .i64 (f 3), .int .i64 (f 4), .int .i64 (f 5), .int .i64 (f 6), .int .i64 (f 7)], .string ⟨l.toArray⟩] w fun e w' => e = .returned (.bool true) ∧ Off (fun _ => False) w w' := by
  have HT : Hid (∀ w', Off (fun _ => False) w w' → Tab w') := fun w' h => ht.off h (fun _ _ h => h)
  have HE : Hid (∀ w', Off (fun _ => False) w w' → Errs w') := fun w' h => he.off h (fun _ _ h => h)
  have HRG : Hid _ := hr
  clear ht he hr
  go_enter Tryd.func5, Tryd.ntmps5
  go_wp2_with fail
  obtain ⟨W, hW⟩ : ∃ W, W = (w.alloc (.cells #[.int .i64 (f 0), .int .i64 (f 1), .int .i64 (f 2), .int .i64 (f 3), .int .i64 (f 4), .int .i64 (f 5), .int .i64 (f 6), .int .i64 (f 7)] 23)) := ⟨_, rfl⟩
  have O : Off (fun _ => False) w W := by rw [hW]; exact (Off.refl _ w).alloc _
  have C0 : Cel (w.heap.size) 23 #[.int .i64 (f 0), .int .i64 (f 1), .int .i64 (f 2), .int .i64 (f 3), .int .i64 (f 4), .int .i64 (f 5), .int .i64 (f 6), .int .i64 (f 7)] W := by
    rw [hW]
    have h := Cel.new w 23 #[.int .i64 (f 0), .int .i64 (f 1), .int .i64 (f 2), .int .i64 (f 3), .int .i64 (f 4), .int .i64 (f 5), .int .i64 (f 6), .int .i64 (f 7)]
    exact h
  rw [← hW]
  clear hW
  generalize hq0 : w.heap.size = q0 at C0 ⊢
  clear hq0
  have H0 : Hid _ := C0
  clear C0
  refine (parse_any l hl W (HT.out _ O) (HE.out _ O)).mono ?_
  rintro e v1 ⟨o1, g1, ok1, rfl, told1⟩
  have TD1 : Hid _ := told1
  clear told1
  go_wp2_with fail
  obtain ⟨V1, hV1⟩ : ∃ V1, V1 = v1.alloc (.cells #[.int .i64 (g1 0), .int .i64 (g1 1), .int .i64 (g1 2), .int .i64 (g1 3), .int .i64 (g1 4), .int .i64 (g1 5), .int .i64 (g1 6), .int .i64 (g1 7)] 23) := ⟨_, rfl⟩
  have oo : Off (fun _ => False) W V1 := by rw [hV1]; exact o1.alloc _
  have G1 : Cel v1.heap.size 23 #[.int .i64 (g1 0), .int .i64 (g1 1), .int .i64 (g1 2), .int .i64 (g1 3), .int .i64 (g1 4), .int .i64 (g1 5), .int .i64 (g1 6), .int .i64 (g1 7)] V1 := by rw [hV1]; exact Cel.new v1 _ _
  rw [← hV1]
  clear hV1 o1
  generalize v1.heap.size = q1 at G1 ⊢
  have A1 := H0.out.off oo (fun h => h)
  have O1 := O.trans oo (fun _ _ h => h)
  clear H0 O oo
  refine (fparse_any l hl V1 (HT.out _ O1)).mono ?_
  rintro e v2 ⟨o2, g2, ok2, rfl, told2⟩
  obtain ⟨eok, eg⟩ := TD1.out.eq told2
  subst eok
  have EG : Hid _ := eg
  clear eg told2 TD1
  go_wp2_with fail
  obtain ⟨V, hV⟩ : ∃ V, V = v2.alloc (.cells #[.int .i64 (g2 0), .int .i64 (g2 1), .int .i64 (g2 2), .int .i64 (g2 3), .int .i64 (g2 4), .int .i64 (g2 5), .int .i64 (g2 6), .int .i64 (g2 7)] 23) := ⟨_, rfl⟩
  have oo : Off (fun _ => False) V1 V := by rw [hV]; exact o2.alloc _
  have G2 : Cel v2.heap.size 23 #[.int .i64 (g2 0), .int .i64 (g2 1), .int .i64 (g2 2), .int .i64 (g2 3), .int .i64 (g2 4), .int .i64 (g2 5), .int .i64 (g2 6), .int .i64 (g2 7)] V := by rw [hV]; exact Cel.new v2 _ _
  rw [← hV]
  clear hV o2
  generalize v2.heap.size = q2 at G2 ⊢
  have H0 : Hid (Cel q0 23 #[.int .i64 (f 0), .int .i64 (f 1), .int .i64 (f 2), .int .i64 (f 3), .int .i64 (f 4), .int .i64 (f 5), .int .i64 (f 6), .int .i64 (f 7)] V) := A1.off oo (fun h => h)
  have H1 : Hid (Cel q1 23 #[.int .i64 (g1 0), .int .i64 (g1 1), .int .i64 (g1 2), .int .i64 (g1 3), .int .i64 (g1 4), .int .i64 (g1 5), .int .i64 (g1 6), .int .i64 (g1 7)] V) := G1.off oo (fun h => h)
  have H2 : Hid (Cel q2 23 #[.int .i64 (g2 0), .int .i64 (g2 1), .int .i64 (g2 2), .int .i64 (g2 3), .int .i64 (g2 4), .int .i64 (g2 5), .int .i64 (g2 6), .int .i64 (g2 7)] V) := G2
  have O := O1.trans oo (fun _ _ h => h)
  clear A1 G1 G2 O1 oo
  have TX := text_any f HRG.out
  have FX := ftext_any f HRG.out
  obtain ⟨tx, htx⟩ : ∃ tx, tx = textV f := ⟨_, rfl⟩
  rw [← htx] at TX FX
  have HTX : Hid _ := TX
  have HFX : Hid _ := FX
  clear htx TX FX
  have etx : (tx == tx) = true := by simp
  refine wp_region_held_drew (S := fun w' => Off (fun _ => False) V w') (by kernel_rfl) ((Off.refl _ V).drew) (fun hS => ?_)
  refine take_at (i := 0) 19 (v := .agg #[.int .i64 (f 0), .int .i64 (f 1), .int .i64 (f 2), .int .i64 (f 3), .int .i64 (f 4), .int .i64 (f 5), .int .i64 (f 6), .int .i64 (f 7)]) rfl rfl (by kernel_rfl) (by kernel_rfl) (by kernel_rfl) (fun _ _ _ h => h) (Or.inl ⟨by rfl, fun w' hw' => by obtain ⟨x0, x1, x2, x3, x4, x5, x6, x7⟩ := cel8 (H0.out.off hw' (fun h => h)); go_simp⟩) hS ?_
  simp only [Act.put, List.setIfInBounds_toArray, List.set_cons_zero, List.set_cons_succ]
  refine take_at (i := 2) 21 (v := .agg #[.int .i64 (f 0), .int .i64 (f 1), .int .i64 (f 2), .int .i64 (f 3), .int .i64 (f 4), .int .i64 (f 5), .int .i64 (f 6), .int .i64 (f 7)]) rfl rfl (by kernel_rfl) (by kernel_rfl) (by kernel_rfl) (fun _ _ _ h => h) (Or.inl ⟨by rfl, fun w' hw' => by obtain ⟨x0, x1, x2, x3, x4, x5, x6, x7⟩ := cel8 (H0.out.off hw' (fun h => h)); go_simp⟩) hS ?_
  simp only [Act.put, List.setIfInBounds_toArray, List.set_cons_zero, List.set_cons_succ]
  refine wpAnyH_ready (rs := [1]) (by kernel_rfl) (by simp) ?_
  refine AllReadyH.cons rfl (fun K' hK' => ?_) AllReadyH.nil
  go_simp
  refine Calls.mono (HTX.out _ (HT.out _ (O.trans hS (fun _ _ h => h)))) ?_
  rintro e v1 ⟨rfl, o1⟩
  refine hK'.out _ _ (hS.trans o1 (fun _ _ h => h)) (fun hS => ?_)
  clear hK' K' o1
  refine wpAnyH_ready (rs := [3]) (by kernel_rfl) (by simp) ?_
  refine AllReadyH.cons rfl (fun K' hK' => ?_) AllReadyH.nil
  go_simp
  refine Calls.mono (HFX.out _ (HT.out _ (O.trans hS (fun _ _ h => h)))) ?_
  rintro e v1 ⟨rfl, o1⟩
  refine hK'.out _ _ (hS.trans o1 (fun _ _ h => h)) (fun hS => ?_)
  clear hK' K' o1
  refine take_at (i := 4) 23 (v := .bool true) rfl rfl (by kernel_rfl) (by kernel_rfl) (by kernel_rfl) (fun _ _ _ h => h) (Or.inl ⟨by rfl, fun w' hw' => by go_simp⟩) hS ?_
  simp only [Act.put, List.setIfInBounds_toArray, List.set_cons_zero, List.set_cons_succ]
  refine take_at (i := 5) 24 (v := .bool true) rfl rfl (by kernel_rfl) (by kernel_rfl) (by kernel_rfl) (fun _ _ _ h => h) (Or.inl ⟨by rfl, fun w' hw' => by go_simp⟩) hS ?_
  simp only [Act.put, List.setIfInBounds_toArray, List.set_cons_zero, List.set_cons_succ]
  refine take_at (i := 6) 25 (v := .agg #[.int .i64 (g1 0), .int .i64 (g1 1), .int .i64 (g1 2), .int .i64 (g1 3), .int .i64 (g1 4), .int .i64 (g1 5), .int .i64 (g1 6), .int .i64 (g1 7)]) rfl rfl (by kernel_rfl) (by kernel_rfl) (by kernel_rfl) (fun _ _ _ h => h) (Or.inl ⟨by rfl, fun w' hw' => by obtain ⟨x0, x1, x2, x3, x4, x5, x6, x7⟩ := cel8 (H1.out.off hw' (fun h => h)); go_simp⟩) hS ?_
  simp only [Act.put, List.setIfInBounds_toArray, List.set_cons_zero, List.set_cons_succ]
  refine take_at (i := 7) 26 (v := .agg #[.int .i64 (g2 0), .int .i64 (g2 1), .int .i64 (g2 2), .int .i64 (g2 3), .int .i64 (g2 4), .int .i64 (g2 5), .int .i64 (g2 6), .int .i64 (g2 7)]) rfl rfl (by kernel_rfl) (by kernel_rfl) (by kernel_rfl) (fun _ _ _ h => h) (Or.inl ⟨by rfl, fun w' hw' => by obtain ⟨x0, x1, x2, x3, x4, x5, x6, x7⟩ := cel8 (H2.out.off hw' (fun h => h)); go_simp⟩) hS ?_
  simp only [Act.put, List.setIfInBounds_toArray, List.set_cons_zero, List.set_cons_succ]
  refine take_at (i := 8) 27 (v := .bool true) rfl rfl (by kernel_rfl) (by kernel_rfl) (by kernel_rfl) (fun _ _ _ h => h) (Or.inl ⟨by rfl, fun w' hw' => by have e := eql_vec g1 g2; rw [eq_of EG.out] at e; go_simp⟩) hS ?_
  simp only [Act.put, List.setIfInBounds_toArray, List.set_cons_zero, List.set_cons_succ]
  refine take_at (i := 9) 28 (v := .bool true) rfl rfl (by kernel_rfl) (by kernel_rfl) (by kernel_rfl) (fun _ _ _ h => h) (Or.inl ⟨by rfl, fun w' hw' => by go_simp⟩) hS ?_
  simp only [Act.put, List.setIfInBounds_toArray, List.set_cons_zero, List.set_cons_succ]
  refine take_at (i := 10) 29 (v := .bool true) rfl rfl (by kernel_rfl) (by kernel_rfl) (by kernel_rfl) (fun _ _ _ h => h) (Or.inl ⟨by rfl, fun w' hw' => by go_simp⟩) hS ?_
  simp only [Act.put, List.setIfInBounds_toArray, List.set_cons_zero, List.set_cons_succ]
  refine take_at (i := 11) 30 (v := .bool ok1) rfl rfl (by kernel_rfl) (by kernel_rfl) (by kernel_rfl) (fun _ _ _ h => h) (Or.inl ⟨by rfl, fun w' hw' => by go_simp⟩) hS ?_
  simp only [Act.put, List.setIfInBounds_toArray, List.set_cons_zero, List.set_cons_succ]
  refine take_at (i := 12) 31 (v := .bool ok1) rfl rfl (by kernel_rfl) (by kernel_rfl) (by kernel_rfl) (fun _ _ _ h => h) (Or.inl ⟨by rfl, fun w' hw' => by go_simp⟩) hS ?_
  simp only [Act.put, List.setIfInBounds_toArray, List.set_cons_zero, List.set_cons_succ]
  refine take_at (i := 13) 32 (v := .bool true) rfl rfl (by kernel_rfl) (by kernel_rfl) (by kernel_rfl) (fun _ _ _ h => h) (Or.inl ⟨by rfl, fun w' hw' => by have e := eql_bool ok1; go_simp⟩) hS ?_
  simp only [Act.put, List.setIfInBounds_toArray, List.set_cons_zero, List.set_cons_succ]
  refine take_at (i := 14) 33 (v := .bool true) rfl rfl (by kernel_rfl) (by kernel_rfl) (by kernel_rfl) (fun _ _ _ h => h) (Or.inl ⟨by rfl, fun w' hw' => by go_simp⟩) hS ?_
  simp only [Act.put, List.setIfInBounds_toArray, List.set_cons_zero, List.set_cons_succ]
  refine take_at (i := 15) 34 (v := .bool true) rfl rfl (by kernel_rfl) (by kernel_rfl) (by kernel_rfl) (fun _ _ _ h => h) (Or.inl ⟨by rfl, fun w' hw' => by go_simp⟩) hS ?_
  simp only [Act.put, List.setIfInBounds_toArray, List.set_cons_zero, List.set_cons_succ]
  refine wpAnyH_ready (rs := [16]) (by kernel_rfl) (by simp) ?_
  refine AllReadyH.cons rfl (fun K' hK' => ?_) AllReadyH.nil
  go_simp
  refine (awake_any _ (HT.out _ (O.trans hS (fun _ _ h => h)))).mono ?_
  rintro e v1 ⟨rfl, o1⟩
  refine hK'.out _ _ (hS.trans o1 (fun _ _ h => h)) (fun hS => ?_)
  clear hK' K' o1
  refine take_at (i := 17) 36 (v := .bool true) rfl rfl (by kernel_rfl) (by kernel_rfl) (by kernel_rfl) (fun _ _ _ h => h) (Or.inl ⟨by rfl, fun w' hw' => by go_simp⟩) hS ?_
  simp only [Act.put, List.setIfInBounds_toArray, List.set_cons_zero, List.set_cons_succ]
  refine take_at (i := 18) 4 (v := .bool true) rfl rfl (by kernel_rfl) (by kernel_rfl) (by kernel_rfl) (fun _ _ _ h => h) (Or.inl ⟨by rfl, fun w' hw' => by go_simp⟩) hS ?_
  simp only [Act.put, List.setIfInBounds_toArray, List.set_cons_zero, List.set_cons_succ]
  refine wpAnyH_done (by kernel_rfl) ?_ _
  go_wp2_with fail
  go_ret
  exact ⟨rfl, O.trans hS (fun _ _ h => h)⟩
theorem texts_walk (f : Nat → Int) (s : ByteArray) (w : World) (ht : Tab w) (he : Errs w) (hr : ∀ j, j < 8 → -9223372036854775808 ≤ f j ∧ f j ≤ 9223372036854775807) (hs : s.size ≤ 140737488351232) :
    Calls Tryd.prog 5 #[.agg #[.int .i64 (f 0), .int .i64 (f 1), .int .i64 (f 2), .int .i64 (f 3), .int .i64 (f 4), .int .i64 (f 5), .int .i64 (f 6), .int .i64 (f 7)], .string s] w fun e w' => e = .returned (.bool true) ∧ Off (fun _ => False) w w' := by
  obtain ⟨⟨l⟩⟩ := s
  exact texts_list f l w ht he hr (by simpa [ByteArray.size] using hs)
end Go.Proofs.YtalcfkdmlebkbaaDoor
