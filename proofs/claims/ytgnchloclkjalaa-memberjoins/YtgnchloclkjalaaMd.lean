/- MemberJoins, MemberRefutes. -/
import Derived.Test.YtgnchloclkjalaaMc
namespace Go.Proofs.Ytgnchloclkjalaa
set_option maxRecDepth 100000
open Go.RowKit

set_option maxHeartbeats 2000000 in
theorem joins_walk (s i t j : Int) (w : World) : Calls Try.prog 3 #[.agg #[.int .i64 s, .int .i64 i], .agg #[.int .i64 t, .int .i64 j]] w fun e w' => e = .returned (.bool true) ∧ Off (fun _ => False) w w' := by
  obtain ⟨a, b, x, y, z, HM, HN, HJ, HR, HL, HF, HG⟩ : ∃ (a b x y : Int) (z : Bool), Hid (∀ W, Calls Try.prog 10 #[.agg #[.int .i64 s, .int .i64 i]] W fun e w' => e = .returned (.bool (mayB s i)) ∧ Off (fun _ => False) W w') ∧ Hid (∀ W, Calls Try.prog 11 #[.agg #[.int .i64 s, .int .i64 i]] W fun e w' => e = .returned (.bool (mayB s i)) ∧ Off (fun _ => False) W w') ∧ Hid (∀ W, Calls Try.prog 12 #[.agg #[.int .i64 s, .int .i64 i], .agg #[.int .i64 t, .int .i64 j]] W fun e w' => e = .returned (.agg #[.int .i64 a, .int .i64 b]) ∧ Off (fun _ => False) W w') ∧ Hid (∀ W, Calls Try.prog 13 #[.agg #[.int .i64 s, .int .i64 i], .agg #[.int .i64 t, .int .i64 j]] W fun e w' => e = .returned (.agg #[.int .i64 a, .int .i64 b]) ∧ Off (fun _ => False) W w') ∧ Hid (∀ W, Calls Try.prog 14 #[.agg #[.int .i64 s, .int .i64 i], .agg #[.int .i64 t, .int .i64 j]] W fun e w' => e = .returned (.bool (eqM a b t j)) ∧ Off (fun _ => False) W w') ∧ Hid (∀ W, Calls Try.prog 8 #[.agg #[.int .i64 s, .int .i64 i], .agg #[.int .i64 t, .int .i64 j]] W fun e w' => e = .returned (.tuple #[.agg #[.int .i64 x, .int .i64 y], .bool z]) ∧ Off (fun _ => False) W w') ∧ Hid (∀ W, Calls Try.prog 9 #[.agg #[.int .i64 s, .int .i64 i], .agg #[.int .i64 t, .int .i64 j]] W fun e w' => e = .returned (.tuple #[.agg #[.int .i64 x, .int .i64 y], .bool z]) ∧ Off (fun _ => False) W w') :=
    ⟨jS s i t j, jI s i t j, rfS s i t j, rfI s i t j, rfB s i t j, fun W => may_any _ _ W, fun W => rmay_any _ _ W, fun W => join_any _ _ _ _ W, fun W => rjoin_any _ _ _ _ W, fun W => leq_any _ _ _ _ W, fun W => refute_any _ _ _ _ W, fun W => rrefute_any _ _ _ _ W⟩
  generalize mayB s i = m at HM HN
  have HK : Hid (∀ W, Calls Try.prog 15 #[] W fun e w' => e = .returned (.bool true) ∧ Off (fun _ => False) W w') := fun W => awake_any W
  go_enter Try.func3, Try.ntmps3
  go_wp2_with fail
  generalize hW : (w.alloc (.cells #[.int .i64 s, .int .i64 i] 23)).alloc (.cells #[.int .i64 t, .int .i64 j] 23) = W
  have HO : Hid (Off (fun _ => False) w W) := by show Off _ _ _; rw [← hW]; exact ((Off.refl _ w).alloc _).alloc _
  have HA : Hid (Cel w.heap.size 23 #[.int .i64 s, .int .i64 i] W) := by show Cel _ _ _ _; rw [← hW]; exact (Cel.new w _ _).alloc _
  have HB : Hid (Cel (w.heap.size + 1) 23 #[.int .i64 t, .int .i64 j] W) := by show Cel _ _ _ _; rw [← hW]; exact Cel.new1 w _ _ _
  clear hW
  refine (HF.out _).mono ?_
  rintro e w1 ⟨rfl, o1⟩
  have P1 : Hid (Off (fun _ => False) W w1) := o1
  clear o1
  have q00 := (HA.out.off P1.out (fun h => h)).cell 0
  have q01 := (HA.out.off P1.out (fun h => h)).cell 1
  have q10 := (HB.out.off P1.out (fun h => h)).cell 0
  have q11 := (HB.out.off P1.out (fun h => h)).cell 1
  simp at q00 q01 q10 q11
  have A1 : Off (fun _ => False) W (w1.alloc (.cells #[.int .i64 x, .int .i64 y] 23)) := P1.out.alloc _
  have r00 : (w1.alloc (.cells #[.int .i64 x, .int .i64 y] 23)).cell? ⟨w.heap.size, 0, none⟩ = some (.int .i64 s) := (HA.out.off A1 (fun h => h)).cell 0
  have r01 : (w1.alloc (.cells #[.int .i64 x, .int .i64 y] 23)).cell? ⟨w.heap.size, 1, none⟩ = some (.int .i64 i) := (HA.out.off A1 (fun h => h)).cell 1
  have r10 : (w1.alloc (.cells #[.int .i64 x, .int .i64 y] 23)).cell? ⟨w.heap.size + 1, 0, none⟩ = some (.int .i64 t) := (HB.out.off A1 (fun h => h)).cell 0
  have r11 : (w1.alloc (.cells #[.int .i64 x, .int .i64 y] 23)).cell? ⟨w.heap.size + 1, 1, none⟩ = some (.int .i64 j) := (HB.out.off A1 (fun h => h)).cell 1
  have l0 : w.heap.size < w1.heap.size := (HA.out.off P1.out (fun h => h)).lt
  have l1 : w.heap.size + 1 < w1.heap.size := (HB.out.off P1.out (fun h => h)).lt
  clear A1
  go_wp2_with fail
  clear r00 r01 r10 r11
  generalize hV : w1.alloc (.cells #[.int .i64 x, .int .i64 y] 23) = V
  have P2 : Hid (Off (fun _ => False) W V) := by show Off _ _ _; rw [← hV]; exact P1.out.alloc _
  have HX : Hid (Cel (w1.heap.size) 23 #[.int .i64 x, .int .i64 y] V) := by show Cel _ _ _ _; rw [← hV]; exact Cel.new w1 _ _
  clear hV q00 q01 q10 q11
  refine (HG.out _).mono ?_
  rintro e w2 ⟨rfl, o2⟩
  have P3 : Hid (Off (fun _ => False) W w2) := P2.out.trans o2 (fun _ _ h => h)
  have HX2 : Hid (Cel (w1.heap.size) 23 #[.int .i64 x, .int .i64 y] w2) := HX.out.off o2 (fun h => h)
  clear o2
  go_wp2_with fail
  generalize hU : w2.alloc (.cells #[.int .i64 x, .int .i64 y] 23) = U
  have P4 : Hid (Off (fun _ => False) W U) := by show Off _ _ _; rw [← hU]; exact P3.out.alloc _
  have HY : Hid (Cel (w2.heap.size) 23 #[.int .i64 x, .int .i64 y] U) := by show Cel _ _ _ _; rw [← hU]; exact Cel.new w2 _ _
  have HX3 : Hid (Cel (w1.heap.size) 23 #[.int .i64 x, .int .i64 y] U) := by show Cel _ _ _ _; rw [← hU]; exact HX2.out.alloc _
  have HA3 : Hid (Cel (w.heap.size) 23 #[.int .i64 s, .int .i64 i] U) := HA.out.off P4.out (fun h => h)
  have HB3 : Hid (Cel (w.heap.size + 1) 23 #[.int .i64 t, .int .i64 j] U) := HB.out.off P4.out (fun h => h)
  have P5 : Hid (Off (fun _ => False) w U) := HO.out.trans P4.out (fun _ _ h => h)
  clear hU
  refine wp_region_held_drew (S := Off (fun _ => False) U) (by kernel_rfl) (Off.refl _ U).drew (fun hS => ?_)
  refine take_at (i := 0) 21 (v := .agg #[.int .i64 s, .int .i64 i]) rfl rfl (by kernel_rfl) (by kernel_rfl) (by kernel_rfl) (fun _ _ _ h => h) (Or.inl ⟨by rfl, fun w' hw' => by have x0 := (HA3.out.off hw' (fun h => h)).cell 0; have x1 := (HA3.out.off hw' (fun h => h)).cell 1; simp at x0 x1; go_simp⟩) hS ?_
  simp only [Act.put, List.setIfInBounds_toArray, List.set_cons_zero, List.set_cons_succ]
  refine take_at (i := 2) 23 (v := .agg #[.int .i64 s, .int .i64 i]) rfl rfl (by kernel_rfl) (by kernel_rfl) (by kernel_rfl) (fun _ _ _ h => h) (Or.inl ⟨by rfl, fun w' hw' => by have x0 := (HA3.out.off hw' (fun h => h)).cell 0; have x1 := (HA3.out.off hw' (fun h => h)).cell 1; simp at x0 x1; go_simp⟩) hS ?_
  simp only [Act.put, List.setIfInBounds_toArray, List.set_cons_zero, List.set_cons_succ]
  refine wpAnyH_ready (rs := [1]) (by kernel_rfl) (by simp) ?_
  refine AllReadyH.cons rfl (fun K' hK' => ?_) AllReadyH.nil
  go_simp
  refine (HM.out _).mono ?_
  rintro e v ⟨rfl, o⟩
  refine hK'.out _ _ (hS.trans o (fun _ _ h => h)) (fun hS => ?_)
  clear hK' K' o
  refine wpAnyH_ready (rs := [3]) (by kernel_rfl) (by simp) ?_
  refine AllReadyH.cons rfl (fun K' hK' => ?_) AllReadyH.nil
  go_simp
  refine (HN.out _).mono ?_
  rintro e v ⟨rfl, o⟩
  refine hK'.out _ _ (hS.trans o (fun _ _ h => h)) (fun hS => ?_)
  clear hK' K' o
  refine take_at (i := 4) 25 (v := .bool true) rfl rfl (by kernel_rfl) (by kernel_rfl) (by kernel_rfl) (fun _ _ _ h => h) (Or.inl ⟨by rfl, fun w' hw' => by go_simp⟩) hS ?_
  simp only [Act.put, List.setIfInBounds_toArray, List.set_cons_zero, List.set_cons_succ]
  refine take_at (i := 5) 26 (v := .bool true) rfl rfl (by kernel_rfl) (by kernel_rfl) (by kernel_rfl) (fun _ _ _ h => h) (Or.inl ⟨by rfl, fun w' hw' => by go_simp⟩) hS ?_
  simp only [Act.put, List.setIfInBounds_toArray, List.set_cons_zero, List.set_cons_succ]
  refine take_at (i := 6) 27 (v := .agg #[.int .i64 s, .int .i64 i]) rfl rfl (by kernel_rfl) (by kernel_rfl) (by kernel_rfl) (fun _ _ _ h => h) (Or.inl ⟨by rfl, fun w' hw' => by have x0 := (HA3.out.off hw' (fun h => h)).cell 0; have x1 := (HA3.out.off hw' (fun h => h)).cell 1; simp at x0 x1; go_simp⟩) hS ?_
  simp only [Act.put, List.setIfInBounds_toArray, List.set_cons_zero, List.set_cons_succ]
  refine take_at (i := 7) 28 (v := .agg #[.int .i64 t, .int .i64 j]) rfl rfl (by kernel_rfl) (by kernel_rfl) (by kernel_rfl) (fun _ _ _ h => h) (Or.inl ⟨by rfl, fun w' hw' => by have x0 := (HB3.out.off hw' (fun h => h)).cell 0; have x1 := (HB3.out.off hw' (fun h => h)).cell 1; simp at x0 x1; go_simp⟩) hS ?_
  simp only [Act.put, List.setIfInBounds_toArray, List.set_cons_zero, List.set_cons_succ]
  refine take_at (i := 9) 30 (v := .agg #[.int .i64 s, .int .i64 i]) rfl rfl (by kernel_rfl) (by kernel_rfl) (by kernel_rfl) (fun _ _ _ h => h) (Or.inl ⟨by rfl, fun w' hw' => by have x0 := (HA3.out.off hw' (fun h => h)).cell 0; have x1 := (HA3.out.off hw' (fun h => h)).cell 1; simp at x0 x1; go_simp⟩) hS ?_
  simp only [Act.put, List.setIfInBounds_toArray, List.set_cons_zero, List.set_cons_succ]
  refine take_at (i := 10) 31 (v := .agg #[.int .i64 t, .int .i64 j]) rfl rfl (by kernel_rfl) (by kernel_rfl) (by kernel_rfl) (fun _ _ _ h => h) (Or.inl ⟨by rfl, fun w' hw' => by have x0 := (HB3.out.off hw' (fun h => h)).cell 0; have x1 := (HB3.out.off hw' (fun h => h)).cell 1; simp at x0 x1; go_simp⟩) hS ?_
  simp only [Act.put, List.setIfInBounds_toArray, List.set_cons_zero, List.set_cons_succ]
  refine wpAnyH_ready (rs := [8]) (by kernel_rfl) (by simp) ?_
  refine AllReadyH.cons rfl (fun K' hK' => ?_) AllReadyH.nil
  go_simp
  refine (HJ.out _).mono ?_
  rintro e v ⟨rfl, o⟩
  refine hK'.out _ _ (hS.trans o (fun _ _ h => h)) (fun hS => ?_)
  clear hK' K' o
  refine wpAnyH_ready (rs := [11]) (by kernel_rfl) (by simp) ?_
  refine AllReadyH.cons rfl (fun K' hK' => ?_) AllReadyH.nil
  go_simp
  refine (HR.out _).mono ?_
  rintro e v ⟨rfl, o⟩
  refine hK'.out _ _ (hS.trans o (fun _ _ h => h)) (fun hS => ?_)
  clear hK' K' o
  refine take_at (i := 12) 33 (v := .bool true) rfl rfl (by kernel_rfl) (by kernel_rfl) (by kernel_rfl) (fun _ _ _ h => h) (Or.inl ⟨by rfl, fun w' hw' => by go_simp⟩) hS ?_
  simp only [Act.put, List.setIfInBounds_toArray, List.set_cons_zero, List.set_cons_succ]
  refine take_at (i := 13) 34 (v := .bool true) rfl rfl (by kernel_rfl) (by kernel_rfl) (by kernel_rfl) (fun _ _ _ h => h) (Or.inl ⟨by rfl, fun w' hw' => by go_simp⟩) hS ?_
  simp only [Act.put, List.setIfInBounds_toArray, List.set_cons_zero, List.set_cons_succ]
  refine take_at (i := 14) 35 (v := .bool true) rfl rfl (by kernel_rfl) (by kernel_rfl) (by kernel_rfl) (fun _ _ _ h => h) (Or.inl ⟨by rfl, fun w' hw' => by go_simp⟩) hS ?_
  simp only [Act.put, List.setIfInBounds_toArray, List.set_cons_zero, List.set_cons_succ]
  refine take_at (i := 15) 36 (v := .agg #[.int .i64 s, .int .i64 i]) rfl rfl (by kernel_rfl) (by kernel_rfl) (by kernel_rfl) (fun _ _ _ h => h) (Or.inl ⟨by rfl, fun w' hw' => by have x0 := (HA3.out.off hw' (fun h => h)).cell 0; have x1 := (HA3.out.off hw' (fun h => h)).cell 1; simp at x0 x1; go_simp⟩) hS ?_
  simp only [Act.put, List.setIfInBounds_toArray, List.set_cons_zero, List.set_cons_succ]
  refine take_at (i := 16) 37 (v := .agg #[.int .i64 t, .int .i64 j]) rfl rfl (by kernel_rfl) (by kernel_rfl) (by kernel_rfl) (fun _ _ _ h => h) (Or.inl ⟨by rfl, fun w' hw' => by have x0 := (HB3.out.off hw' (fun h => h)).cell 0; have x1 := (HB3.out.off hw' (fun h => h)).cell 1; simp at x0 x1; go_simp⟩) hS ?_
  simp only [Act.put, List.setIfInBounds_toArray, List.set_cons_zero, List.set_cons_succ]
  refine take_at (i := 18) 39 (v := .agg #[.int .i64 s, .int .i64 i]) rfl rfl (by kernel_rfl) (by kernel_rfl) (by kernel_rfl) (fun _ _ _ h => h) (Or.inl ⟨by rfl, fun w' hw' => by have x0 := (HA3.out.off hw' (fun h => h)).cell 0; have x1 := (HA3.out.off hw' (fun h => h)).cell 1; simp at x0 x1; go_simp⟩) hS ?_
  simp only [Act.put, List.setIfInBounds_toArray, List.set_cons_zero, List.set_cons_succ]
  refine take_at (i := 19) 40 (v := .agg #[.int .i64 t, .int .i64 j]) rfl rfl (by kernel_rfl) (by kernel_rfl) (by kernel_rfl) (fun _ _ _ h => h) (Or.inl ⟨by rfl, fun w' hw' => by have x0 := (HB3.out.off hw' (fun h => h)).cell 0; have x1 := (HB3.out.off hw' (fun h => h)).cell 1; simp at x0 x1; go_simp⟩) hS ?_
  simp only [Act.put, List.setIfInBounds_toArray, List.set_cons_zero, List.set_cons_succ]
  refine take_at (i := 21) 42 (v := .agg #[.int .i64 t, .int .i64 j]) rfl rfl (by kernel_rfl) (by kernel_rfl) (by kernel_rfl) (fun _ _ _ h => h) (Or.inl ⟨by rfl, fun w' hw' => by have x0 := (HB3.out.off hw' (fun h => h)).cell 0; have x1 := (HB3.out.off hw' (fun h => h)).cell 1; simp at x0 x1; go_simp⟩) hS ?_
  simp only [Act.put, List.setIfInBounds_toArray, List.set_cons_zero, List.set_cons_succ]
  refine wpAnyH_ready (rs := [17]) (by kernel_rfl) (by simp) ?_
  refine AllReadyH.cons rfl (fun K' hK' => ?_) AllReadyH.nil
  go_simp
  refine (HL.out _).mono ?_
  rintro e v ⟨rfl, o⟩
  refine hK'.out _ _ (hS.trans o (fun _ _ h => h)) (fun hS => ?_)
  clear hK' K' o
  refine wpAnyH_ready (rs := [20]) (by kernel_rfl) (by simp) ?_
  refine AllReadyH.cons rfl (fun K' hK' => ?_) AllReadyH.nil
  go_simp
  refine (HR.out _).mono ?_
  rintro e v ⟨rfl, o⟩
  refine hK'.out _ _ (hS.trans o (fun _ _ h => h)) (fun hS => ?_)
  clear hK' K' o
  refine take_at (i := 22) 43 (v := .bool (eqM a b t j)) rfl rfl (by kernel_rfl) (by kernel_rfl) (by kernel_rfl) (fun _ _ _ h => h) (Or.inl ⟨by rfl, fun w' hw' => by go_simp; unfold eqM; by_cases h1 : a = t <;> by_cases h2 : b = j <;> simp [h1, h2]⟩) hS ?_
  simp only [Act.put, List.setIfInBounds_toArray, List.set_cons_zero, List.set_cons_succ]
  refine take_at (i := 23) 44 (v := .bool true) rfl rfl (by kernel_rfl) (by kernel_rfl) (by kernel_rfl) (fun _ _ _ h => h) (Or.inl ⟨by rfl, fun w' hw' => by go_simp⟩) hS ?_
  simp only [Act.put, List.setIfInBounds_toArray, List.set_cons_zero, List.set_cons_succ]
  refine take_at (i := 24) 45 (v := .bool true) rfl rfl (by kernel_rfl) (by kernel_rfl) (by kernel_rfl) (fun _ _ _ h => h) (Or.inl ⟨by rfl, fun w' hw' => by go_simp⟩) hS ?_
  simp only [Act.put, List.setIfInBounds_toArray, List.set_cons_zero, List.set_cons_succ]
  refine take_at (i := 25) 46 (v := .bool true) rfl rfl (by kernel_rfl) (by kernel_rfl) (by kernel_rfl) (fun _ _ _ h => h) (Or.inl ⟨by rfl, fun w' hw' => by go_simp⟩) hS ?_
  simp only [Act.put, List.setIfInBounds_toArray, List.set_cons_zero, List.set_cons_succ]
  refine take_at (i := 26) 47 (v := .agg #[.int .i64 x, .int .i64 y]) rfl rfl (by kernel_rfl) (by kernel_rfl) (by kernel_rfl) (fun _ _ _ h => h) (Or.inl ⟨by rfl, fun w' hw' => by have x0 := (HX3.out.off hw' (fun h => h)).cell 0; have x1 := (HX3.out.off hw' (fun h => h)).cell 1; simp at x0 x1; go_simp⟩) hS ?_
  simp only [Act.put, List.setIfInBounds_toArray, List.set_cons_zero, List.set_cons_succ]
  refine take_at (i := 27) 48 (v := .agg #[.int .i64 x, .int .i64 y]) rfl rfl (by kernel_rfl) (by kernel_rfl) (by kernel_rfl) (fun _ _ _ h => h) (Or.inl ⟨by rfl, fun w' hw' => by have x0 := (HY.out.off hw' (fun h => h)).cell 0; have x1 := (HY.out.off hw' (fun h => h)).cell 1; simp at x0 x1; go_simp⟩) hS ?_
  simp only [Act.put, List.setIfInBounds_toArray, List.set_cons_zero, List.set_cons_succ]
  refine take_at (i := 28) 49 (v := .bool true) rfl rfl (by kernel_rfl) (by kernel_rfl) (by kernel_rfl) (fun _ _ _ h => h) (Or.inl ⟨by rfl, fun w' hw' => by go_simp⟩) hS ?_
  simp only [Act.put, List.setIfInBounds_toArray, List.set_cons_zero, List.set_cons_succ]
  refine take_at (i := 29) 50 (v := .bool true) rfl rfl (by kernel_rfl) (by kernel_rfl) (by kernel_rfl) (fun _ _ _ h => h) (Or.inl ⟨by rfl, fun w' hw' => by go_simp⟩) hS ?_
  simp only [Act.put, List.setIfInBounds_toArray, List.set_cons_zero, List.set_cons_succ]
  refine take_at (i := 30) 51 (v := .bool true) rfl rfl (by kernel_rfl) (by kernel_rfl) (by kernel_rfl) (fun _ _ _ h => h) (Or.inl ⟨by rfl, fun w' hw' => by go_simp⟩) hS ?_
  simp only [Act.put, List.setIfInBounds_toArray, List.set_cons_zero, List.set_cons_succ]
  refine take_at (i := 31) 52 (v := .bool z) rfl rfl (by kernel_rfl) (by kernel_rfl) (by kernel_rfl) (fun _ _ _ h => h) (Or.inl ⟨by rfl, fun w' hw' => by go_simp⟩) hS ?_
  simp only [Act.put, List.setIfInBounds_toArray, List.set_cons_zero, List.set_cons_succ]
  refine take_at (i := 32) 53 (v := .bool z) rfl rfl (by kernel_rfl) (by kernel_rfl) (by kernel_rfl) (fun _ _ _ h => h) (Or.inl ⟨by rfl, fun w' hw' => by go_simp⟩) hS ?_
  simp only [Act.put, List.setIfInBounds_toArray, List.set_cons_zero, List.set_cons_succ]
  refine take_at (i := 33) 54 (v := .bool true) rfl rfl (by kernel_rfl) (by kernel_rfl) (by kernel_rfl) (fun _ _ _ h => h) (Or.inl ⟨by rfl, fun w' hw' => by go_simp⟩) hS ?_
  simp only [Act.put, List.setIfInBounds_toArray, List.set_cons_zero, List.set_cons_succ]
  refine take_at (i := 34) 55 (v := .bool true) rfl rfl (by kernel_rfl) (by kernel_rfl) (by kernel_rfl) (fun _ _ _ h => h) (Or.inl ⟨by rfl, fun w' hw' => by go_simp⟩) hS ?_
  simp only [Act.put, List.setIfInBounds_toArray, List.set_cons_zero, List.set_cons_succ]
  refine take_at (i := 35) 56 (v := .bool true) rfl rfl (by kernel_rfl) (by kernel_rfl) (by kernel_rfl) (fun _ _ _ h => h) (Or.inl ⟨by rfl, fun w' hw' => by go_simp⟩) hS ?_
  simp only [Act.put, List.setIfInBounds_toArray, List.set_cons_zero, List.set_cons_succ]
  refine wpAnyH_ready (rs := [36]) (by kernel_rfl) (by simp) ?_
  refine AllReadyH.cons rfl (fun K' hK' => ?_) AllReadyH.nil
  go_simp
  refine (HK.out _).mono ?_
  rintro e v ⟨rfl, o⟩
  refine hK'.out _ _ (hS.trans o (fun _ _ h => h)) (fun hS => ?_)
  clear hK' K' o
  refine take_at (i := 37) 58 (v := .bool true) rfl rfl (by kernel_rfl) (by kernel_rfl) (by kernel_rfl) (fun _ _ _ h => h) (Or.inl ⟨by rfl, fun w' hw' => by go_simp⟩) hS ?_
  simp only [Act.put, List.setIfInBounds_toArray, List.set_cons_zero, List.set_cons_succ]
  refine take_at (i := 38) 4 (v := .bool true) rfl rfl (by kernel_rfl) (by kernel_rfl) (by kernel_rfl) (fun _ _ _ h => h) (Or.inl ⟨by rfl, fun w' hw' => by go_simp⟩) hS ?_
  simp only [Act.put, List.setIfInBounds_toArray, List.set_cons_zero, List.set_cons_succ]
  refine wpAnyH_done (by kernel_rfl) ?_ _
  go_wp2_with fail
  go_ret
  exact ⟨rfl, P5.out.trans hS (fun _ _ h => h)⟩

theorem ref_all {i t j : Int} (h1 : mayB 0 i = true) (h2 : mayB t j = true) (h3 : j < 1099511627776) (h4 : i < 1099511627776) : rfS 0 i t j = 0 ∧ i ≤ rfI 0 i t j ∧ jS t j (rfS 0 i t j) (rfI 0 i t j) = rfS 0 i t j ∧ jI t j (rfS 0 i t j) (rfI 0 i t j) = rfI 0 i t j ∧ rfB 0 i t j = !eqM (rfS 0 i t j) (rfI 0 i t j) 0 i ∧ mayB (rfS 0 i t j) (rfI 0 i t j) = true := by
  have k1 := may_of h1
  have k2 := may_of h2
  have hs : rfS 0 i t j = 0 := by unfold rfS; split <;> rfl
  rw [hs]
  by_cases ha : t ≠ 0 ∧ i ≤ j ∧ j < 1099511627776
  · have hA : rA i t j = true := by simp only [rA, h2, Bool.true_and]; exact decide_eq_true ha
    have hi : rfI 0 i t j = j + 1 := by unfold rfI; rw [if_pos hA]
    rw [hi]
    refine ⟨rfl, by omega, ?_, ?_, ?_, ?_⟩
    · unfold jS; (repeat split) <;> omega
    · unfold jI; (repeat split) <;> omega
    · simp only [rfB, hA, Bool.true_or, eqM]; simp; omega
    · simp only [mayB, decide_eq_true_eq]; omega
  · have hA : rA i t j = false := by simp only [rA, h2, Bool.true_and]; exact decide_eq_false ha
    by_cases hb : i < j
    · have hB : rB i t j = true := by simp only [rB, h2, Bool.true_and]; exact decide_eq_true hb
      have hi : rfI 0 i t j = j := by unfold rfI; rw [if_neg (by simp [hA]), if_pos hB]
      rw [hi]
      refine ⟨rfl, by omega, ?_, ?_, ?_, ?_⟩
      · unfold jS; (repeat split) <;> omega
      · unfold jI; (repeat split) <;> omega
      · simp only [rfB, hA, hB, Bool.or_true, eqM]; simp; omega
      · simp only [mayB, decide_eq_true_eq]; omega
    · have hB : rB i t j = false := by simp only [rB, h2, Bool.true_and]; exact decide_eq_false hb
      have hi : rfI 0 i t j = i := by unfold rfI; rw [if_neg (by simp [hA]), if_neg (by simp [hB])]
      rw [hi]
      refine ⟨rfl, by omega, ?_, ?_, ?_, ?_⟩
      · unfold jS; (repeat split) <;> omega
      · unfold jI; (repeat split) <;> omega
      · simp only [rfB, hA, hB, eqM]; simp
      · exact h1
set_option maxHeartbeats 2000000 in
theorem refutes_walk (s i t j : Int) (w : World) : Calls Try.prog 6 #[.agg #[.int .i64 s, .int .i64 i], .agg #[.int .i64 t, .int .i64 j]] w fun e w' => e = .returned (.bool true) ∧ Off (fun _ => False) w w' := by
  have HK : Hid (∀ W, Calls Try.prog 15 #[] W fun e w' => e = .returned (.bool true) ∧ Off (fun _ => False) W w') := fun W => awake_any W
  have HM : Hid (∀ W, Calls Try.prog 10 #[.agg #[.int .i64 s, .int .i64 i]] W fun e w' => e = .returned (.bool (mayB s i)) ∧ Off (fun _ => False) W w') := fun W => may_any _ _ W
  have HN : Hid (∀ W, Calls Try.prog 10 #[.agg #[.int .i64 t, .int .i64 j]] W fun e w' => e = .returned (.bool (mayB t j)) ∧ Off (fun _ => False) W w') := fun W => may_any _ _ W
  cases h1 : mayB s i with
  | false =>
    rw [h1] at HM
    clear h1
    go_enter Try.func6, Try.ntmps6
    go_wp2_with fail
    generalize hW : (w.alloc (.cells #[.int .i64 s, .int .i64 i] 23)).alloc (.cells #[.int .i64 t, .int .i64 j] 23) = W
    have HO : Hid (Off (fun _ => False) w W) := by show Off _ _ _; rw [← hW]; exact ((Off.refl _ w).alloc _).alloc _
    have HA : Hid (Cel w.heap.size 23 #[.int .i64 s, .int .i64 i] W) := by show Cel _ _ _ _; rw [← hW]; exact (Cel.new w _ _).alloc _
    have HB : Hid (Cel (w.heap.size + 1) 23 #[.int .i64 t, .int .i64 j] W) := by show Cel _ _ _ _; rw [← hW]; exact Cel.new1 w _ _ _
    clear hW
    refine (HM.out _).mono ?_
    rintro e w1 ⟨rfl, o1⟩
    have P1 : Hid (Off (fun _ => False) W w1) := o1
    clear o1
    have q00 := (HA.out.off P1.out (fun h => h)).cell 0
    have q01 := (HA.out.off P1.out (fun h => h)).cell 1
    have q10 := (HB.out.off P1.out (fun h => h)).cell 0
    have q11 := (HB.out.off P1.out (fun h => h)).cell 1
    simp at q00 q01 q10 q11
    go_wp2_with fail
    refine (HK.out _).mono ?_
    rintro e w9 ⟨rfl, o9⟩
    go_wp2_with fail
    go_ret
    exact ⟨rfl, HO.out.trans (P1.out.trans o9 (fun _ _ h => h)) (fun _ _ h => h)⟩
  | true =>
    have K1 : Hid (mayB s i = true) := h1
    rw [h1] at HM
    clear h1
    cases h2 : mayB t j with
    | false =>
      rw [h2] at HN
      clear h2
      go_enter Try.func6, Try.ntmps6
      go_wp2_with fail
      generalize hW : (w.alloc (.cells #[.int .i64 s, .int .i64 i] 23)).alloc (.cells #[.int .i64 t, .int .i64 j] 23) = W
      have HO : Hid (Off (fun _ => False) w W) := by show Off _ _ _; rw [← hW]; exact ((Off.refl _ w).alloc _).alloc _
      have HA : Hid (Cel w.heap.size 23 #[.int .i64 s, .int .i64 i] W) := by show Cel _ _ _ _; rw [← hW]; exact (Cel.new w _ _).alloc _
      have HB : Hid (Cel (w.heap.size + 1) 23 #[.int .i64 t, .int .i64 j] W) := by show Cel _ _ _ _; rw [← hW]; exact Cel.new1 w _ _ _
      clear hW
      refine (HM.out _).mono ?_
      rintro e w1 ⟨rfl, o1⟩
      have P1 : Hid (Off (fun _ => False) W w1) := o1
      clear o1
      have q00 := (HA.out.off P1.out (fun h => h)).cell 0
      have q01 := (HA.out.off P1.out (fun h => h)).cell 1
      have q10 := (HB.out.off P1.out (fun h => h)).cell 0
      have q11 := (HB.out.off P1.out (fun h => h)).cell 1
      simp at q00 q01 q10 q11
      go_wp2_with fail
      clear q00 q01 q10 q11
      refine (HN.out _).mono ?_
      rintro e w2 ⟨rfl, o2⟩
      have P2 : Hid (Off (fun _ => False) W w2) := P1.out.trans o2 (fun _ _ h => h)
      clear o2
      have q00 := (HA.out.off P2.out (fun h => h)).cell 0
      have q01 := (HA.out.off P2.out (fun h => h)).cell 1
      have q10 := (HB.out.off P2.out (fun h => h)).cell 0
      have q11 := (HB.out.off P2.out (fun h => h)).cell 1
      simp at q00 q01 q10 q11
      go_wp2_with fail
      refine (HK.out _).mono ?_
      rintro e w9 ⟨rfl, o9⟩
      go_wp2_with fail
      go_ret
      exact ⟨rfl, HO.out.trans (P2.out.trans o9 (fun _ _ h => h)) (fun _ _ h => h)⟩
    | true =>
      have K2 : Hid (mayB t j = true) := h2
      rw [h2] at HN
      clear h2
      by_cases h3 : s = 0
      · have e3 : (s != 0) = false := by simp [h3]
        by_cases h4 : 1099511627776 ≤ j
        · have e4 : decide (1099511627776 ≤ j) = true := decide_eq_true h4
          have h3' : Hid (s = 0) := h3
          clear h3
          go_enter Try.func6, Try.ntmps6
          go_wp2_with fail
          generalize hW : (w.alloc (.cells #[.int .i64 s, .int .i64 i] 23)).alloc (.cells #[.int .i64 t, .int .i64 j] 23) = W
          have HO : Hid (Off (fun _ => False) w W) := by show Off _ _ _; rw [← hW]; exact ((Off.refl _ w).alloc _).alloc _
          have HA : Hid (Cel w.heap.size 23 #[.int .i64 s, .int .i64 i] W) := by show Cel _ _ _ _; rw [← hW]; exact (Cel.new w _ _).alloc _
          have HB : Hid (Cel (w.heap.size + 1) 23 #[.int .i64 t, .int .i64 j] W) := by show Cel _ _ _ _; rw [← hW]; exact Cel.new1 w _ _ _
          clear hW
          refine (HM.out _).mono ?_
          rintro e w1 ⟨rfl, o1⟩
          have P1 : Hid (Off (fun _ => False) W w1) := o1
          clear o1
          have q00 := (HA.out.off P1.out (fun h => h)).cell 0
          have q01 := (HA.out.off P1.out (fun h => h)).cell 1
          have q10 := (HB.out.off P1.out (fun h => h)).cell 0
          have q11 := (HB.out.off P1.out (fun h => h)).cell 1
          simp at q00 q01 q10 q11
          go_wp2_with fail
          clear q00 q01 q10 q11
          refine (HN.out _).mono ?_
          rintro e w2 ⟨rfl, o2⟩
          have P2 : Hid (Off (fun _ => False) W w2) := P1.out.trans o2 (fun _ _ h => h)
          clear o2
          have q00 := (HA.out.off P2.out (fun h => h)).cell 0
          have q01 := (HA.out.off P2.out (fun h => h)).cell 1
          have q10 := (HB.out.off P2.out (fun h => h)).cell 0
          have q11 := (HB.out.off P2.out (fun h => h)).cell 1
          simp at q00 q01 q10 q11
          go_wp2_with fail
          refine (HK.out _).mono ?_
          rintro e w9 ⟨rfl, o9⟩
          go_wp2_with fail
          go_ret
          exact ⟨rfl, HO.out.trans (P2.out.trans o9 (fun _ _ h => h)) (fun _ _ h => h)⟩
        · have e4 : decide (1099511627776 ≤ j) = false := decide_eq_false h4
          by_cases h5 : 1099511627776 ≤ i
          · have e5 : decide (1099511627776 ≤ i) = true := decide_eq_true h5
            have h3' : Hid (s = 0) := h3
            clear h3
            go_enter Try.func6, Try.ntmps6
            go_wp2_with fail
            generalize hW : (w.alloc (.cells #[.int .i64 s, .int .i64 i] 23)).alloc (.cells #[.int .i64 t, .int .i64 j] 23) = W
            have HO : Hid (Off (fun _ => False) w W) := by show Off _ _ _; rw [← hW]; exact ((Off.refl _ w).alloc _).alloc _
            have HA : Hid (Cel w.heap.size 23 #[.int .i64 s, .int .i64 i] W) := by show Cel _ _ _ _; rw [← hW]; exact (Cel.new w _ _).alloc _
            have HB : Hid (Cel (w.heap.size + 1) 23 #[.int .i64 t, .int .i64 j] W) := by show Cel _ _ _ _; rw [← hW]; exact Cel.new1 w _ _ _
            clear hW
            refine (HM.out _).mono ?_
            rintro e w1 ⟨rfl, o1⟩
            have P1 : Hid (Off (fun _ => False) W w1) := o1
            clear o1
            have q00 := (HA.out.off P1.out (fun h => h)).cell 0
            have q01 := (HA.out.off P1.out (fun h => h)).cell 1
            have q10 := (HB.out.off P1.out (fun h => h)).cell 0
            have q11 := (HB.out.off P1.out (fun h => h)).cell 1
            simp at q00 q01 q10 q11
            go_wp2_with fail
            clear q00 q01 q10 q11
            refine (HN.out _).mono ?_
            rintro e w2 ⟨rfl, o2⟩
            have P2 : Hid (Off (fun _ => False) W w2) := P1.out.trans o2 (fun _ _ h => h)
            clear o2
            have q00 := (HA.out.off P2.out (fun h => h)).cell 0
            have q01 := (HA.out.off P2.out (fun h => h)).cell 1
            have q10 := (HB.out.off P2.out (fun h => h)).cell 0
            have q11 := (HB.out.off P2.out (fun h => h)).cell 1
            simp at q00 q01 q10 q11
            go_wp2_with fail
            refine (HK.out _).mono ?_
            rintro e w9 ⟨rfl, o9⟩
            go_wp2_with fail
            go_ret
            exact ⟨rfl, HO.out.trans (P2.out.trans o9 (fun _ _ h => h)) (fun _ _ h => h)⟩
          · have e5 : decide (1099511627776 ≤ i) = false := decide_eq_false h5
            subst h3
            obtain ⟨x, y, z, HF, HJ, HX, G1, G2, G3⟩ : ∃ (x y : Int) (z : Bool), Hid (∀ W, Calls Try.prog 8 #[.agg #[.int .i64 0, .int .i64 i], .agg #[.int .i64 t, .int .i64 j]] W fun e w' => e = .returned (.tuple #[.agg #[.int .i64 x, .int .i64 y], .bool z]) ∧ Off (fun _ => False) W w') ∧ Hid (∀ W, Calls Try.prog 12 #[.agg #[.int .i64 t, .int .i64 j], .agg #[.int .i64 x, .int .i64 y]] W fun e w' => e = .returned (.agg #[.int .i64 x, .int .i64 y]) ∧ Off (fun _ => False) W w') ∧ Hid (∀ W, Calls Try.prog 10 #[.agg #[.int .i64 x, .int .i64 y]] W fun e w' => e = .returned (.bool true) ∧ Off (fun _ => False) W w') ∧ Hid (x = 0) ∧ Hid (i ≤ y) ∧ Hid (z = !eqM x y 0 i) := by
              obtain ⟨r1, r2, r3, r4, r5, r6⟩ := ref_all K1.out K2.out (by omega) (by omega)
              refine ⟨rfS 0 i t j, rfI 0 i t j, rfB 0 i t j, fun W => refute_any _ _ _ _ W, fun W => ?_, fun W => ?_, r1, r2, r5⟩
              · have := join_any t j (rfS 0 i t j) (rfI 0 i t j) W
                rwa [r3, r4] at this
              · have := may_any (rfS 0 i t j) (rfI 0 i t j) W
                rwa [r6] at this
            have e6 : (x == 0) = true := by have := G1.out; simp [this]
            have e7 : decide (i ≤ y) = true := decide_eq_true G2.out
            clear h4 h5
            go_enter Try.func6, Try.ntmps6
            go_wp2_with fail
            generalize hW : (w.alloc (.cells #[.int .i64 0, .int .i64 i] 23)).alloc (.cells #[.int .i64 t, .int .i64 j] 23) = W
            have HO : Hid (Off (fun _ => False) w W) := by show Off _ _ _; rw [← hW]; exact ((Off.refl _ w).alloc _).alloc _
            have HA : Hid (Cel w.heap.size 23 #[.int .i64 0, .int .i64 i] W) := by show Cel _ _ _ _; rw [← hW]; exact (Cel.new w _ _).alloc _
            have HB : Hid (Cel (w.heap.size + 1) 23 #[.int .i64 t, .int .i64 j] W) := by show Cel _ _ _ _; rw [← hW]; exact Cel.new1 w _ _ _
            clear hW
            refine (HM.out _).mono ?_
            rintro e w1 ⟨rfl, o1⟩
            have P1 : Hid (Off (fun _ => False) W w1) := o1
            clear o1
            have q00 := (HA.out.off P1.out (fun h => h)).cell 0
            have q01 := (HA.out.off P1.out (fun h => h)).cell 1
            have q10 := (HB.out.off P1.out (fun h => h)).cell 0
            have q11 := (HB.out.off P1.out (fun h => h)).cell 1
            simp at q00 q01 q10 q11
            go_wp2_with fail
            clear q00 q01 q10 q11
            refine (HN.out _).mono ?_
            rintro e w2 ⟨rfl, o2⟩
            have P2 : Hid (Off (fun _ => False) W w2) := P1.out.trans o2 (fun _ _ h => h)
            clear o2
            have q00 := (HA.out.off P2.out (fun h => h)).cell 0
            have q01 := (HA.out.off P2.out (fun h => h)).cell 1
            have q10 := (HB.out.off P2.out (fun h => h)).cell 0
            have q11 := (HB.out.off P2.out (fun h => h)).cell 1
            simp at q00 q01 q10 q11
            go_wp2_with fail
            refine (HF.out _).mono ?_
            rintro e w3 ⟨rfl, o3⟩
            have P3 : Hid (Off (fun _ => False) W w3) := P2.out.trans o3 (fun _ _ h => h)
            clear o3 q00 q01 q10 q11
            go_wp2_with fail
            generalize hU : w3.alloc (.cells #[.int .i64 x, .int .i64 y] 23) = U
            have P4 : Hid (Off (fun _ => False) W U) := by show Off _ _ _; rw [← hU]; exact P3.out.alloc _
            have HX3 : Hid (Cel (w3.heap.size) 23 #[.int .i64 x, .int .i64 y] U) := by show Cel _ _ _ _; rw [← hU]; exact Cel.new w3 _ _
            have HA3 : Hid (Cel (w.heap.size) 23 #[.int .i64 0, .int .i64 i] U) := HA.out.off P4.out (fun h => h)
            have HB3 : Hid (Cel (w.heap.size + 1) 23 #[.int .i64 t, .int .i64 j] U) := HB.out.off P4.out (fun h => h)
            have P5 : Hid (Off (fun _ => False) w U) := HO.out.trans P4.out (fun _ _ h => h)
            clear hU
            refine wp_region_held_drew (S := Off (fun _ => False) U) (by kernel_rfl) (Off.refl _ U).drew (fun hS => ?_)
            refine take_at (i := 0) 37 (v := .pointer (some ⟨w3.heap.size, 0, none⟩)) rfl rfl (by kernel_rfl) (by kernel_rfl) (by kernel_rfl) (fun _ _ _ h => h) (Or.inl ⟨by rfl, fun w' hw' => by go_simp⟩) hS ?_
            simp only [Act.put, List.setIfInBounds_toArray, List.set_cons_zero, List.set_cons_succ]
            refine take_at (i := 1) 38 (v := .int .i64 x) rfl rfl (by kernel_rfl) (by kernel_rfl) (by kernel_rfl) (fun _ _ _ h => h) (Or.inl ⟨by rfl, fun w' hw' => by have x0 := (HX3.out.off hw' (fun h => h)).cell 0; have x1 := (HX3.out.off hw' (fun h => h)).cell 1; simp at x0 x1; go_simp⟩) hS ?_
            simp only [Act.put, List.setIfInBounds_toArray, List.set_cons_zero, List.set_cons_succ]
            refine take_at (i := 2) 39 (v := .bool true) rfl rfl (by kernel_rfl) (by kernel_rfl) (by kernel_rfl) (fun _ _ _ h => h) (Or.inl ⟨by rfl, fun w' hw' => by go_simp⟩) hS ?_
            simp only [Act.put, List.setIfInBounds_toArray, List.set_cons_zero, List.set_cons_succ]
            refine take_at (i := 3) 40 (v := .bool true) rfl rfl (by kernel_rfl) (by kernel_rfl) (by kernel_rfl) (fun _ _ _ h => h) (Or.inl ⟨by rfl, fun w' hw' => by go_simp⟩) hS ?_
            simp only [Act.put, List.setIfInBounds_toArray, List.set_cons_zero, List.set_cons_succ]
            refine take_at (i := 4) 41 (v := .pointer (some ⟨w3.heap.size, 1, none⟩)) rfl rfl (by kernel_rfl) (by kernel_rfl) (by kernel_rfl) (fun _ _ _ h => h) (Or.inl ⟨by rfl, fun w' hw' => by go_simp⟩) hS ?_
            simp only [Act.put, List.setIfInBounds_toArray, List.set_cons_zero, List.set_cons_succ]
            refine take_at (i := 5) 42 (v := .int .i64 y) rfl rfl (by kernel_rfl) (by kernel_rfl) (by kernel_rfl) (fun _ _ _ h => h) (Or.inl ⟨by rfl, fun w' hw' => by have x0 := (HX3.out.off hw' (fun h => h)).cell 0; have x1 := (HX3.out.off hw' (fun h => h)).cell 1; simp at x0 x1; go_simp⟩) hS ?_
            simp only [Act.put, List.setIfInBounds_toArray, List.set_cons_zero, List.set_cons_succ]
            refine take_at (i := 6) 43 (v := .pointer (some ⟨w.heap.size, 1, none⟩)) rfl rfl (by kernel_rfl) (by kernel_rfl) (by kernel_rfl) (fun _ _ _ h => h) (Or.inl ⟨by rfl, fun w' hw' => by go_simp⟩) hS ?_
            simp only [Act.put, List.setIfInBounds_toArray, List.set_cons_zero, List.set_cons_succ]
            refine take_at (i := 7) 44 (v := .int .i64 i) rfl rfl (by kernel_rfl) (by kernel_rfl) (by kernel_rfl) (fun _ _ _ h => h) (Or.inl ⟨by rfl, fun w' hw' => by have x0 := (HA3.out.off hw' (fun h => h)).cell 0; have x1 := (HA3.out.off hw' (fun h => h)).cell 1; simp at x0 x1; go_simp⟩) hS ?_
            simp only [Act.put, List.setIfInBounds_toArray, List.set_cons_zero, List.set_cons_succ]
            refine take_at (i := 8) 45 (v := .bool true) rfl rfl (by kernel_rfl) (by kernel_rfl) (by kernel_rfl) (fun _ _ _ h => h) (Or.inl ⟨by rfl, fun w' hw' => by go_simp⟩) hS ?_
            simp only [Act.put, List.setIfInBounds_toArray, List.set_cons_zero, List.set_cons_succ]
            refine take_at (i := 9) 46 (v := .bool true) rfl rfl (by kernel_rfl) (by kernel_rfl) (by kernel_rfl) (fun _ _ _ h => h) (Or.inl ⟨by rfl, fun w' hw' => by go_simp⟩) hS ?_
            simp only [Act.put, List.setIfInBounds_toArray, List.set_cons_zero, List.set_cons_succ]
            refine take_at (i := 10) 47 (v := .bool true) rfl rfl (by kernel_rfl) (by kernel_rfl) (by kernel_rfl) (fun _ _ _ h => h) (Or.inl ⟨by rfl, fun w' hw' => by go_simp⟩) hS ?_
            simp only [Act.put, List.setIfInBounds_toArray, List.set_cons_zero, List.set_cons_succ]
            refine take_at (i := 11) 48 (v := .agg #[.int .i64 t, .int .i64 j]) rfl rfl (by kernel_rfl) (by kernel_rfl) (by kernel_rfl) (fun _ _ _ h => h) (Or.inl ⟨by rfl, fun w' hw' => by have x0 := (HB3.out.off hw' (fun h => h)).cell 0; have x1 := (HB3.out.off hw' (fun h => h)).cell 1; simp at x0 x1; go_simp⟩) hS ?_
            simp only [Act.put, List.setIfInBounds_toArray, List.set_cons_zero, List.set_cons_succ]
            refine take_at (i := 12) 49 (v := .agg #[.int .i64 x, .int .i64 y]) rfl rfl (by kernel_rfl) (by kernel_rfl) (by kernel_rfl) (fun _ _ _ h => h) (Or.inl ⟨by rfl, fun w' hw' => by have x0 := (HX3.out.off hw' (fun h => h)).cell 0; have x1 := (HX3.out.off hw' (fun h => h)).cell 1; simp at x0 x1; go_simp⟩) hS ?_
            simp only [Act.put, List.setIfInBounds_toArray, List.set_cons_zero, List.set_cons_succ]
            refine take_at (i := 14) 51 (v := .agg #[.int .i64 x, .int .i64 y]) rfl rfl (by kernel_rfl) (by kernel_rfl) (by kernel_rfl) (fun _ _ _ h => h) (Or.inl ⟨by rfl, fun w' hw' => by have x0 := (HX3.out.off hw' (fun h => h)).cell 0; have x1 := (HX3.out.off hw' (fun h => h)).cell 1; simp at x0 x1; go_simp⟩) hS ?_
            simp only [Act.put, List.setIfInBounds_toArray, List.set_cons_zero, List.set_cons_succ]
            refine wpAnyH_ready (rs := [13]) (by kernel_rfl) (by simp) ?_
            refine AllReadyH.cons rfl (fun K' hK' => ?_) AllReadyH.nil
            go_simp
            refine (HJ.out _).mono ?_
            rintro e v ⟨rfl, o⟩
            refine hK'.out _ _ (hS.trans o (fun _ _ h => h)) (fun hS => ?_)
            clear hK' K' o
            refine take_at (i := 15) 52 (v := .bool true) rfl rfl (by kernel_rfl) (by kernel_rfl) (by kernel_rfl) (fun _ _ _ h => h) (Or.inl ⟨by rfl, fun w' hw' => by go_simp⟩) hS ?_
            simp only [Act.put, List.setIfInBounds_toArray, List.set_cons_zero, List.set_cons_succ]
            refine take_at (i := 16) 53 (v := .bool true) rfl rfl (by kernel_rfl) (by kernel_rfl) (by kernel_rfl) (fun _ _ _ h => h) (Or.inl ⟨by rfl, fun w' hw' => by go_simp⟩) hS ?_
            simp only [Act.put, List.setIfInBounds_toArray, List.set_cons_zero, List.set_cons_succ]
            refine take_at (i := 17) 54 (v := .bool true) rfl rfl (by kernel_rfl) (by kernel_rfl) (by kernel_rfl) (fun _ _ _ h => h) (Or.inl ⟨by rfl, fun w' hw' => by go_simp⟩) hS ?_
            simp only [Act.put, List.setIfInBounds_toArray, List.set_cons_zero, List.set_cons_succ]
            refine take_at (i := 18) 55 (v := .bool z) rfl rfl (by kernel_rfl) (by kernel_rfl) (by kernel_rfl) (fun _ _ _ h => h) (Or.inl ⟨by rfl, fun w' hw' => by go_simp⟩) hS ?_
            simp only [Act.put, List.setIfInBounds_toArray, List.set_cons_zero, List.set_cons_succ]
            refine take_at (i := 19) 56 (v := .agg #[.int .i64 x, .int .i64 y]) rfl rfl (by kernel_rfl) (by kernel_rfl) (by kernel_rfl) (fun _ _ _ h => h) (Or.inl ⟨by rfl, fun w' hw' => by have x0 := (HX3.out.off hw' (fun h => h)).cell 0; have x1 := (HX3.out.off hw' (fun h => h)).cell 1; simp at x0 x1; go_simp⟩) hS ?_
            simp only [Act.put, List.setIfInBounds_toArray, List.set_cons_zero, List.set_cons_succ]
            refine take_at (i := 20) 57 (v := .agg #[.int .i64 0, .int .i64 i]) rfl rfl (by kernel_rfl) (by kernel_rfl) (by kernel_rfl) (fun _ _ _ h => h) (Or.inl ⟨by rfl, fun w' hw' => by have x0 := (HA3.out.off hw' (fun h => h)).cell 0; have x1 := (HA3.out.off hw' (fun h => h)).cell 1; simp at x0 x1; go_simp⟩) hS ?_
            simp only [Act.put, List.setIfInBounds_toArray, List.set_cons_zero, List.set_cons_succ]
            refine take_at (i := 21) 58 (v := .bool (!eqM x y 0 i)) rfl rfl (by kernel_rfl) (by kernel_rfl) (by kernel_rfl) (fun _ _ _ h => h) (Or.inl ⟨by rfl, fun w' hw' => by clear e3 e6 e7; go_simp; unfold eqM; by_cases h1 : x = 0 <;> by_cases h2 : y = i <;> simp [h1, h2]⟩) hS ?_
            simp only [Act.put, List.setIfInBounds_toArray, List.set_cons_zero, List.set_cons_succ]
            refine take_at (i := 22) 59 (v := .bool true) rfl rfl (by kernel_rfl) (by kernel_rfl) (by kernel_rfl) (fun _ _ _ h => h) (Or.inl ⟨by rfl, fun w' hw' => by have hz := G3.out; generalize (!eqM x y 0 i) = zz at hz ⊢; subst hz; go_simp⟩) hS ?_
            simp only [Act.put, List.setIfInBounds_toArray, List.set_cons_zero, List.set_cons_succ]
            refine take_at (i := 23) 60 (v := .bool true) rfl rfl (by kernel_rfl) (by kernel_rfl) (by kernel_rfl) (fun _ _ _ h => h) (Or.inl ⟨by rfl, fun w' hw' => by go_simp⟩) hS ?_
            simp only [Act.put, List.setIfInBounds_toArray, List.set_cons_zero, List.set_cons_succ]
            refine take_at (i := 24) 61 (v := .bool true) rfl rfl (by kernel_rfl) (by kernel_rfl) (by kernel_rfl) (fun _ _ _ h => h) (Or.inl ⟨by rfl, fun w' hw' => by go_simp⟩) hS ?_
            simp only [Act.put, List.setIfInBounds_toArray, List.set_cons_zero, List.set_cons_succ]
            refine take_at (i := 25) 62 (v := .agg #[.int .i64 x, .int .i64 y]) rfl rfl (by kernel_rfl) (by kernel_rfl) (by kernel_rfl) (fun _ _ _ h => h) (Or.inl ⟨by rfl, fun w' hw' => by have x0 := (HX3.out.off hw' (fun h => h)).cell 0; have x1 := (HX3.out.off hw' (fun h => h)).cell 1; simp at x0 x1; go_simp⟩) hS ?_
            simp only [Act.put, List.setIfInBounds_toArray, List.set_cons_zero, List.set_cons_succ]
            refine wpAnyH_ready (rs := [26]) (by kernel_rfl) (by simp) ?_
            refine AllReadyH.cons rfl (fun K' hK' => ?_) AllReadyH.nil
            go_simp
            refine (HX.out _).mono ?_
            rintro e v ⟨rfl, o⟩
            refine hK'.out _ _ (hS.trans o (fun _ _ h => h)) (fun hS => ?_)
            clear hK' K' o
            refine take_at (i := 27) 64 (v := .bool true) rfl rfl (by kernel_rfl) (by kernel_rfl) (by kernel_rfl) (fun _ _ _ h => h) (Or.inl ⟨by rfl, fun w' hw' => by go_simp⟩) hS ?_
            simp only [Act.put, List.setIfInBounds_toArray, List.set_cons_zero, List.set_cons_succ]
            refine take_at (i := 28) 65 (v := .bool true) rfl rfl (by kernel_rfl) (by kernel_rfl) (by kernel_rfl) (fun _ _ _ h => h) (Or.inl ⟨by rfl, fun w' hw' => by go_simp⟩) hS ?_
            simp only [Act.put, List.setIfInBounds_toArray, List.set_cons_zero, List.set_cons_succ]
            refine wpAnyH_ready (rs := [29]) (by kernel_rfl) (by simp) ?_
            refine AllReadyH.cons rfl (fun K' hK' => ?_) AllReadyH.nil
            go_simp
            refine (HK.out _).mono ?_
            rintro e v ⟨rfl, o⟩
            refine hK'.out _ _ (hS.trans o (fun _ _ h => h)) (fun hS => ?_)
            clear hK' K' o
            refine take_at (i := 30) 67 (v := .bool true) rfl rfl (by kernel_rfl) (by kernel_rfl) (by kernel_rfl) (fun _ _ _ h => h) (Or.inl ⟨by rfl, fun w' hw' => by go_simp⟩) hS ?_
            simp only [Act.put, List.setIfInBounds_toArray, List.set_cons_zero, List.set_cons_succ]
            refine take_at (i := 31) 4 (v := .bool true) rfl rfl (by kernel_rfl) (by kernel_rfl) (by kernel_rfl) (fun _ _ _ h => h) (Or.inl ⟨by rfl, fun w' hw' => by go_simp⟩) hS ?_
            simp only [Act.put, List.setIfInBounds_toArray, List.set_cons_zero, List.set_cons_succ]
            refine wpAnyH_done (by kernel_rfl) ?_ _
            go_wp2_with fail
            go_ret
            exact ⟨rfl, P5.out.trans hS (fun _ _ h => h)⟩
      · have e3 : (s != 0) = true := by simp [h3]
        clear h3
        go_enter Try.func6, Try.ntmps6
        go_wp2_with fail
        generalize hW : (w.alloc (.cells #[.int .i64 s, .int .i64 i] 23)).alloc (.cells #[.int .i64 t, .int .i64 j] 23) = W
        have HO : Hid (Off (fun _ => False) w W) := by show Off _ _ _; rw [← hW]; exact ((Off.refl _ w).alloc _).alloc _
        have HA : Hid (Cel w.heap.size 23 #[.int .i64 s, .int .i64 i] W) := by show Cel _ _ _ _; rw [← hW]; exact (Cel.new w _ _).alloc _
        have HB : Hid (Cel (w.heap.size + 1) 23 #[.int .i64 t, .int .i64 j] W) := by show Cel _ _ _ _; rw [← hW]; exact Cel.new1 w _ _ _
        clear hW
        refine (HM.out _).mono ?_
        rintro e w1 ⟨rfl, o1⟩
        have P1 : Hid (Off (fun _ => False) W w1) := o1
        clear o1
        have q00 := (HA.out.off P1.out (fun h => h)).cell 0
        have q01 := (HA.out.off P1.out (fun h => h)).cell 1
        have q10 := (HB.out.off P1.out (fun h => h)).cell 0
        have q11 := (HB.out.off P1.out (fun h => h)).cell 1
        simp at q00 q01 q10 q11
        go_wp2_with fail
        clear q00 q01 q10 q11
        refine (HN.out _).mono ?_
        rintro e w2 ⟨rfl, o2⟩
        have P2 : Hid (Off (fun _ => False) W w2) := P1.out.trans o2 (fun _ _ h => h)
        clear o2
        have q00 := (HA.out.off P2.out (fun h => h)).cell 0
        have q01 := (HA.out.off P2.out (fun h => h)).cell 1
        have q10 := (HB.out.off P2.out (fun h => h)).cell 0
        have q11 := (HB.out.off P2.out (fun h => h)).cell 1
        simp at q00 q01 q10 q11
        go_wp2_with fail
        refine (HK.out _).mono ?_
        rintro e w9 ⟨rfl, o9⟩
        go_wp2_with fail
        go_ret
        exact ⟨rfl, HO.out.trans (P2.out.trans o9 (fun _ _ h => h)) (fun _ _ h => h)⟩
end Go.Proofs.Ytgnchloclkjalaa
