/- The reference's May and Join; Leq; Refute of both; awake. -/
import Derived.Test.YtakijikehpblfaaMb
namespace Go.Proofs.Ytakijikehpblfaa
set_option maxRecDepth 100000
open Go.RowKit

def eqM (s i t j : Int) : Bool := decide (s = t ∧ i = j)
def leqM (s i t j : Int) : Bool := eqM (jS s i t j) (jI s i t j) t j
def rA (i t j : Int) : Bool := mayB t j && decide (t ≠ 0 ∧ i ≤ j ∧ j < 1099511627776)
def rB (i t j : Int) : Bool := mayB t j && decide (i < j)
def rfS (s i t j : Int) : Int := if rA i t j = true ∨ rB i t j = true then 0 else s
def rfI (_s i t j : Int) : Int := if rA i t j = true then j + 1 else if rB i t j = true then j else i
def rfB (_s i t j : Int) : Bool := rA i t j || rB i t j
theorem may_of {s i : Int} (h : mayB s i = true) : 0 ≤ s ∧ s ≤ 2 ∧ 0 ≤ i ∧ i ≤ 1099511627776 := by simpa [mayB] using h
theorem eql_mem (a b c d : Int) (W : World) : (binOp .eql 46 (.agg #[.int .i64 a, .int .i64 b]) (.agg #[.int .i64 c, .int .i64 d])).run Try.prog W = .ok (.bool (eqM a b c d)) W := by
  go_simp
  unfold eqM
  by_cases h1 : a = c <;> by_cases h2 : b = d <;> simp [h1, h2]
theorem neq_mem (a b c d : Int) (W : World) : (binOp .neq 46 (.agg #[.int .i64 a, .int .i64 b]) (.agg #[.int .i64 c, .int .i64 d])).run Try.prog W = .ok (.bool (!eqM a b c d)) W := by
  go_simp
  unfold eqM
  by_cases h1 : a = c <;> by_cases h2 : b = d <;> simp [h1, h2]

set_option maxHeartbeats 1000000 in
theorem rmay_any (s i : Int) (w : World) : Calls Try.prog 37 #[.agg #[.int .i64 s, .int .i64 i]] w fun e w' => e = .returned (.bool (mayB s i)) ∧ Off (fun _ => False) w w' := by
  have o1 : ∀ x, Off (fun _ => False) w (w.alloc x) := fun x => (Off.refl _ w).alloc _
  by_cases h1 : 0 ≤ s
  · have e1 : decide (0 ≤ s) = true := decide_eq_true h1
    by_cases h2 : s ≤ 2
    · have e2 : decide (s ≤ 2) = true := decide_eq_true h2
      by_cases h3 : 0 ≤ i
      · have e3 : decide (0 ≤ i) = true := decide_eq_true h3
        have hb : mayB s i = decide (i ≤ 1099511627776) := decide_eq_decide.2 ⟨fun h => h.2.2.2, fun h => ⟨h1, h2, h3, h⟩⟩
        rw [hb]
        clear hb
        go_enter Try.func37, Try.ntmps37
        go_wp2_with fail
        go_ret
        exact ⟨rfl, o1 _⟩
      · have e3 : decide (0 ≤ i) = false := decide_eq_false h3
        have hb : mayB s i = false := decide_eq_false (fun h => h3 h.2.2.1)
        rw [hb]
        clear hb
        go_enter Try.func37, Try.ntmps37
        go_wp2_with fail
        go_ret
        exact ⟨rfl, o1 _⟩
    · have e2 : decide (s ≤ 2) = false := decide_eq_false h2
      have hb : mayB s i = false := decide_eq_false (fun h => h2 h.2.1)
      rw [hb]
      clear hb
      go_enter Try.func37, Try.ntmps37
      go_wp2_with fail
      go_ret
      exact ⟨rfl, o1 _⟩
  · have e1 : decide (0 ≤ s) = false := decide_eq_false h1
    have hb : mayB s i = false := decide_eq_false (fun h => h1 h.1)
    rw [hb]
    clear hb
    go_enter Try.func37, Try.ntmps37
    go_wp2_with fail
    go_ret
    exact ⟨rfl, o1 _⟩

set_option maxHeartbeats 1000000 in
theorem rjoin_any (s i t j : Int) (w : World) : Calls Try.prog 39 #[.agg #[.int .i64 s, .int .i64 i], .agg #[.int .i64 t, .int .i64 j]] w fun e w' => e = .returned (.agg #[.int .i64 (jS s i t j), .int .i64 (jI s i t j)]) ∧ Off (fun _ => False) w w' := by
  have o3 : ∀ x y z, Off (fun _ => False) w (((w.alloc x).alloc y).alloc z) := fun x y z => (((Off.refl _ w).alloc _).alloc _).alloc _
  by_cases h1 : j < i
  · have e1 : decide (j < i) = true := decide_eq_true h1
    have hs : jS s i t j = s := by unfold jS; (repeat split) <;> omega
    have hi : jI s i t j = i := by unfold jI; (repeat split) <;> omega
    rw [hs, hi]
    clear hs hi
    go_enter Try.func39, Try.ntmps39
    go_wp2_with fail
    refine bodyPost_ret (results_mem rfl rfl (Cel.new2 w _ _ _ _)) rfl ?_
    exact ⟨rfl, o3 _ _ _⟩
  · have e1 : decide (j < i) = false := decide_eq_false h1
    by_cases h2 : i = j
    · have e2 : (i == j) = true := by simp [h2]
      by_cases h3 : t < s
      · have e3 : decide (t < s) = true := decide_eq_true h3
        have hs : jS s i t j = s := by unfold jS; (repeat split) <;> omega
        have hi : jI s i t j = i := by unfold jI; (repeat split) <;> omega
        rw [hs, hi]
        clear hs hi
        go_enter Try.func39, Try.ntmps39
        go_wp2_with fail
        refine bodyPost_ret (results_mem rfl rfl (Cel.new2 w _ _ _ _)) rfl ?_
        exact ⟨rfl, o3 _ _ _⟩
      · have e3 : decide (t < s) = false := decide_eq_false h3
        have hs : jS s i t j = t := by unfold jS; (repeat split) <;> omega
        have hi : jI s i t j = j := by unfold jI; (repeat split) <;> omega
        rw [hs, hi]
        clear hs hi
        go_enter Try.func39, Try.ntmps39
        go_wp2_with fail
        refine bodyPost_ret (results_mem rfl rfl (Cel.new2 w _ _ _ _)) rfl ?_
        exact ⟨rfl, o3 _ _ _⟩
    · have e2 : (i == j) = false := by simp [h2]
      have hs : jS s i t j = t := by unfold jS; (repeat split) <;> omega
      have hi : jI s i t j = j := by unfold jI; (repeat split) <;> omega
      rw [hs, hi]
      clear hs hi
      go_enter Try.func39, Try.ntmps39
      go_wp2_with fail
      refine bodyPost_ret (results_mem rfl rfl (Cel.new2 w _ _ _ _)) rfl ?_
      exact ⟨rfl, o3 _ _ _⟩

set_option maxHeartbeats 1000000 in
theorem leq_any (s i t j : Int) (w : World) : Calls Try.prog 23 #[.agg #[.int .i64 s, .int .i64 i], .agg #[.int .i64 t, .int .i64 j]] w fun e w' => e = .returned (.bool (leqM s i t j)) ∧ Off (fun _ => False) w w' := by
  have hb : Hid (leqM s i t j = eqM (jS s i t j) (jI s i t j) t j) := show leqM s i t j = _ from rfl
  go_enter Try.func23, Try.ntmps23
  go_wp2_with fail
  generalize hW : ((w.alloc (.cells #[.int .i64 s, .int .i64 i] 46)).alloc (.cells #[.int .i64 t, .int .i64 j] 46)) = W
  have HO : Hid (Off (fun _ => False) w W) := by show Off _ _ _; rw [← hW]; exact ((Off.refl _ w).alloc _).alloc _
  have H0 : Hid (Cel w.heap.size 46 #[.int .i64 s, .int .i64 i] W) := by show Cel _ _ _ _; rw [← hW]; exact (Cel.new w _ _).alloc _
  have H1 : Hid (Cel (w.heap.size + 1) 46 #[.int .i64 t, .int .i64 j] W) := by show Cel _ _ _ _; rw [← hW]; exact Cel.new1 w _ _ _
  clear hW
  refine wp_region_held_drew (S := Off (fun _ => False) W) (by kernel_rfl) (Off.refl _ W).drew (fun hS => ?_)
  refine take_at (i := 0) 5 (v := .agg #[.int .i64 s, .int .i64 i]) rfl rfl (by kernel_rfl) (by kernel_rfl) (by kernel_rfl) (fun _ _ _ h => h) (Or.inl ⟨by rfl, fun w' hw' => by have x0 := (H0.out.off hw' (fun h => h)).cell 0; have x1 := (H0.out.off hw' (fun h => h)).cell 1; simp at x0 x1; go_simp⟩) hS ?_
  simp only [Act.put, List.setIfInBounds_toArray, List.set_cons_zero, List.set_cons_succ]
  refine take_at (i := 1) 6 (v := .agg #[.int .i64 t, .int .i64 j]) rfl rfl (by kernel_rfl) (by kernel_rfl) (by kernel_rfl) (fun _ _ _ h => h) (Or.inl ⟨by rfl, fun w' hw' => by have x0 := (H1.out.off hw' (fun h => h)).cell 0; have x1 := (H1.out.off hw' (fun h => h)).cell 1; simp at x0 x1; go_simp⟩) hS ?_
  simp only [Act.put, List.setIfInBounds_toArray, List.set_cons_zero, List.set_cons_succ]
  refine take_at (i := 3) 8 (v := .agg #[.int .i64 t, .int .i64 j]) rfl rfl (by kernel_rfl) (by kernel_rfl) (by kernel_rfl) (fun _ _ _ h => h) (Or.inl ⟨by rfl, fun w' hw' => by have x0 := (H1.out.off hw' (fun h => h)).cell 0; have x1 := (H1.out.off hw' (fun h => h)).cell 1; simp at x0 x1; go_simp⟩) hS ?_
  simp only [Act.put, List.setIfInBounds_toArray, List.set_cons_zero, List.set_cons_succ]
  refine wpAnyH_ready (rs := [2]) (by kernel_rfl) (by simp) ?_
  refine AllReadyH.cons rfl (fun K' hK' => ?_) AllReadyH.nil
  go_simp
  refine (join_any _ _ _ _ _).mono ?_
  generalize jS s i t j = a at hb ⊢
  generalize jI s i t j = b at hb ⊢
  rintro e v ⟨rfl, o⟩
  refine hK'.out _ _ (hS.trans o (fun _ _ h => h)) (fun hS => ?_)
  clear hK' K' o
  refine take_at (i := 4) 9 (v := .bool (eqM a b t j)) rfl rfl (by kernel_rfl) (by kernel_rfl) (by kernel_rfl) (fun _ _ _ h => h) (Or.inl ⟨by rfl, fun w' hw' => by go_simp; unfold eqM; by_cases h1 : a = t <;> by_cases h2 : b = j <;> simp [h1, h2]⟩) hS ?_
  simp only [Act.put, List.setIfInBounds_toArray, List.set_cons_zero, List.set_cons_succ]
  refine take_at (i := 5) 4 (v := .bool (eqM a b t j)) rfl rfl (by kernel_rfl) (by kernel_rfl) (by kernel_rfl) (fun _ _ _ h => h) (Or.inl ⟨by rfl, fun w' hw' => by go_simp⟩) hS ?_
  simp only [Act.put, List.setIfInBounds_toArray, List.set_cons_zero, List.set_cons_succ]
  refine wpAnyH_done (by kernel_rfl) ?_ _
  go_wp2_with fail
  go_ret
  rw [hb.out]
  exact ⟨rfl, HO.out.trans hS (fun _ _ h => h)⟩

set_option maxHeartbeats 1000000 in
theorem refute_any (s i t j : Int) (w : World) : Calls Try.prog 41 #[.agg #[.int .i64 s, .int .i64 i], .agg #[.int .i64 t, .int .i64 j]] w fun e w' => e = .returned (.tuple #[.agg #[.int .i64 (rfS s i t j), .int .i64 (rfI s i t j)], .bool (rfB s i t j)]) ∧ Off (fun _ => False) w w' := by
  cases hm : mayB t j with
  | false =>
    have hs : Hid (rfS s i t j = s ∧ rfI s i t j = i ∧ rfB s i t j = false) := by
      have hm : mayB t j = false := hm
      show _ ∧ _ ∧ _
      simp only [rfS, rfI, rfB, rA, rB, hm]
      simp
    go_enter Try.func41, Try.ntmps41
    go_wp2_with fail
    generalize hW : ((w.alloc (.cells #[.int .i64 s, .int .i64 i] 46)).alloc (.cells #[.int .i64 t, .int .i64 j] 46)).alloc (.cells #[.int .i64 0, .int .i64 0] 46) = W
    have O : Off (fun _ => False) w W := by rw [← hW]; exact (((Off.refl _ w).alloc _).alloc _).alloc _
    have C0 : Cel w.heap.size 46 #[.int .i64 s, .int .i64 i] W := by rw [← hW]; exact ((Cel.new w _ _).alloc _).alloc _
    have C1 : Cel (w.heap.size + 1) 46 #[.int .i64 t, .int .i64 j] W := by rw [← hW]; exact (Cel.new1 w _ _ _).alloc _
    have C2 : Cel (w.heap.size + 2) 46 #[.int .i64 0, .int .i64 0] W := by rw [← hW]; exact Cel.new2 w _ _ _ _
    clear hW
    refine (may_any _ _ _).mono ?_
    rw [hm]
    rintro e w1 ⟨rfl, o1⟩
    have D0 := C0.off o1 (fun h => h)
    have D1 := C1.off o1 (fun h => h)
    have D2 := C2.off o1 (fun h => h)
    have O1 := O.trans o1 (fun _ _ h => h)
    have x0 := D0.cell 0
    have x1 := D0.cell 1
    have y0 := D1.cell 0
    have y1 := D1.cell 1
    have z0 := D2.cell 0
    have z1 := D2.cell 1
    simp at x0 x1 y0 y1 z0 z1
    have fz := D2.free
    have H1 : Hid _ := D2
    have H2 : Hid _ := O1
    clear C0 C1 C2 D0 D1 D2 O O1 o1 hm
    go_wp2_with fail
    refine bodyPost_ret (results_mem2 rfl rfl rfl (H1.out.st2 _ _)) rfl ?_
    rw [hs.out.1, hs.out.2.1, hs.out.2.2]
    exact ⟨rfl, H2.out.st2 (.inr (by omega)) _ _⟩
  | true =>
    by_cases h2 : t = 0
    · have e2 : (t != 0) = false := by simp [h2]
      by_cases h5 : i < j
      · have e5 : decide (i < j) = true := decide_eq_true h5
        have hs : Hid (rfS s i t j = 0 ∧ rfI s i t j = j ∧ rfB s i t j = true) := by
          have hm : mayB t j = true := hm
          show _ ∧ _ ∧ _
          simp only [rfS, rfI, rfB, rA, rB, hm]
          simp [h2, h5]
        clear h2 h5
        go_enter Try.func41, Try.ntmps41
        go_wp2_with fail
        generalize hW : ((w.alloc (.cells #[.int .i64 s, .int .i64 i] 46)).alloc (.cells #[.int .i64 t, .int .i64 j] 46)).alloc (.cells #[.int .i64 0, .int .i64 0] 46) = W
        have O : Off (fun _ => False) w W := by rw [← hW]; exact (((Off.refl _ w).alloc _).alloc _).alloc _
        have C0 : Cel w.heap.size 46 #[.int .i64 s, .int .i64 i] W := by rw [← hW]; exact ((Cel.new w _ _).alloc _).alloc _
        have C1 : Cel (w.heap.size + 1) 46 #[.int .i64 t, .int .i64 j] W := by rw [← hW]; exact (Cel.new1 w _ _ _).alloc _
        have C2 : Cel (w.heap.size + 2) 46 #[.int .i64 0, .int .i64 0] W := by rw [← hW]; exact Cel.new2 w _ _ _ _
        clear hW
        refine (may_any _ _ _).mono ?_
        rw [hm]
        rintro e w1 ⟨rfl, o1⟩
        have D0 := C0.off o1 (fun h => h)
        have D1 := C1.off o1 (fun h => h)
        have D2 := C2.off o1 (fun h => h)
        have O1 := O.trans o1 (fun _ _ h => h)
        have x0 := D0.cell 0
        have x1 := D0.cell 1
        have y0 := D1.cell 0
        have y1 := D1.cell 1
        have z0 := D2.cell 0
        have z1 := D2.cell 1
        simp at x0 x1 y0 y1 z0 z1
        have fz := D2.free
        have H1 : Hid _ := D2
        have H2 : Hid _ := O1
        clear C0 C1 C2 D0 D1 D2 O O1 o1 hm
        go_wp2_with fail
        refine bodyPost_ret (results_mem2 rfl rfl rfl (H1.out.st2 _ _)) rfl ?_
        rw [hs.out.1, hs.out.2.1, hs.out.2.2]
        exact ⟨rfl, H2.out.st2 (.inr (by omega)) _ _⟩
      · have e5 : decide (i < j) = false := decide_eq_false h5
        have hs : Hid (rfS s i t j = s ∧ rfI s i t j = i ∧ rfB s i t j = false) := by
          have hm : mayB t j = true := hm
          show _ ∧ _ ∧ _
          simp only [rfS, rfI, rfB, rA, rB, hm]
          simp [h2, h5]
        clear h2 h5
        go_enter Try.func41, Try.ntmps41
        go_wp2_with fail
        generalize hW : ((w.alloc (.cells #[.int .i64 s, .int .i64 i] 46)).alloc (.cells #[.int .i64 t, .int .i64 j] 46)).alloc (.cells #[.int .i64 0, .int .i64 0] 46) = W
        have O : Off (fun _ => False) w W := by rw [← hW]; exact (((Off.refl _ w).alloc _).alloc _).alloc _
        have C0 : Cel w.heap.size 46 #[.int .i64 s, .int .i64 i] W := by rw [← hW]; exact ((Cel.new w _ _).alloc _).alloc _
        have C1 : Cel (w.heap.size + 1) 46 #[.int .i64 t, .int .i64 j] W := by rw [← hW]; exact (Cel.new1 w _ _ _).alloc _
        have C2 : Cel (w.heap.size + 2) 46 #[.int .i64 0, .int .i64 0] W := by rw [← hW]; exact Cel.new2 w _ _ _ _
        clear hW
        refine (may_any _ _ _).mono ?_
        rw [hm]
        rintro e w1 ⟨rfl, o1⟩
        have D0 := C0.off o1 (fun h => h)
        have D1 := C1.off o1 (fun h => h)
        have D2 := C2.off o1 (fun h => h)
        have O1 := O.trans o1 (fun _ _ h => h)
        have x0 := D0.cell 0
        have x1 := D0.cell 1
        have y0 := D1.cell 0
        have y1 := D1.cell 1
        have z0 := D2.cell 0
        have z1 := D2.cell 1
        simp at x0 x1 y0 y1 z0 z1
        have fz := D2.free
        have H1 : Hid _ := D2
        have H2 : Hid _ := O1
        clear C0 C1 C2 D0 D1 D2 O O1 o1 hm
        go_wp2_with fail
        refine bodyPost_ret (results_mem2 rfl rfl rfl (H1.out.st2 _ _)) rfl ?_
        rw [hs.out.1, hs.out.2.1, hs.out.2.2]
        exact ⟨rfl, H2.out.st2 (.inr (by omega)) _ _⟩
    · have e2 : (t != 0) = true := by simp [h2]
      by_cases h3 : i ≤ j
      · have e3 : decide (i ≤ j) = true := decide_eq_true h3
        by_cases h4 : j < 1099511627776
        · have e4 : decide (j < 1099511627776) = true := decide_eq_true h4
          have hs : Hid (rfS s i t j = 0 ∧ rfI s i t j = j + 1 ∧ rfB s i t j = true) := by
            have hm : mayB t j = true := hm
            show _ ∧ _ ∧ _
            simp only [rfS, rfI, rfB, rA, rB, hm]
            simp [h2, h3, h4]
          have hw : IntKind.i64.wrap (j + 1) = j + 1 := by
            have h0 := may_of hm
            simp only [IntKind.wrap, IntKind.bits, IntKind.signed]
            go_num
          clear h2 h3 h4
          go_enter Try.func41, Try.ntmps41
          go_wp2_with fail
          generalize hW : ((w.alloc (.cells #[.int .i64 s, .int .i64 i] 46)).alloc (.cells #[.int .i64 t, .int .i64 j] 46)).alloc (.cells #[.int .i64 0, .int .i64 0] 46) = W
          have O : Off (fun _ => False) w W := by rw [← hW]; exact (((Off.refl _ w).alloc _).alloc _).alloc _
          have C0 : Cel w.heap.size 46 #[.int .i64 s, .int .i64 i] W := by rw [← hW]; exact ((Cel.new w _ _).alloc _).alloc _
          have C1 : Cel (w.heap.size + 1) 46 #[.int .i64 t, .int .i64 j] W := by rw [← hW]; exact (Cel.new1 w _ _ _).alloc _
          have C2 : Cel (w.heap.size + 2) 46 #[.int .i64 0, .int .i64 0] W := by rw [← hW]; exact Cel.new2 w _ _ _ _
          clear hW
          refine (may_any _ _ _).mono ?_
          rw [hm]
          rintro e w1 ⟨rfl, o1⟩
          have D0 := C0.off o1 (fun h => h)
          have D1 := C1.off o1 (fun h => h)
          have D2 := C2.off o1 (fun h => h)
          have O1 := O.trans o1 (fun _ _ h => h)
          have x0 := D0.cell 0
          have x1 := D0.cell 1
          have y0 := D1.cell 0
          have y1 := D1.cell 1
          have z0 := D2.cell 0
          have z1 := D2.cell 1
          simp at x0 x1 y0 y1 z0 z1
          have fz := D2.free
          have H1 : Hid _ := D2
          have H2 : Hid _ := O1
          clear C0 C1 C2 D0 D1 D2 O O1 o1 hm
          go_wp2_with fail
          refine bodyPost_ret (results_mem2 rfl rfl rfl (H1.out.st2 _ _)) rfl ?_
          rw [hs.out.1, hs.out.2.1, hs.out.2.2]
          exact ⟨rfl, H2.out.st2 (.inr (by omega)) _ _⟩
        · have e4 : decide (j < 1099511627776) = false := decide_eq_false h4
          by_cases h5 : i < j
          · have e5 : decide (i < j) = true := decide_eq_true h5
            have hs : Hid (rfS s i t j = 0 ∧ rfI s i t j = j ∧ rfB s i t j = true) := by
              have hm : mayB t j = true := hm
              show _ ∧ _ ∧ _
              simp only [rfS, rfI, rfB, rA, rB, hm]
              simp [h2, h3, h4, h5]
            clear h2 h3 h4 h5
            go_enter Try.func41, Try.ntmps41
            go_wp2_with fail
            generalize hW : ((w.alloc (.cells #[.int .i64 s, .int .i64 i] 46)).alloc (.cells #[.int .i64 t, .int .i64 j] 46)).alloc (.cells #[.int .i64 0, .int .i64 0] 46) = W
            have O : Off (fun _ => False) w W := by rw [← hW]; exact (((Off.refl _ w).alloc _).alloc _).alloc _
            have C0 : Cel w.heap.size 46 #[.int .i64 s, .int .i64 i] W := by rw [← hW]; exact ((Cel.new w _ _).alloc _).alloc _
            have C1 : Cel (w.heap.size + 1) 46 #[.int .i64 t, .int .i64 j] W := by rw [← hW]; exact (Cel.new1 w _ _ _).alloc _
            have C2 : Cel (w.heap.size + 2) 46 #[.int .i64 0, .int .i64 0] W := by rw [← hW]; exact Cel.new2 w _ _ _ _
            clear hW
            refine (may_any _ _ _).mono ?_
            rw [hm]
            rintro e w1 ⟨rfl, o1⟩
            have D0 := C0.off o1 (fun h => h)
            have D1 := C1.off o1 (fun h => h)
            have D2 := C2.off o1 (fun h => h)
            have O1 := O.trans o1 (fun _ _ h => h)
            have x0 := D0.cell 0
            have x1 := D0.cell 1
            have y0 := D1.cell 0
            have y1 := D1.cell 1
            have z0 := D2.cell 0
            have z1 := D2.cell 1
            simp at x0 x1 y0 y1 z0 z1
            have fz := D2.free
            have H1 : Hid _ := D2
            have H2 : Hid _ := O1
            clear C0 C1 C2 D0 D1 D2 O O1 o1 hm
            go_wp2_with fail
            refine bodyPost_ret (results_mem2 rfl rfl rfl (H1.out.st2 _ _)) rfl ?_
            rw [hs.out.1, hs.out.2.1, hs.out.2.2]
            exact ⟨rfl, H2.out.st2 (.inr (by omega)) _ _⟩
          · have e5 : decide (i < j) = false := decide_eq_false h5
            have hs : Hid (rfS s i t j = s ∧ rfI s i t j = i ∧ rfB s i t j = false) := by
              have hm : mayB t j = true := hm
              show _ ∧ _ ∧ _
              simp only [rfS, rfI, rfB, rA, rB, hm]
              simp [h2, h3, h4, h5]
            clear h2 h3 h4 h5
            go_enter Try.func41, Try.ntmps41
            go_wp2_with fail
            generalize hW : ((w.alloc (.cells #[.int .i64 s, .int .i64 i] 46)).alloc (.cells #[.int .i64 t, .int .i64 j] 46)).alloc (.cells #[.int .i64 0, .int .i64 0] 46) = W
            have O : Off (fun _ => False) w W := by rw [← hW]; exact (((Off.refl _ w).alloc _).alloc _).alloc _
            have C0 : Cel w.heap.size 46 #[.int .i64 s, .int .i64 i] W := by rw [← hW]; exact ((Cel.new w _ _).alloc _).alloc _
            have C1 : Cel (w.heap.size + 1) 46 #[.int .i64 t, .int .i64 j] W := by rw [← hW]; exact (Cel.new1 w _ _ _).alloc _
            have C2 : Cel (w.heap.size + 2) 46 #[.int .i64 0, .int .i64 0] W := by rw [← hW]; exact Cel.new2 w _ _ _ _
            clear hW
            refine (may_any _ _ _).mono ?_
            rw [hm]
            rintro e w1 ⟨rfl, o1⟩
            have D0 := C0.off o1 (fun h => h)
            have D1 := C1.off o1 (fun h => h)
            have D2 := C2.off o1 (fun h => h)
            have O1 := O.trans o1 (fun _ _ h => h)
            have x0 := D0.cell 0
            have x1 := D0.cell 1
            have y0 := D1.cell 0
            have y1 := D1.cell 1
            have z0 := D2.cell 0
            have z1 := D2.cell 1
            simp at x0 x1 y0 y1 z0 z1
            have fz := D2.free
            have H1 : Hid _ := D2
            have H2 : Hid _ := O1
            clear C0 C1 C2 D0 D1 D2 O O1 o1 hm
            go_wp2_with fail
            refine bodyPost_ret (results_mem2 rfl rfl rfl (H1.out.st2 _ _)) rfl ?_
            rw [hs.out.1, hs.out.2.1, hs.out.2.2]
            exact ⟨rfl, H2.out.st2 (.inr (by omega)) _ _⟩
      · have e3 : decide (i ≤ j) = false := decide_eq_false h3
        have h5 : ¬ i < j := by omega
        have e5 : decide (i < j) = false := decide_eq_false h5
        have hs : Hid (rfS s i t j = s ∧ rfI s i t j = i ∧ rfB s i t j = false) := by
          have hm : mayB t j = true := hm
          show _ ∧ _ ∧ _
          simp only [rfS, rfI, rfB, rA, rB, hm]
          simp [h2, h3, h5]
        clear h2 h3 h5
        go_enter Try.func41, Try.ntmps41
        go_wp2_with fail
        generalize hW : ((w.alloc (.cells #[.int .i64 s, .int .i64 i] 46)).alloc (.cells #[.int .i64 t, .int .i64 j] 46)).alloc (.cells #[.int .i64 0, .int .i64 0] 46) = W
        have O : Off (fun _ => False) w W := by rw [← hW]; exact (((Off.refl _ w).alloc _).alloc _).alloc _
        have C0 : Cel w.heap.size 46 #[.int .i64 s, .int .i64 i] W := by rw [← hW]; exact ((Cel.new w _ _).alloc _).alloc _
        have C1 : Cel (w.heap.size + 1) 46 #[.int .i64 t, .int .i64 j] W := by rw [← hW]; exact (Cel.new1 w _ _ _).alloc _
        have C2 : Cel (w.heap.size + 2) 46 #[.int .i64 0, .int .i64 0] W := by rw [← hW]; exact Cel.new2 w _ _ _ _
        clear hW
        refine (may_any _ _ _).mono ?_
        rw [hm]
        rintro e w1 ⟨rfl, o1⟩
        have D0 := C0.off o1 (fun h => h)
        have D1 := C1.off o1 (fun h => h)
        have D2 := C2.off o1 (fun h => h)
        have O1 := O.trans o1 (fun _ _ h => h)
        have x0 := D0.cell 0
        have x1 := D0.cell 1
        have y0 := D1.cell 0
        have y1 := D1.cell 1
        have z0 := D2.cell 0
        have z1 := D2.cell 1
        simp at x0 x1 y0 y1 z0 z1
        have fz := D2.free
        have H1 : Hid _ := D2
        have H2 : Hid _ := O1
        clear C0 C1 C2 D0 D1 D2 O O1 o1 hm
        go_wp2_with fail
        refine bodyPost_ret (results_mem2 rfl rfl rfl (H1.out.st2 _ _)) rfl ?_
        rw [hs.out.1, hs.out.2.1, hs.out.2.2]
        exact ⟨rfl, H2.out.st2 (.inr (by omega)) _ _⟩

set_option maxHeartbeats 1000000 in
theorem rrefute_any (s i t j : Int) (w : World) : Calls Try.prog 38 #[.agg #[.int .i64 s, .int .i64 i], .agg #[.int .i64 t, .int .i64 j]] w fun e w' => e = .returned (.tuple #[.agg #[.int .i64 (rfS s i t j), .int .i64 (rfI s i t j)], .bool (rfB s i t j)]) ∧ Off (fun _ => False) w w' := by
  cases hm : mayB t j with
  | false =>
    have hs : Hid (rfS s i t j = s ∧ rfI s i t j = i ∧ rfB s i t j = false) := by
      have hm : mayB t j = false := hm
      show _ ∧ _ ∧ _
      simp only [rfS, rfI, rfB, rA, rB, hm]
      simp
    go_enter Try.func38, Try.ntmps38
    go_wp2_with fail
    generalize hW : ((w.alloc (.cells #[.int .i64 s, .int .i64 i] 46)).alloc (.cells #[.int .i64 t, .int .i64 j] 46)).alloc (.cells #[.int .i64 0, .int .i64 0] 46) = W
    have O : Off (fun _ => False) w W := by rw [← hW]; exact (((Off.refl _ w).alloc _).alloc _).alloc _
    have C0 : Cel w.heap.size 46 #[.int .i64 s, .int .i64 i] W := by rw [← hW]; exact ((Cel.new w _ _).alloc _).alloc _
    have C1 : Cel (w.heap.size + 1) 46 #[.int .i64 t, .int .i64 j] W := by rw [← hW]; exact (Cel.new1 w _ _ _).alloc _
    have C2 : Cel (w.heap.size + 2) 46 #[.int .i64 0, .int .i64 0] W := by rw [← hW]; exact Cel.new2 w _ _ _ _
    clear hW
    refine (rmay_any _ _ _).mono ?_
    rw [hm]
    rintro e w1 ⟨rfl, o1⟩
    have D0 := C0.off o1 (fun h => h)
    have D1 := C1.off o1 (fun h => h)
    have D2 := C2.off o1 (fun h => h)
    have O1 := O.trans o1 (fun _ _ h => h)
    have x0 := D0.cell 0
    have x1 := D0.cell 1
    have y0 := D1.cell 0
    have y1 := D1.cell 1
    have z0 := D2.cell 0
    have z1 := D2.cell 1
    simp at x0 x1 y0 y1 z0 z1
    have fz := D2.free
    have H1 : Hid _ := D2
    have H2 : Hid _ := O1
    clear C0 C1 C2 D0 D1 D2 O O1 o1 hm
    go_wp2_with fail
    refine bodyPost_ret (results_mem2 rfl rfl rfl (H1.out.st2 _ _)) rfl ?_
    rw [hs.out.1, hs.out.2.1, hs.out.2.2]
    exact ⟨rfl, H2.out.st2 (.inr (by omega)) _ _⟩
  | true =>
    by_cases h2 : t = 0
    · have e2 : (t != 0) = false := by simp [h2]
      by_cases h5 : i < j
      · have e5 : decide (i < j) = true := decide_eq_true h5
        have hs : Hid (rfS s i t j = 0 ∧ rfI s i t j = j ∧ rfB s i t j = true) := by
          have hm : mayB t j = true := hm
          show _ ∧ _ ∧ _
          simp only [rfS, rfI, rfB, rA, rB, hm]
          simp [h2, h5]
        clear h2 h5
        go_enter Try.func38, Try.ntmps38
        go_wp2_with fail
        generalize hW : ((w.alloc (.cells #[.int .i64 s, .int .i64 i] 46)).alloc (.cells #[.int .i64 t, .int .i64 j] 46)).alloc (.cells #[.int .i64 0, .int .i64 0] 46) = W
        have O : Off (fun _ => False) w W := by rw [← hW]; exact (((Off.refl _ w).alloc _).alloc _).alloc _
        have C0 : Cel w.heap.size 46 #[.int .i64 s, .int .i64 i] W := by rw [← hW]; exact ((Cel.new w _ _).alloc _).alloc _
        have C1 : Cel (w.heap.size + 1) 46 #[.int .i64 t, .int .i64 j] W := by rw [← hW]; exact (Cel.new1 w _ _ _).alloc _
        have C2 : Cel (w.heap.size + 2) 46 #[.int .i64 0, .int .i64 0] W := by rw [← hW]; exact Cel.new2 w _ _ _ _
        clear hW
        refine (rmay_any _ _ _).mono ?_
        rw [hm]
        rintro e w1 ⟨rfl, o1⟩
        have D0 := C0.off o1 (fun h => h)
        have D1 := C1.off o1 (fun h => h)
        have D2 := C2.off o1 (fun h => h)
        have O1 := O.trans o1 (fun _ _ h => h)
        have x0 := D0.cell 0
        have x1 := D0.cell 1
        have y0 := D1.cell 0
        have y1 := D1.cell 1
        have z0 := D2.cell 0
        have z1 := D2.cell 1
        simp at x0 x1 y0 y1 z0 z1
        have fz := D2.free
        have H1 : Hid _ := D2
        have H2 : Hid _ := O1
        clear C0 C1 C2 D0 D1 D2 O O1 o1 hm
        go_wp2_with fail
        refine bodyPost_ret (results_mem2 rfl rfl rfl (H1.out.st2 _ _)) rfl ?_
        rw [hs.out.1, hs.out.2.1, hs.out.2.2]
        exact ⟨rfl, H2.out.st2 (.inr (by omega)) _ _⟩
      · have e5 : decide (i < j) = false := decide_eq_false h5
        have hs : Hid (rfS s i t j = s ∧ rfI s i t j = i ∧ rfB s i t j = false) := by
          have hm : mayB t j = true := hm
          show _ ∧ _ ∧ _
          simp only [rfS, rfI, rfB, rA, rB, hm]
          simp [h2, h5]
        clear h2 h5
        go_enter Try.func38, Try.ntmps38
        go_wp2_with fail
        generalize hW : ((w.alloc (.cells #[.int .i64 s, .int .i64 i] 46)).alloc (.cells #[.int .i64 t, .int .i64 j] 46)).alloc (.cells #[.int .i64 0, .int .i64 0] 46) = W
        have O : Off (fun _ => False) w W := by rw [← hW]; exact (((Off.refl _ w).alloc _).alloc _).alloc _
        have C0 : Cel w.heap.size 46 #[.int .i64 s, .int .i64 i] W := by rw [← hW]; exact ((Cel.new w _ _).alloc _).alloc _
        have C1 : Cel (w.heap.size + 1) 46 #[.int .i64 t, .int .i64 j] W := by rw [← hW]; exact (Cel.new1 w _ _ _).alloc _
        have C2 : Cel (w.heap.size + 2) 46 #[.int .i64 0, .int .i64 0] W := by rw [← hW]; exact Cel.new2 w _ _ _ _
        clear hW
        refine (rmay_any _ _ _).mono ?_
        rw [hm]
        rintro e w1 ⟨rfl, o1⟩
        have D0 := C0.off o1 (fun h => h)
        have D1 := C1.off o1 (fun h => h)
        have D2 := C2.off o1 (fun h => h)
        have O1 := O.trans o1 (fun _ _ h => h)
        have x0 := D0.cell 0
        have x1 := D0.cell 1
        have y0 := D1.cell 0
        have y1 := D1.cell 1
        have z0 := D2.cell 0
        have z1 := D2.cell 1
        simp at x0 x1 y0 y1 z0 z1
        have fz := D2.free
        have H1 : Hid _ := D2
        have H2 : Hid _ := O1
        clear C0 C1 C2 D0 D1 D2 O O1 o1 hm
        go_wp2_with fail
        refine bodyPost_ret (results_mem2 rfl rfl rfl (H1.out.st2 _ _)) rfl ?_
        rw [hs.out.1, hs.out.2.1, hs.out.2.2]
        exact ⟨rfl, H2.out.st2 (.inr (by omega)) _ _⟩
    · have e2 : (t != 0) = true := by simp [h2]
      by_cases h3 : i ≤ j
      · have e3 : decide (i ≤ j) = true := decide_eq_true h3
        by_cases h4 : j < 1099511627776
        · have e4 : decide (j < 1099511627776) = true := decide_eq_true h4
          have hs : Hid (rfS s i t j = 0 ∧ rfI s i t j = j + 1 ∧ rfB s i t j = true) := by
            have hm : mayB t j = true := hm
            show _ ∧ _ ∧ _
            simp only [rfS, rfI, rfB, rA, rB, hm]
            simp [h2, h3, h4]
          have hw : IntKind.i64.wrap (j + 1) = j + 1 := by
            have h0 := may_of hm
            simp only [IntKind.wrap, IntKind.bits, IntKind.signed]
            go_num
          clear h2 h3 h4
          go_enter Try.func38, Try.ntmps38
          go_wp2_with fail
          generalize hW : ((w.alloc (.cells #[.int .i64 s, .int .i64 i] 46)).alloc (.cells #[.int .i64 t, .int .i64 j] 46)).alloc (.cells #[.int .i64 0, .int .i64 0] 46) = W
          have O : Off (fun _ => False) w W := by rw [← hW]; exact (((Off.refl _ w).alloc _).alloc _).alloc _
          have C0 : Cel w.heap.size 46 #[.int .i64 s, .int .i64 i] W := by rw [← hW]; exact ((Cel.new w _ _).alloc _).alloc _
          have C1 : Cel (w.heap.size + 1) 46 #[.int .i64 t, .int .i64 j] W := by rw [← hW]; exact (Cel.new1 w _ _ _).alloc _
          have C2 : Cel (w.heap.size + 2) 46 #[.int .i64 0, .int .i64 0] W := by rw [← hW]; exact Cel.new2 w _ _ _ _
          clear hW
          refine (rmay_any _ _ _).mono ?_
          rw [hm]
          rintro e w1 ⟨rfl, o1⟩
          have D0 := C0.off o1 (fun h => h)
          have D1 := C1.off o1 (fun h => h)
          have D2 := C2.off o1 (fun h => h)
          have O1 := O.trans o1 (fun _ _ h => h)
          have x0 := D0.cell 0
          have x1 := D0.cell 1
          have y0 := D1.cell 0
          have y1 := D1.cell 1
          have z0 := D2.cell 0
          have z1 := D2.cell 1
          simp at x0 x1 y0 y1 z0 z1
          have fz := D2.free
          have H1 : Hid _ := D2
          have H2 : Hid _ := O1
          clear C0 C1 C2 D0 D1 D2 O O1 o1 hm
          go_wp2_with fail
          refine bodyPost_ret (results_mem2 rfl rfl rfl (H1.out.st2 _ _)) rfl ?_
          rw [hs.out.1, hs.out.2.1, hs.out.2.2]
          exact ⟨rfl, H2.out.st2 (.inr (by omega)) _ _⟩
        · have e4 : decide (j < 1099511627776) = false := decide_eq_false h4
          by_cases h5 : i < j
          · have e5 : decide (i < j) = true := decide_eq_true h5
            have hs : Hid (rfS s i t j = 0 ∧ rfI s i t j = j ∧ rfB s i t j = true) := by
              have hm : mayB t j = true := hm
              show _ ∧ _ ∧ _
              simp only [rfS, rfI, rfB, rA, rB, hm]
              simp [h2, h3, h4, h5]
            clear h2 h3 h4 h5
            go_enter Try.func38, Try.ntmps38
            go_wp2_with fail
            generalize hW : ((w.alloc (.cells #[.int .i64 s, .int .i64 i] 46)).alloc (.cells #[.int .i64 t, .int .i64 j] 46)).alloc (.cells #[.int .i64 0, .int .i64 0] 46) = W
            have O : Off (fun _ => False) w W := by rw [← hW]; exact (((Off.refl _ w).alloc _).alloc _).alloc _
            have C0 : Cel w.heap.size 46 #[.int .i64 s, .int .i64 i] W := by rw [← hW]; exact ((Cel.new w _ _).alloc _).alloc _
            have C1 : Cel (w.heap.size + 1) 46 #[.int .i64 t, .int .i64 j] W := by rw [← hW]; exact (Cel.new1 w _ _ _).alloc _
            have C2 : Cel (w.heap.size + 2) 46 #[.int .i64 0, .int .i64 0] W := by rw [← hW]; exact Cel.new2 w _ _ _ _
            clear hW
            refine (rmay_any _ _ _).mono ?_
            rw [hm]
            rintro e w1 ⟨rfl, o1⟩
            have D0 := C0.off o1 (fun h => h)
            have D1 := C1.off o1 (fun h => h)
            have D2 := C2.off o1 (fun h => h)
            have O1 := O.trans o1 (fun _ _ h => h)
            have x0 := D0.cell 0
            have x1 := D0.cell 1
            have y0 := D1.cell 0
            have y1 := D1.cell 1
            have z0 := D2.cell 0
            have z1 := D2.cell 1
            simp at x0 x1 y0 y1 z0 z1
            have fz := D2.free
            have H1 : Hid _ := D2
            have H2 : Hid _ := O1
            clear C0 C1 C2 D0 D1 D2 O O1 o1 hm
            go_wp2_with fail
            refine bodyPost_ret (results_mem2 rfl rfl rfl (H1.out.st2 _ _)) rfl ?_
            rw [hs.out.1, hs.out.2.1, hs.out.2.2]
            exact ⟨rfl, H2.out.st2 (.inr (by omega)) _ _⟩
          · have e5 : decide (i < j) = false := decide_eq_false h5
            have hs : Hid (rfS s i t j = s ∧ rfI s i t j = i ∧ rfB s i t j = false) := by
              have hm : mayB t j = true := hm
              show _ ∧ _ ∧ _
              simp only [rfS, rfI, rfB, rA, rB, hm]
              simp [h2, h3, h4, h5]
            clear h2 h3 h4 h5
            go_enter Try.func38, Try.ntmps38
            go_wp2_with fail
            generalize hW : ((w.alloc (.cells #[.int .i64 s, .int .i64 i] 46)).alloc (.cells #[.int .i64 t, .int .i64 j] 46)).alloc (.cells #[.int .i64 0, .int .i64 0] 46) = W
            have O : Off (fun _ => False) w W := by rw [← hW]; exact (((Off.refl _ w).alloc _).alloc _).alloc _
            have C0 : Cel w.heap.size 46 #[.int .i64 s, .int .i64 i] W := by rw [← hW]; exact ((Cel.new w _ _).alloc _).alloc _
            have C1 : Cel (w.heap.size + 1) 46 #[.int .i64 t, .int .i64 j] W := by rw [← hW]; exact (Cel.new1 w _ _ _).alloc _
            have C2 : Cel (w.heap.size + 2) 46 #[.int .i64 0, .int .i64 0] W := by rw [← hW]; exact Cel.new2 w _ _ _ _
            clear hW
            refine (rmay_any _ _ _).mono ?_
            rw [hm]
            rintro e w1 ⟨rfl, o1⟩
            have D0 := C0.off o1 (fun h => h)
            have D1 := C1.off o1 (fun h => h)
            have D2 := C2.off o1 (fun h => h)
            have O1 := O.trans o1 (fun _ _ h => h)
            have x0 := D0.cell 0
            have x1 := D0.cell 1
            have y0 := D1.cell 0
            have y1 := D1.cell 1
            have z0 := D2.cell 0
            have z1 := D2.cell 1
            simp at x0 x1 y0 y1 z0 z1
            have fz := D2.free
            have H1 : Hid _ := D2
            have H2 : Hid _ := O1
            clear C0 C1 C2 D0 D1 D2 O O1 o1 hm
            go_wp2_with fail
            refine bodyPost_ret (results_mem2 rfl rfl rfl (H1.out.st2 _ _)) rfl ?_
            rw [hs.out.1, hs.out.2.1, hs.out.2.2]
            exact ⟨rfl, H2.out.st2 (.inr (by omega)) _ _⟩
      · have e3 : decide (i ≤ j) = false := decide_eq_false h3
        have h5 : ¬ i < j := by omega
        have e5 : decide (i < j) = false := decide_eq_false h5
        have hs : Hid (rfS s i t j = s ∧ rfI s i t j = i ∧ rfB s i t j = false) := by
          have hm : mayB t j = true := hm
          show _ ∧ _ ∧ _
          simp only [rfS, rfI, rfB, rA, rB, hm]
          simp [h2, h3, h5]
        clear h2 h3 h5
        go_enter Try.func38, Try.ntmps38
        go_wp2_with fail
        generalize hW : ((w.alloc (.cells #[.int .i64 s, .int .i64 i] 46)).alloc (.cells #[.int .i64 t, .int .i64 j] 46)).alloc (.cells #[.int .i64 0, .int .i64 0] 46) = W
        have O : Off (fun _ => False) w W := by rw [← hW]; exact (((Off.refl _ w).alloc _).alloc _).alloc _
        have C0 : Cel w.heap.size 46 #[.int .i64 s, .int .i64 i] W := by rw [← hW]; exact ((Cel.new w _ _).alloc _).alloc _
        have C1 : Cel (w.heap.size + 1) 46 #[.int .i64 t, .int .i64 j] W := by rw [← hW]; exact (Cel.new1 w _ _ _).alloc _
        have C2 : Cel (w.heap.size + 2) 46 #[.int .i64 0, .int .i64 0] W := by rw [← hW]; exact Cel.new2 w _ _ _ _
        clear hW
        refine (rmay_any _ _ _).mono ?_
        rw [hm]
        rintro e w1 ⟨rfl, o1⟩
        have D0 := C0.off o1 (fun h => h)
        have D1 := C1.off o1 (fun h => h)
        have D2 := C2.off o1 (fun h => h)
        have O1 := O.trans o1 (fun _ _ h => h)
        have x0 := D0.cell 0
        have x1 := D0.cell 1
        have y0 := D1.cell 0
        have y1 := D1.cell 1
        have z0 := D2.cell 0
        have z1 := D2.cell 1
        simp at x0 x1 y0 y1 z0 z1
        have fz := D2.free
        have H1 : Hid _ := D2
        have H2 : Hid _ := O1
        clear C0 C1 C2 D0 D1 D2 O O1 o1 hm
        go_wp2_with fail
        refine bodyPost_ret (results_mem2 rfl rfl rfl (H1.out.st2 _ _)) rfl ?_
        rw [hs.out.1, hs.out.2.1, hs.out.2.2]
        exact ⟨rfl, H2.out.st2 (.inr (by omega)) _ _⟩

end Go.Proofs.Ytakijikehpblfaa
