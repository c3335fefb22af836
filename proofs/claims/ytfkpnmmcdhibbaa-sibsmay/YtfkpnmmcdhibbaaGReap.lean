/- The reference's Reap and Leq. -/
import Derived.Test.YtfkpnmmcdhibbaaGLive
import Derived.Test.YtfkpnmmcdhibbaaRea
import Derived.Test.YtfkpnmmcdhibbaaLeq5
import Derived.Test.YtfkpnmmcdhibbaaGJoin
import Derived.Test.YtfkpnmmcdhibbaaGSame
namespace Go.Proofs.Ytfkpnmmcdhibbaa
open Go.RowKit

theorem live_none {l : List V} (h : anyV l = false) : liveA (cont l) = [] := by
  simp only [liveA, List.map_eq_nil_iff, List.filter_eq_nil_iff]
  intro x hx
  simp only [cont, List.mem_map] at hx
  obtain ⟨v, hv, rfl⟩ := hx
  simp only [anyV, List.any_eq_false] at h
  exact h v hv
theorem live_some {l : List V} (h : anyV l = true) : liveA (cont l) ≠ [] := by
  simp only [anyV, List.any_eq_true] at h
  obtain ⟨v, hv, hd⟩ := h
  intro e
  simp only [liveA, List.map_eq_nil_iff, List.filter_eq_nil_iff] at e
  exact e v.abs (by simp only [cont, List.mem_map]; exact ⟨v, hv, rfl⟩) hd
set_option maxRecDepth 100000 in
set_option maxHeartbeats 1000000 in
theorem greap_any (f : Nat → Int) (a : Option Addr) (ca : Nat) (l : List V) (w : World) (hr : Row w a ca l) :
    Calls Try.prog 26 #[.agg #[.int .i64 (f 0), .int .i64 (f 1), .int .i64 (f 2), .int .i64 (f 3), .int .i64 (f 4), .int .i64 (f 5), .int .i64 (f 6), .int .i64 (f 7), .slice a l.length ca]] w fun e w' => ∃ (h : Nat → Int) (t : Option Addr) (c : Nat) (k : List V), e = .returned (.agg #[.int .i64 (h 0), .int .i64 (h 1), .int .i64 (h 2), .int .i64 (h 3), .int .i64 (h 4), .int .i64 (h 5), .int .i64 (h 6), .int .i64 (h 7), .slice t k.length c]) ∧ h = reapV f (cont l) ∧ cont k = reapL f (cont l) ∧ Row w' t c k ∧ Off (fun _ => False) w w' := by
  have hnot := not_any
  obtain ⟨W, hW⟩ : ∃ W, W = ((w.alloc (.cells #[.int .i64 (f 0), .int .i64 (f 1), .int .i64 (f 2), .int .i64 (f 3), .int .i64 (f 4), .int .i64 (f 5), .int .i64 (f 6), .int .i64 (f 7), .slice a l.length ca] 26)).alloc (.cells #[.int .i64 (zer 0), .int .i64 (zer 1), .int .i64 (zer 2), .int .i64 (zer 3), .int .i64 (zer 4), .int .i64 (zer 5), .int .i64 (zer 6), .int .i64 (zer 7), .slice none 0 0] 26)) := ⟨_, rfl⟩
  have O : Off (fun _ => False) w W := by rw [hW]; exact ((Off.refl _ w).alloc _).alloc _
  have C0 : Cel w.heap.size 26 #[.int .i64 (f 0), .int .i64 (f 1), .int .i64 (f 2), .int .i64 (f 3), .int .i64 (f 4), .int .i64 (f 5), .int .i64 (f 6), .int .i64 (f 7), .slice a l.length ca] W := by rw [hW]; exact (Cel.new w _ _).alloc _
  have C1 : Cel (w.heap.size + 1) 26 #[.int .i64 (zer 0), .int .i64 (zer 1), .int .i64 (zer 2), .int .i64 (zer 3), .int .i64 (zer 4), .int .i64 (zer 5), .int .i64 (zer 6), .int .i64 (zer 7), .slice none 0 0] W := by rw [hW]; exact Cel.new1 w _ _ _
  have HW : Hid (((w.alloc (.cells #[.int .i64 (f 0), .int .i64 (f 1), .int .i64 (f 2), .int .i64 (f 3), .int .i64 (f 4), .int .i64 (f 5), .int .i64 (f 6), .int .i64 (f 7), .slice a l.length ca] 26)).alloc (.cells #[.int .i64 0, .int .i64 0, .int .i64 0, .int .i64 0, .int .i64 0, .int .i64 0, .int .i64 0, .int .i64 0, .slice none 0 0] 26)) = W) := hW.symm
  have H0 : Hid _ := C0
  have H1 : Hid _ := C1
  have HO : Hid _ := O
  have HR : Hid _ := hr.off O
  have HRW : Hid _ := hr
  clear hW C0 C1 O hr
  cases hm : mayS f (cont l)
  · have hj : zer = reapV f (cont l) ∧ cont [] = reapL f (cont l) := by
      have ec : cont ([] : List V) = [] := rfl
      simp [reapV, reapL, hm, ec]
    have HJ : Hid _ := hj
    clear hj
    go_enter Try.func26, Try.ntmps26
    go_upto_region 1 with fail
    rw [HW.out]
    generalize hq1 : w.heap.size + 1 = q1 at H1 ⊢
    generalize hq0 : w.heap.size = q0 at H0 ⊢
    have HQ : Hid (w.heap.size ≤ q1 ∧ q0 ≠ q1) := by show w.heap.size ≤ q1 ∧ q0 ≠ q1; omega
    clear hq0 hq1
    obtain ⟨x0, x1, x2, x3, x4, x5, x6, x7, x8⟩ := cel9 H0.out
    go_wp2_with fail
    clear x0 x1 x2 x3 x4 x5 x6 x7 x8
    refine (gmay_any f a ca l W HR.out).mono ?_
    rw [hm]
    rintro e w1 ⟨rfl, o1⟩
    have D1 := H1.out.off o1 (fun h => h)
    obtain ⟨x0, x1, x2, x3, x4, x5, x6, x7, x8⟩ := cel9 D1
    have fz := D1.free
    go_wp2_with fail
    have E1 := D1.clr9
    have OE := (HO.out.trans o1 (fun _ _ h => h)).clr9 (b := q1) (.inr HQ.out.1)
    refine bodyPost_ret (results_none9 rfl rfl E1) rfl ?_
    exact ⟨zer, none, 0, [], rfl, HJ.out.1, HJ.out.2, Row.nil _ _ _ (by omega), OE⟩
  have hn : l.length ≤ 16 := by have := (may_iff.1 hm).few; rwa [cont_len] at this
  by_cases hpos : 0 < l.length
  · have t1 : decide ((0 : Int) < (l.length : Int)) = true := decide_eq_true (by omega)
    have t2 : decide (0 < l.length) = true := decide_eq_true hpos
    have t3 : decide (l = []) = false := decide_eq_false (fun e => by rw [e] at hpos; simp at hpos)
    cases hany : anyV l
    · have hj : f = reapV f (cont l) ∧ cont [] = reapL f (cont l) := by
        have ec : cont ([] : List V) = [] := rfl
        have ea : anyA (cont l) = false := by rw [any_cont]; exact hany
        simp [reapV, reapL, hm, ea, ec]
      have HJ : Hid _ := hj
      clear hj
      go_enter Try.func26, Try.ntmps26
      go_upto_region 1 with fail
      rw [HW.out]
      generalize hq1 : w.heap.size + 1 = q1 at H1 ⊢
      generalize hq0 : w.heap.size = q0 at H0 ⊢
      have HQ : Hid (w.heap.size ≤ q1 ∧ q0 ≠ q1) := by show w.heap.size ≤ q1 ∧ q0 ≠ q1; omega
      clear hq0 hq1
      obtain ⟨x0, x1, x2, x3, x4, x5, x6, x7, x8⟩ := cel9 H0.out
      go_wp2_with fail
      clear x0 x1 x2 x3 x4 x5 x6 x7 x8
      refine (gmay_any f a ca l W HR.out).mono ?_
      rw [hm]
      rintro e w1 ⟨rfl, o1⟩
      obtain ⟨x0, x1, x2, x3, x4, x5, x6, x7, x8⟩ := cel9 (H0.out.off o1 (fun h => h))
      go_wp2_with fail
      clear x0 x1 x2 x3 x4 x5 x6 x7 x8
      refine (glive_any f a ca l _ (HR.out.off o1)).mono ?_
      rintro e w2 ⟨t2, c2, bl, rfl, -, -, hbl, o2⟩
      rw [hm] at hbl
      simp only [if_true] at hbl
      have HBL : Hid _ := hbl
      have O2 := o1.trans o2 (fun _ _ h => h)
      clear hbl o1 o2
      have hb0 : ((bl.length : Int) == 0) = true := by
        have e : liveA (cont l) = [] := live_none hany
        have e2 : bl.length = 0 := by have := congrArg List.length HBL.out; rw [e] at this; simpa using this
        rw [e2]
        rfl
      have D1 := H1.out.off O2 (fun h => h)
      obtain ⟨x0, x1, x2, x3, x4, x5, x6, x7, x8⟩ := cel9 (H0.out.off O2 (fun h => h))
      obtain ⟨y0, y1, y2, y3, y4, y5, y6, y7, y8⟩ := cel9 D1
      have fz := D1.free
      go_wp2_with fail
      have E1 := D1.st9 f (.slice none 0 0)
      have OE := (HO.out.trans O2 (fun _ _ h => h)).st9 (b := q1) (.inr HQ.out.1) f (.slice none 0 0)
      refine bodyPost_ret (results_sibs rfl rfl E1) rfl ?_
      exact ⟨f, none, 0, [], rfl, HJ.out.1, HJ.out.2, Row.nil _ _ _ (by omega), OE⟩
    · have hj : f = reapV f (cont l) ∧ cont l = reapL f (cont l) := by
        have ea : anyA (cont l) = true := by rw [any_cont]; exact hany
        simp [reapV, reapL, hm, ea]
      have HJ : Hid _ := hj
      clear hj
      go_enter Try.func26, Try.ntmps26
      go_upto_region 1 with fail
      rw [HW.out]
      generalize hq1 : w.heap.size + 1 = q1 at H1 ⊢
      generalize hq0 : w.heap.size = q0 at H0 ⊢
      have HQ : Hid (w.heap.size ≤ q1 ∧ q0 ≠ q1) := by show w.heap.size ≤ q1 ∧ q0 ≠ q1; omega
      clear hq0 hq1
      obtain ⟨x0, x1, x2, x3, x4, x5, x6, x7, x8⟩ := cel9 H0.out
      go_wp2_with fail
      clear x0 x1 x2 x3 x4 x5 x6 x7 x8
      refine (gmay_any f a ca l W HR.out).mono ?_
      rw [hm]
      rintro e w1 ⟨rfl, o1⟩
      obtain ⟨x0, x1, x2, x3, x4, x5, x6, x7, x8⟩ := cel9 (H0.out.off o1 (fun h => h))
      go_wp2_with fail
      clear x0 x1 x2 x3 x4 x5 x6 x7 x8
      refine (glive_any f a ca l _ (HR.out.off o1)).mono ?_
      rintro e w2 ⟨t2, c2, bl, rfl, -, -, hbl, o2⟩
      rw [hm] at hbl
      simp only [if_true] at hbl
      have HBL : Hid _ := hbl
      have O2 := o1.trans o2 (fun _ _ h => h)
      clear hbl o1 o2
      have hb0 : ((bl.length : Int) == 0) = false := by
        have e : liveA (cont l) ≠ [] := live_some hany
        have e2 : bl.length ≠ 0 := fun h => by
          have h3 := congrArg List.length HBL.out
          simp [h] at h3
          exact e (List.eq_nil_of_length_eq_zero h3.symm)
        simpa using e2
      have hb1 : decide (bl = []) = false := decide_eq_false (fun h => by rw [h] at hb0; simp at hb0)
      have D1 := H1.out.off O2 (fun h => h)
      obtain ⟨x0, x1, x2, x3, x4, x5, x6, x7, x8⟩ := cel9 (H0.out.off O2 (fun h => h))
      obtain ⟨y0, y1, y2, y3, y4, y5, y6, y7, y8⟩ := cel9 D1
      have fz := D1.free
      go_wp2_with fail
      have E1 := D1.st9 f (.slice a l.length ca)
      have OE := (HO.out.trans O2 (fun _ _ h => h)).st9 (b := q1) (.inr HQ.out.1) f (.slice a l.length ca)
      refine bodyPost_ret (results_sibs rfl rfl E1) rfl ?_
      exact ⟨f, a, ca, l, rfl, HJ.out.1, HJ.out.2, HRW.out.offD (((HO.out.trans O2 (fun _ _ h => h)).mono (E := fun c => w.heap.size ≤ c) (fun _ _ h => h.elim)).st9 (.inl HQ.out.1) f _) (fun c hc _ h => by omega) (fun v _ c hc _ h => by omega), OE⟩
  · have t1 : decide ((0 : Int) < (l.length : Int)) = false := decide_eq_false (by omega)
    have t2 : decide (0 < l.length) = false := decide_eq_false hpos
    have t3 : decide (l = []) = true := decide_eq_true (List.eq_nil_of_length_eq_zero (by omega))
    have hj : f = reapV f (cont l) ∧ cont l = reapL f (cont l) := by
      have e : l = [] := List.eq_nil_of_length_eq_zero (by omega)
      have ec : cont l = [] := by rw [e]; rfl
      refine ⟨by simp [reapV, hm], ?_⟩
      rw [ec]
      simp [reapL]
    have HJ : Hid _ := hj
    clear hj
    go_enter Try.func26, Try.ntmps26
    go_upto_region 1 with fail
    rw [HW.out]
    generalize hq1 : w.heap.size + 1 = q1 at H1 ⊢
    generalize hq0 : w.heap.size = q0 at H0 ⊢
    have HQ : Hid (w.heap.size ≤ q1 ∧ q0 ≠ q1) := by show w.heap.size ≤ q1 ∧ q0 ≠ q1; omega
    clear hq0 hq1
    obtain ⟨x0, x1, x2, x3, x4, x5, x6, x7, x8⟩ := cel9 H0.out
    go_wp2_with fail
    clear x0 x1 x2 x3 x4 x5 x6 x7 x8
    refine (gmay_any f a ca l W HR.out).mono ?_
    rw [hm]
    rintro e w1 ⟨rfl, o1⟩
    have D1 := H1.out.off o1 (fun h => h)
    obtain ⟨x0, x1, x2, x3, x4, x5, x6, x7, x8⟩ := cel9 (H0.out.off o1 (fun h => h))
    obtain ⟨y0, y1, y2, y3, y4, y5, y6, y7, y8⟩ := cel9 D1
    have fz := D1.free
    go_wp2_with fail
    have E1 := D1.st9 f (.slice a l.length ca)
    have OE := (HO.out.trans o1 (fun _ _ h => h)).st9 (b := q1) (.inr HQ.out.1) f (.slice a l.length ca)
    refine bodyPost_ret (results_sibs rfl rfl E1) rfl ?_
    exact ⟨f, a, ca, l, rfl, HJ.out.1, HJ.out.2, HRW.out.offD (((HO.out.trans o1 (fun _ _ h => h)).mono (E := fun c => w.heap.size ≤ c) (fun _ _ h => h.elim)).st9 (.inl HQ.out.1) f _) (fun c hc _ h => by omega) (fun v _ c hc _ h => by omega), OE⟩

set_option maxRecDepth 100000 in
set_option maxHeartbeats 2000000 in
theorem gleq_any (f g : Nat → Int) (a b : Option Addr) (ca cb : Nat) (l k : List V) (w : World) (h1 : Row w a ca l) (h2 : Row w b cb k) :
    Calls Try.prog 18 #[.agg #[.int .i64 (f 0), .int .i64 (f 1), .int .i64 (f 2), .int .i64 (f 3), .int .i64 (f 4), .int .i64 (f 5), .int .i64 (f 6), .int .i64 (f 7), .slice a l.length ca], .agg #[.int .i64 (g 0), .int .i64 (g 1), .int .i64 (g 2), .int .i64 (g 3), .int .i64 (g 4), .int .i64 (g 5), .int .i64 (g 6), .int .i64 (g 7), .slice b k.length cb]] w fun e w' => e = .returned (.bool (leqS f g (cont l) (cont k))) ∧ Off (fun _ => False) w w' := by
  obtain ⟨W, hW⟩ : ∃ W, W = ((w.alloc (.cells #[.int .i64 (f 0), .int .i64 (f 1), .int .i64 (f 2), .int .i64 (f 3), .int .i64 (f 4), .int .i64 (f 5), .int .i64 (f 6), .int .i64 (f 7), .slice a l.length ca] 26)).alloc (.cells #[.int .i64 (g 0), .int .i64 (g 1), .int .i64 (g 2), .int .i64 (g 3), .int .i64 (g 4), .int .i64 (g 5), .int .i64 (g 6), .int .i64 (g 7), .slice b k.length cb] 26)) := ⟨_, rfl⟩
  have O : Off (fun _ => False) w W := by rw [hW]; exact ((Off.refl _ w).alloc _).alloc _
  have C0 : Cel w.heap.size 26 #[.int .i64 (f 0), .int .i64 (f 1), .int .i64 (f 2), .int .i64 (f 3), .int .i64 (f 4), .int .i64 (f 5), .int .i64 (f 6), .int .i64 (f 7), .slice a l.length ca] W := by rw [hW]; exact (Cel.new w _ _).alloc _
  have C1 : Cel (w.heap.size + 1) 26 #[.int .i64 (g 0), .int .i64 (g 1), .int .i64 (g 2), .int .i64 (g 3), .int .i64 (g 4), .int .i64 (g 5), .int .i64 (g 6), .int .i64 (g 7), .slice b k.length cb] W := by rw [hW]; exact Cel.new1 w _ _ _
  have HW : Hid _ := hW.symm
  have H0 : Hid _ := C0
  have H1 : Hid _ := C1
  have HO : Hid _ := O
  have HRA : Hid _ := h1.off O
  have HRB : Hid _ := h2.off O
  clear hW C0 C1 O h1 h2
  cases m1 : mayS f (cont l)
  · have HRES : Hid (leqS f g (cont l) (cont k) = false) := leq_no (.inl m1)
    go_enter Try.func18, Try.ntmps18
    go_upto_region 1 with fail
    rw [HW.out]
    generalize hq1 : w.heap.size + 1 = q1 at H1 ⊢
    generalize hq0 : w.heap.size = q0 at H0 ⊢
    clear hq0 hq1
    refine wp_region_held_drew (S := fun w' => Off (fun _ => False) W w') (by kernel_rfl) ((Off.refl _ W).drew) (fun hS => ?_)
    refine take_at (i := 0) 5 (v := .agg #[.int .i64 (f 0), .int .i64 (f 1), .int .i64 (f 2), .int .i64 (f 3), .int .i64 (f 4), .int .i64 (f 5), .int .i64 (f 6), .int .i64 (f 7), .slice a l.length ca]) rfl rfl (by kernel_rfl) (by kernel_rfl) (by kernel_rfl) (fun _ _ _ h => h) (Or.inl ⟨by rfl, fun w' hw' => by obtain ⟨x0, x1, x2, x3, x4, x5, x6, x7, x8⟩ := cel9 (H0.out.off hw' (fun h => h)); go_simp⟩) hS ?_
    simp only [Act.put, List.setIfInBounds_toArray, List.set_cons_zero, List.set_cons_succ]
    refine wpAnyH_ready (rs := [1]) (by kernel_rfl) (by simp) ?_
    refine AllReadyH.cons rfl (fun K' hK' => ?_) AllReadyH.nil
    go_simp
    refine (gmay_any f a ca l _ (HRA.out.off hS)).mono ?_
    rw [m1]
    rintro e v1 ⟨rfl, o1⟩
    have hS1 := hS.trans o1 (fun _ _ h => h)
    refine hK'.out _ _ hS1 (fun hS => ?_)
    clear hK' K' hS1
    refine take_at (i := 2) 7 (v := .bool false) rfl rfl (by kernel_rfl) (by kernel_rfl) (by kernel_rfl) (fun _ _ _ h => h) (Or.inl ⟨by rfl, fun w' hw' => by go_simp⟩) hS ?_
    simp only [Act.put, List.setIfInBounds_toArray, List.set_cons_zero, List.set_cons_succ]
    refine take_at (i := 3) 8 (v := undef) rfl rfl (by kernel_rfl) (by kernel_rfl) (by kernel_rfl) (fun _ _ _ h => h) (Or.inr ⟨by rfl, rfl⟩) hS ?_
    simp only [Act.put, List.setIfInBounds_toArray, List.set_cons_zero, List.set_cons_succ]
    refine take_at (i := 4) 9 (v := undef) rfl rfl (by kernel_rfl) (by kernel_rfl) (by kernel_rfl) (fun _ _ _ h => h) (Or.inr ⟨by rfl, rfl⟩) hS ?_
    simp only [Act.put, List.setIfInBounds_toArray, List.set_cons_zero, List.set_cons_succ]
    refine take_at (i := 5) 10 (v := .bool false) rfl rfl (by kernel_rfl) (by kernel_rfl) (by kernel_rfl) (fun _ _ _ h => h) (Or.inl ⟨by rfl, fun w' hw' => by go_simp⟩) hS ?_
    simp only [Act.put, List.setIfInBounds_toArray, List.set_cons_zero, List.set_cons_succ]
    refine take_at (i := 6) 11 (v := .bool false) rfl rfl (by kernel_rfl) (by kernel_rfl) (by kernel_rfl) (fun _ _ _ h => h) (Or.inl ⟨by rfl, fun w' hw' => by go_simp⟩) hS ?_
    simp only [Act.put, List.setIfInBounds_toArray, List.set_cons_zero, List.set_cons_succ]
    refine take_at (i := 7) 12 (v := undef) rfl rfl (by kernel_rfl) (by kernel_rfl) (by kernel_rfl) (fun _ _ _ h => h) (Or.inr ⟨by rfl, rfl⟩) hS ?_
    simp only [Act.put, List.setIfInBounds_toArray, List.set_cons_zero, List.set_cons_succ]
    refine take_at (i := 8) 13 (v := undef) rfl rfl (by kernel_rfl) (by kernel_rfl) (by kernel_rfl) (fun _ _ _ h => h) (Or.inr ⟨by rfl, rfl⟩) hS ?_
    simp only [Act.put, List.setIfInBounds_toArray, List.set_cons_zero, List.set_cons_succ]
    refine take_at (i := 9) 14 (v := undef) rfl rfl (by kernel_rfl) (by kernel_rfl) (by kernel_rfl) (fun _ _ _ h => h) (Or.inr ⟨by rfl, rfl⟩) hS ?_
    simp only [Act.put, List.setIfInBounds_toArray, List.set_cons_zero, List.set_cons_succ]
    refine take_at (i := 10) 15 (v := undef) rfl rfl (by kernel_rfl) (by kernel_rfl) (by kernel_rfl) (fun _ _ _ h => h) (Or.inr ⟨by rfl, rfl⟩) hS ?_
    simp only [Act.put, List.setIfInBounds_toArray, List.set_cons_zero, List.set_cons_succ]
    refine take_at (i := 11) 16 (v := undef) rfl rfl (by kernel_rfl) (by kernel_rfl) (by kernel_rfl) (fun _ _ _ h => h) (Or.inr ⟨by rfl, rfl⟩) hS ?_
    simp only [Act.put, List.setIfInBounds_toArray, List.set_cons_zero, List.set_cons_succ]
    refine take_at (i := 12) 17 (v := .bool false) rfl rfl (by kernel_rfl) (by kernel_rfl) (by kernel_rfl) (fun _ _ _ h => h) (Or.inl ⟨by rfl, fun w' hw' => by go_simp⟩) hS ?_
    simp only [Act.put, List.setIfInBounds_toArray, List.set_cons_zero, List.set_cons_succ]
    refine take_at (i := 13) 4 (v := .bool false) rfl rfl (by kernel_rfl) (by kernel_rfl) (by kernel_rfl) (fun _ _ _ h => h) (Or.inl ⟨by rfl, fun w' hw' => by go_simp⟩) hS ?_
    simp only [Act.put, List.setIfInBounds_toArray, List.set_cons_zero, List.set_cons_succ]
    refine wpAnyH_done (by kernel_rfl) ?_ _
    go_wp2_with fail
    go_ret
    exact ⟨by rw [HRES.out]; rfl, HO.out.trans hS (fun _ _ h => h)⟩
  cases m2 : mayS g (cont k)
  · have HRES : Hid (leqS f g (cont l) (cont k) = false) := leq_no (.inr m2)
    go_enter Try.func18, Try.ntmps18
    go_upto_region 1 with fail
    rw [HW.out]
    generalize hq1 : w.heap.size + 1 = q1 at H1 ⊢
    generalize hq0 : w.heap.size = q0 at H0 ⊢
    clear hq0 hq1
    refine wp_region_held_drew (S := fun w' => Off (fun _ => False) W w') (by kernel_rfl) ((Off.refl _ W).drew) (fun hS => ?_)
    refine take_at (i := 0) 5 (v := .agg #[.int .i64 (f 0), .int .i64 (f 1), .int .i64 (f 2), .int .i64 (f 3), .int .i64 (f 4), .int .i64 (f 5), .int .i64 (f 6), .int .i64 (f 7), .slice a l.length ca]) rfl rfl (by kernel_rfl) (by kernel_rfl) (by kernel_rfl) (fun _ _ _ h => h) (Or.inl ⟨by rfl, fun w' hw' => by obtain ⟨x0, x1, x2, x3, x4, x5, x6, x7, x8⟩ := cel9 (H0.out.off hw' (fun h => h)); go_simp⟩) hS ?_
    simp only [Act.put, List.setIfInBounds_toArray, List.set_cons_zero, List.set_cons_succ]
    refine wpAnyH_ready (rs := [1]) (by kernel_rfl) (by simp) ?_
    refine AllReadyH.cons rfl (fun K' hK' => ?_) AllReadyH.nil
    go_simp
    refine (gmay_any f a ca l _ (HRA.out.off hS)).mono ?_
    rw [m1]
    rintro e v1 ⟨rfl, o1⟩
    have hS1 := hS.trans o1 (fun _ _ h => h)
    refine hK'.out _ _ hS1 (fun hS => ?_)
    clear hK' K' hS1
    refine take_at (i := 2) 7 (v := .bool true) rfl rfl (by kernel_rfl) (by kernel_rfl) (by kernel_rfl) (fun _ _ _ h => h) (Or.inl ⟨by rfl, fun w' hw' => by go_simp⟩) hS ?_
    simp only [Act.put, List.setIfInBounds_toArray, List.set_cons_zero, List.set_cons_succ]
    refine take_at (i := 3) 8 (v := .agg #[.int .i64 (g 0), .int .i64 (g 1), .int .i64 (g 2), .int .i64 (g 3), .int .i64 (g 4), .int .i64 (g 5), .int .i64 (g 6), .int .i64 (g 7), .slice b k.length cb]) rfl rfl (by kernel_rfl) (by kernel_rfl) (by kernel_rfl) (fun _ _ _ h => h) (Or.inl ⟨by rfl, fun w' hw' => by obtain ⟨x0, x1, x2, x3, x4, x5, x6, x7, x8⟩ := cel9 (H1.out.off hw' (fun h => h)); go_simp⟩) hS ?_
    simp only [Act.put, List.setIfInBounds_toArray, List.set_cons_zero, List.set_cons_succ]
    refine wpAnyH_ready (rs := [4]) (by kernel_rfl) (by simp) ?_
    refine AllReadyH.cons rfl (fun K' hK' => ?_) AllReadyH.nil
    go_simp
    refine (gmay_any g b cb k _ (HRB.out.off hS)).mono ?_
    rw [m2]
    rintro e v2 ⟨rfl, o2⟩
    have hS1 := hS.trans o2 (fun _ _ h => h)
    refine hK'.out _ _ hS1 (fun hS => ?_)
    clear hK' K' hS1
    refine take_at (i := 5) 10 (v := .bool false) rfl rfl (by kernel_rfl) (by kernel_rfl) (by kernel_rfl) (fun _ _ _ h => h) (Or.inl ⟨by rfl, fun w' hw' => by go_simp⟩) hS ?_
    simp only [Act.put, List.setIfInBounds_toArray, List.set_cons_zero, List.set_cons_succ]
    refine take_at (i := 6) 11 (v := .bool false) rfl rfl (by kernel_rfl) (by kernel_rfl) (by kernel_rfl) (fun _ _ _ h => h) (Or.inl ⟨by rfl, fun w' hw' => by go_simp⟩) hS ?_
    simp only [Act.put, List.setIfInBounds_toArray, List.set_cons_zero, List.set_cons_succ]
    refine take_at (i := 7) 12 (v := undef) rfl rfl (by kernel_rfl) (by kernel_rfl) (by kernel_rfl) (fun _ _ _ h => h) (Or.inr ⟨by rfl, rfl⟩) hS ?_
    simp only [Act.put, List.setIfInBounds_toArray, List.set_cons_zero, List.set_cons_succ]
    refine take_at (i := 8) 13 (v := undef) rfl rfl (by kernel_rfl) (by kernel_rfl) (by kernel_rfl) (fun _ _ _ h => h) (Or.inr ⟨by rfl, rfl⟩) hS ?_
    simp only [Act.put, List.setIfInBounds_toArray, List.set_cons_zero, List.set_cons_succ]
    refine take_at (i := 9) 14 (v := undef) rfl rfl (by kernel_rfl) (by kernel_rfl) (by kernel_rfl) (fun _ _ _ h => h) (Or.inr ⟨by rfl, rfl⟩) hS ?_
    simp only [Act.put, List.setIfInBounds_toArray, List.set_cons_zero, List.set_cons_succ]
    refine take_at (i := 10) 15 (v := undef) rfl rfl (by kernel_rfl) (by kernel_rfl) (by kernel_rfl) (fun _ _ _ h => h) (Or.inr ⟨by rfl, rfl⟩) hS ?_
    simp only [Act.put, List.setIfInBounds_toArray, List.set_cons_zero, List.set_cons_succ]
    refine take_at (i := 11) 16 (v := undef) rfl rfl (by kernel_rfl) (by kernel_rfl) (by kernel_rfl) (fun _ _ _ h => h) (Or.inr ⟨by rfl, rfl⟩) hS ?_
    simp only [Act.put, List.setIfInBounds_toArray, List.set_cons_zero, List.set_cons_succ]
    refine take_at (i := 12) 17 (v := .bool false) rfl rfl (by kernel_rfl) (by kernel_rfl) (by kernel_rfl) (fun _ _ _ h => h) (Or.inl ⟨by rfl, fun w' hw' => by go_simp⟩) hS ?_
    simp only [Act.put, List.setIfInBounds_toArray, List.set_cons_zero, List.set_cons_succ]
    refine take_at (i := 13) 4 (v := .bool false) rfl rfl (by kernel_rfl) (by kernel_rfl) (by kernel_rfl) (fun _ _ _ h => h) (Or.inl ⟨by rfl, fun w' hw' => by go_simp⟩) hS ?_
    simp only [Act.put, List.setIfInBounds_toArray, List.set_cons_zero, List.set_cons_succ]
    refine wpAnyH_done (by kernel_rfl) ?_ _
    go_wp2_with fail
    go_ret
    exact ⟨by rw [HRES.out]; rfl, HO.out.trans hS (fun _ _ h => h)⟩
  cases m3 : sameS (joinV f g (cont l) (cont k)) g (joinL f g (cont l) (cont k)) (cont k)
  · have HRES : Hid (leqS f g (cont l) (cont k) = false) := by show _ = _; simp [leqS, m1, m2, m3]
    go_enter Try.func18, Try.ntmps18
    go_upto_region 1 with fail
    rw [HW.out]
    generalize hq1 : w.heap.size + 1 = q1 at H1 ⊢
    generalize hq0 : w.heap.size = q0 at H0 ⊢
    clear hq0 hq1
    refine wp_region_held_drew (S := fun w' => Off (fun _ => False) W w') (by kernel_rfl) ((Off.refl _ W).drew) (fun hS => ?_)
    refine take_at (i := 0) 5 (v := .agg #[.int .i64 (f 0), .int .i64 (f 1), .int .i64 (f 2), .int .i64 (f 3), .int .i64 (f 4), .int .i64 (f 5), .int .i64 (f 6), .int .i64 (f 7), .slice a l.length ca]) rfl rfl (by kernel_rfl) (by kernel_rfl) (by kernel_rfl) (fun _ _ _ h => h) (Or.inl ⟨by rfl, fun w' hw' => by obtain ⟨x0, x1, x2, x3, x4, x5, x6, x7, x8⟩ := cel9 (H0.out.off hw' (fun h => h)); go_simp⟩) hS ?_
    simp only [Act.put, List.setIfInBounds_toArray, List.set_cons_zero, List.set_cons_succ]
    refine wpAnyH_ready (rs := [1]) (by kernel_rfl) (by simp) ?_
    refine AllReadyH.cons rfl (fun K' hK' => ?_) AllReadyH.nil
    go_simp
    refine (gmay_any f a ca l _ (HRA.out.off hS)).mono ?_
    rw [m1]
    rintro e v1 ⟨rfl, o1⟩
    have hS1 := hS.trans o1 (fun _ _ h => h)
    refine hK'.out _ _ hS1 (fun hS => ?_)
    clear hK' K' hS1
    refine take_at (i := 2) 7 (v := .bool true) rfl rfl (by kernel_rfl) (by kernel_rfl) (by kernel_rfl) (fun _ _ _ h => h) (Or.inl ⟨by rfl, fun w' hw' => by go_simp⟩) hS ?_
    simp only [Act.put, List.setIfInBounds_toArray, List.set_cons_zero, List.set_cons_succ]
    refine take_at (i := 3) 8 (v := .agg #[.int .i64 (g 0), .int .i64 (g 1), .int .i64 (g 2), .int .i64 (g 3), .int .i64 (g 4), .int .i64 (g 5), .int .i64 (g 6), .int .i64 (g 7), .slice b k.length cb]) rfl rfl (by kernel_rfl) (by kernel_rfl) (by kernel_rfl) (fun _ _ _ h => h) (Or.inl ⟨by rfl, fun w' hw' => by obtain ⟨x0, x1, x2, x3, x4, x5, x6, x7, x8⟩ := cel9 (H1.out.off hw' (fun h => h)); go_simp⟩) hS ?_
    simp only [Act.put, List.setIfInBounds_toArray, List.set_cons_zero, List.set_cons_succ]
    refine wpAnyH_ready (rs := [4]) (by kernel_rfl) (by simp) ?_
    refine AllReadyH.cons rfl (fun K' hK' => ?_) AllReadyH.nil
    go_simp
    refine (gmay_any g b cb k _ (HRB.out.off hS)).mono ?_
    rw [m2]
    rintro e v2 ⟨rfl, o2⟩
    have hS1 := hS.trans o2 (fun _ _ h => h)
    refine hK'.out _ _ hS1 (fun hS => ?_)
    clear hK' K' hS1
    refine take_at (i := 5) 10 (v := .bool true) rfl rfl (by kernel_rfl) (by kernel_rfl) (by kernel_rfl) (fun _ _ _ h => h) (Or.inl ⟨by rfl, fun w' hw' => by go_simp⟩) hS ?_
    simp only [Act.put, List.setIfInBounds_toArray, List.set_cons_zero, List.set_cons_succ]
    refine take_at (i := 6) 11 (v := .bool true) rfl rfl (by kernel_rfl) (by kernel_rfl) (by kernel_rfl) (fun _ _ _ h => h) (Or.inl ⟨by rfl, fun w' hw' => by go_simp⟩) hS ?_
    simp only [Act.put, List.setIfInBounds_toArray, List.set_cons_zero, List.set_cons_succ]
    refine take_at (i := 7) 12 (v := .agg #[.int .i64 (f 0), .int .i64 (f 1), .int .i64 (f 2), .int .i64 (f 3), .int .i64 (f 4), .int .i64 (f 5), .int .i64 (f 6), .int .i64 (f 7), .slice a l.length ca]) rfl rfl (by kernel_rfl) (by kernel_rfl) (by kernel_rfl) (fun _ _ _ h => h) (Or.inl ⟨by rfl, fun w' hw' => by obtain ⟨x0, x1, x2, x3, x4, x5, x6, x7, x8⟩ := cel9 (H0.out.off hw' (fun h => h)); go_simp⟩) hS ?_
    simp only [Act.put, List.setIfInBounds_toArray, List.set_cons_zero, List.set_cons_succ]
    refine take_at (i := 8) 13 (v := .agg #[.int .i64 (g 0), .int .i64 (g 1), .int .i64 (g 2), .int .i64 (g 3), .int .i64 (g 4), .int .i64 (g 5), .int .i64 (g 6), .int .i64 (g 7), .slice b k.length cb]) rfl rfl (by kernel_rfl) (by kernel_rfl) (by kernel_rfl) (fun _ _ _ h => h) (Or.inl ⟨by rfl, fun w' hw' => by obtain ⟨x0, x1, x2, x3, x4, x5, x6, x7, x8⟩ := cel9 (H1.out.off hw' (fun h => h)); go_simp⟩) hS ?_
    simp only [Act.put, List.setIfInBounds_toArray, List.set_cons_zero, List.set_cons_succ]
    refine take_at (i := 10) 15 (v := .agg #[.int .i64 (g 0), .int .i64 (g 1), .int .i64 (g 2), .int .i64 (g 3), .int .i64 (g 4), .int .i64 (g 5), .int .i64 (g 6), .int .i64 (g 7), .slice b k.length cb]) rfl rfl (by kernel_rfl) (by kernel_rfl) (by kernel_rfl) (fun _ _ _ h => h) (Or.inl ⟨by rfl, fun w' hw' => by obtain ⟨x0, x1, x2, x3, x4, x5, x6, x7, x8⟩ := cel9 (H1.out.off hw' (fun h => h)); go_simp⟩) hS ?_
    simp only [Act.put, List.setIfInBounds_toArray, List.set_cons_zero, List.set_cons_succ]
    refine wpAnyH_ready (rs := [9]) (by kernel_rfl) (by simp) ?_
    refine AllReadyH.cons rfl (fun K' hK' => ?_) AllReadyH.nil
    go_simp
    refine (gjoin_any f g a b ca cb l k _ (HRA.out.off hS) (HRB.out.off hS)).mono ?_
    rintro e v3 ⟨hg, ag, cg, lg, rfl, hhg, hlg, RG, o3⟩
    have hS1 := hS.trans o3 (fun _ _ h => h)
    refine hK'.out _ _ hS1 (fun hS => ?_)
    clear hK' K' hS1
    have HGH : Hid _ := hhg
    have HGL : Hid _ := hlg
    clear hhg hlg
    refine wpAnyH_ready (rs := [11]) (by kernel_rfl) (by simp) ?_
    refine AllReadyH.cons rfl (fun K' hK' => ?_) AllReadyH.nil
    go_simp
    refine (gsame_any hg g ag b cg cb lg k _ RG (HRB.out.off hS)).mono ?_
    rw [show sameS hg g (cont lg) (cont k) = false by rw [HGH.out, HGL.out]; exact m3]
    rintro e v4 ⟨rfl, o4⟩
    have hS1 := hS.trans o4 (fun _ _ h => h)
    refine hK'.out _ _ hS1 (fun hS => ?_)
    clear hK' K' hS1
    refine take_at (i := 12) 17 (v := .bool false) rfl rfl (by kernel_rfl) (by kernel_rfl) (by kernel_rfl) (fun _ _ _ h => h) (Or.inl ⟨by rfl, fun w' hw' => by go_simp⟩) hS ?_
    simp only [Act.put, List.setIfInBounds_toArray, List.set_cons_zero, List.set_cons_succ]
    refine take_at (i := 13) 4 (v := .bool false) rfl rfl (by kernel_rfl) (by kernel_rfl) (by kernel_rfl) (fun _ _ _ h => h) (Or.inl ⟨by rfl, fun w' hw' => by go_simp⟩) hS ?_
    simp only [Act.put, List.setIfInBounds_toArray, List.set_cons_zero, List.set_cons_succ]
    refine wpAnyH_done (by kernel_rfl) ?_ _
    go_wp2_with fail
    go_ret
    exact ⟨by rw [HRES.out]; rfl, HO.out.trans hS (fun _ _ h => h)⟩
  · have HRES : Hid (leqS f g (cont l) (cont k) = true) := by show _ = _; simp [leqS, m1, m2, m3]
    go_enter Try.func18, Try.ntmps18
    go_upto_region 1 with fail
    rw [HW.out]
    generalize hq1 : w.heap.size + 1 = q1 at H1 ⊢
    generalize hq0 : w.heap.size = q0 at H0 ⊢
    clear hq0 hq1
    refine wp_region_held_drew (S := fun w' => Off (fun _ => False) W w') (by kernel_rfl) ((Off.refl _ W).drew) (fun hS => ?_)
    refine take_at (i := 0) 5 (v := .agg #[.int .i64 (f 0), .int .i64 (f 1), .int .i64 (f 2), .int .i64 (f 3), .int .i64 (f 4), .int .i64 (f 5), .int .i64 (f 6), .int .i64 (f 7), .slice a l.length ca]) rfl rfl (by kernel_rfl) (by kernel_rfl) (by kernel_rfl) (fun _ _ _ h => h) (Or.inl ⟨by rfl, fun w' hw' => by obtain ⟨x0, x1, x2, x3, x4, x5, x6, x7, x8⟩ := cel9 (H0.out.off hw' (fun h => h)); go_simp⟩) hS ?_
    simp only [Act.put, List.setIfInBounds_toArray, List.set_cons_zero, List.set_cons_succ]
    refine wpAnyH_ready (rs := [1]) (by kernel_rfl) (by simp) ?_
    refine AllReadyH.cons rfl (fun K' hK' => ?_) AllReadyH.nil
    go_simp
    refine (gmay_any f a ca l _ (HRA.out.off hS)).mono ?_
    rw [m1]
    rintro e v1 ⟨rfl, o1⟩
    have hS1 := hS.trans o1 (fun _ _ h => h)
    refine hK'.out _ _ hS1 (fun hS => ?_)
    clear hK' K' hS1
    refine take_at (i := 2) 7 (v := .bool true) rfl rfl (by kernel_rfl) (by kernel_rfl) (by kernel_rfl) (fun _ _ _ h => h) (Or.inl ⟨by rfl, fun w' hw' => by go_simp⟩) hS ?_
    simp only [Act.put, List.setIfInBounds_toArray, List.set_cons_zero, List.set_cons_succ]
    refine take_at (i := 3) 8 (v := .agg #[.int .i64 (g 0), .int .i64 (g 1), .int .i64 (g 2), .int .i64 (g 3), .int .i64 (g 4), .int .i64 (g 5), .int .i64 (g 6), .int .i64 (g 7), .slice b k.length cb]) rfl rfl (by kernel_rfl) (by kernel_rfl) (by kernel_rfl) (fun _ _ _ h => h) (Or.inl ⟨by rfl, fun w' hw' => by obtain ⟨x0, x1, x2, x3, x4, x5, x6, x7, x8⟩ := cel9 (H1.out.off hw' (fun h => h)); go_simp⟩) hS ?_
    simp only [Act.put, List.setIfInBounds_toArray, List.set_cons_zero, List.set_cons_succ]
    refine wpAnyH_ready (rs := [4]) (by kernel_rfl) (by simp) ?_
    refine AllReadyH.cons rfl (fun K' hK' => ?_) AllReadyH.nil
    go_simp
    refine (gmay_any g b cb k _ (HRB.out.off hS)).mono ?_
    rw [m2]
    rintro e v2 ⟨rfl, o2⟩
    have hS1 := hS.trans o2 (fun _ _ h => h)
    refine hK'.out _ _ hS1 (fun hS => ?_)
    clear hK' K' hS1
    refine take_at (i := 5) 10 (v := .bool true) rfl rfl (by kernel_rfl) (by kernel_rfl) (by kernel_rfl) (fun _ _ _ h => h) (Or.inl ⟨by rfl, fun w' hw' => by go_simp⟩) hS ?_
    simp only [Act.put, List.setIfInBounds_toArray, List.set_cons_zero, List.set_cons_succ]
    refine take_at (i := 6) 11 (v := .bool true) rfl rfl (by kernel_rfl) (by kernel_rfl) (by kernel_rfl) (fun _ _ _ h => h) (Or.inl ⟨by rfl, fun w' hw' => by go_simp⟩) hS ?_
    simp only [Act.put, List.setIfInBounds_toArray, List.set_cons_zero, List.set_cons_succ]
    refine take_at (i := 7) 12 (v := .agg #[.int .i64 (f 0), .int .i64 (f 1), .int .i64 (f 2), .int .i64 (f 3), .int .i64 (f 4), .int .i64 (f 5), .int .i64 (f 6), .int .i64 (f 7), .slice a l.length ca]) rfl rfl (by kernel_rfl) (by kernel_rfl) (by kernel_rfl) (fun _ _ _ h => h) (Or.inl ⟨by rfl, fun w' hw' => by obtain ⟨x0, x1, x2, x3, x4, x5, x6, x7, x8⟩ := cel9 (H0.out.off hw' (fun h => h)); go_simp⟩) hS ?_
    simp only [Act.put, List.setIfInBounds_toArray, List.set_cons_zero, List.set_cons_succ]
    refine take_at (i := 8) 13 (v := .agg #[.int .i64 (g 0), .int .i64 (g 1), .int .i64 (g 2), .int .i64 (g 3), .int .i64 (g 4), .int .i64 (g 5), .int .i64 (g 6), .int .i64 (g 7), .slice b k.length cb]) rfl rfl (by kernel_rfl) (by kernel_rfl) (by kernel_rfl) (fun _ _ _ h => h) (Or.inl ⟨by rfl, fun w' hw' => by obtain ⟨x0, x1, x2, x3, x4, x5, x6, x7, x8⟩ := cel9 (H1.out.off hw' (fun h => h)); go_simp⟩) hS ?_
    simp only [Act.put, List.setIfInBounds_toArray, List.set_cons_zero, List.set_cons_succ]
    refine take_at (i := 10) 15 (v := .agg #[.int .i64 (g 0), .int .i64 (g 1), .int .i64 (g 2), .int .i64 (g 3), .int .i64 (g 4), .int .i64 (g 5), .int .i64 (g 6), .int .i64 (g 7), .slice b k.length cb]) rfl rfl (by kernel_rfl) (by kernel_rfl) (by kernel_rfl) (fun _ _ _ h => h) (Or.inl ⟨by rfl, fun w' hw' => by obtain ⟨x0, x1, x2, x3, x4, x5, x6, x7, x8⟩ := cel9 (H1.out.off hw' (fun h => h)); go_simp⟩) hS ?_
    simp only [Act.put, List.setIfInBounds_toArray, List.set_cons_zero, List.set_cons_succ]
    refine wpAnyH_ready (rs := [9]) (by kernel_rfl) (by simp) ?_
    refine AllReadyH.cons rfl (fun K' hK' => ?_) AllReadyH.nil
    go_simp
    refine (gjoin_any f g a b ca cb l k _ (HRA.out.off hS) (HRB.out.off hS)).mono ?_
    rintro e v3 ⟨hg, ag, cg, lg, rfl, hhg, hlg, RG, o3⟩
    have hS1 := hS.trans o3 (fun _ _ h => h)
    refine hK'.out _ _ hS1 (fun hS => ?_)
    clear hK' K' hS1
    have HGH : Hid _ := hhg
    have HGL : Hid _ := hlg
    clear hhg hlg
    refine wpAnyH_ready (rs := [11]) (by kernel_rfl) (by simp) ?_
    refine AllReadyH.cons rfl (fun K' hK' => ?_) AllReadyH.nil
    go_simp
    refine (gsame_any hg g ag b cg cb lg k _ RG (HRB.out.off hS)).mono ?_
    rw [show sameS hg g (cont lg) (cont k) = true by rw [HGH.out, HGL.out]; exact m3]
    rintro e v4 ⟨rfl, o4⟩
    have hS1 := hS.trans o4 (fun _ _ h => h)
    refine hK'.out _ _ hS1 (fun hS => ?_)
    clear hK' K' hS1
    refine take_at (i := 12) 17 (v := .bool true) rfl rfl (by kernel_rfl) (by kernel_rfl) (by kernel_rfl) (fun _ _ _ h => h) (Or.inl ⟨by rfl, fun w' hw' => by go_simp⟩) hS ?_
    simp only [Act.put, List.setIfInBounds_toArray, List.set_cons_zero, List.set_cons_succ]
    refine take_at (i := 13) 4 (v := .bool true) rfl rfl (by kernel_rfl) (by kernel_rfl) (by kernel_rfl) (fun _ _ _ h => h) (Or.inl ⟨by rfl, fun w' hw' => by go_simp⟩) hS ?_
    simp only [Act.put, List.setIfInBounds_toArray, List.set_cons_zero, List.set_cons_succ]
    refine wpAnyH_done (by kernel_rfl) ?_ _
    go_wp2_with fail
    go_ret
    exact ⟨by rw [HRES.out]; rfl, HO.out.trans hS (fun _ _ h => h)⟩
end Go.Proofs.Ytfkpnmmcdhibbaa
