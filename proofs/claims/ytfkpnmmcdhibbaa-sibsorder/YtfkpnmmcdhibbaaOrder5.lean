/- The walk of SibsOrder. -/
import Derived.Test.YtfkpnmmcdhibbaaOrdQ
import Derived.Test.YtfkpnmmcdhibbaaLgt
namespace Go.Proofs.Ytfkpnmmcdhibbaa
open Go.RowKit

theorem ninth {f : Nat → Int} {s u : Value} {j : Nat} (h : (#[.int .i64 (f 0), .int .i64 (f 1), .int .i64 (f 2), .int .i64 (f 3), .int .i64 (f 4), .int .i64 (f 5), .int .i64 (f 6), .int .i64 (f 7), s] : Array Value)[j]? = some u) : j < 9 := by
  obtain ⟨h, -⟩ := Array.getElem?_eq_some_iff.1 h
  exact h
set_option maxRecDepth 100000 in
theorem sl3 {w : World} {B : Nat} {t : TypeId} {f g h : Nat → Int} {a b c : Option Addr} {ca cb cc : Nat} {l k m : List V} (hc : Cel B t #[.int .i64 (f 0), .int .i64 (f 1), .int .i64 (f 2), .int .i64 (f 3), .int .i64 (f 4), .int .i64 (f 5), .int .i64 (f 6), .int .i64 (f 7), .slice a l.length ca, .int .i64 (g 0), .int .i64 (g 1), .int .i64 (g 2), .int .i64 (g 3), .int .i64 (g 4), .int .i64 (g 5), .int .i64 (g 6), .int .i64 (g 7), .slice b k.length cb, .int .i64 (h 0), .int .i64 (h 1), .int .i64 (h 2), .int .i64 (h 3), .int .i64 (h 4), .int .i64 (h 5), .int .i64 (h 6), .int .i64 (h 7), .slice c m.length cc] w) (ra : Row w a ca l) (rb : Row w b cb k) (rc : Row w c cc m) : Sl w B [⟨f, a, ca, l⟩, ⟨g, b, cb, k⟩, ⟨h, c, cc, m⟩] := by
  refine ⟨fun i u hi j s hs => ?_, fun u hu => ?_⟩
  · have hj := ninth hs
    match i, hi with
    | 0, hi =>
      simp only [List.getElem?_cons_zero, Option.some.injEq] at hi
      subst hi
      rw [hc.cell]
      obtain rfl | rfl | rfl | rfl | rfl | rfl | rfl | rfl | rfl : j = 0 ∨ j = 1 ∨ j = 2 ∨ j = 3 ∨ j = 4 ∨ j = 5 ∨ j = 6 ∨ j = 7 ∨ j = 8 := by omega
      all_goals exact hs
    | 1, hi =>
      simp only [List.getElem?_cons_succ, List.getElem?_cons_zero, Option.some.injEq] at hi
      subst hi
      rw [hc.cell]
      obtain rfl | rfl | rfl | rfl | rfl | rfl | rfl | rfl | rfl : j = 0 ∨ j = 1 ∨ j = 2 ∨ j = 3 ∨ j = 4 ∨ j = 5 ∨ j = 6 ∨ j = 7 ∨ j = 8 := by omega
      all_goals exact hs
    | 2, hi =>
      simp only [List.getElem?_cons_succ, List.getElem?_cons_zero, Option.some.injEq] at hi
      subst hi
      rw [hc.cell]
      obtain rfl | rfl | rfl | rfl | rfl | rfl | rfl | rfl | rfl : j = 0 ∨ j = 1 ∨ j = 2 ∨ j = 3 ∨ j = 4 ∨ j = 5 ∨ j = 6 ∨ j = 7 ∨ j = 8 := by omega
      all_goals exact hs
    | i + 3, hi => simp at hi
  · simp only [List.mem_cons, List.not_mem_nil, or_false] at hu
    rcases hu with rfl | rfl | rfl
    · exact ra
    · exact rb
    · exact rc

set_option maxRecDepth 100000 in
set_option maxHeartbeats 8000000 in
theorem order_walk (f : Nat → Int) (a : Option Addr) (ca : Nat) (l : List V) (g : Nat → Int) (b : Option Addr) (cb : Nat) (k : List V) (h : Nat → Int) (c : Option Addr) (cc : Nat) (m : List V) (w : World)
    (_ : ∀ j, j < 8 → -9223372036854775808 ≤ f j ∧ f j ≤ 9223372036854775807) (ra : Row w a ca l) (_ : ∀ j, j < 8 → -9223372036854775808 ≤ g j ∧ g j ≤ 9223372036854775807) (rb : Row w b cb k) (_ : ∀ j, j < 8 → -9223372036854775808 ≤ h j ∧ h j ≤ 9223372036854775807) (rc : Row w c cc m) :
    Calls Try.prog 7 #[.agg #[.int .i64 (f 0), .int .i64 (f 1), .int .i64 (f 2), .int .i64 (f 3), .int .i64 (f 4), .int .i64 (f 5), .int .i64 (f 6), .int .i64 (f 7), .slice a l.length ca], .agg #[.int .i64 (g 0), .int .i64 (g 1), .int .i64 (g 2), .int .i64 (g 3), .int .i64 (g 4), .int .i64 (g 5), .int .i64 (g 6), .int .i64 (g 7), .slice b k.length cb], .agg #[.int .i64 (h 0), .int .i64 (h 1), .int .i64 (h 2), .int .i64 (h 3), .int .i64 (h 4), .int .i64 (h 5), .int .i64 (h 6), .int .i64 (h 7), .slice c m.length cc]] w fun e w' => e = .returned (.bool true) ∧ Off (fun _ => False) w w' := by
  have hnot := not_any
  obtain ⟨W, hW⟩ : ∃ W, W = (((w.alloc (.cells #[.int .i64 (f 0), .int .i64 (f 1), .int .i64 (f 2), .int .i64 (f 3), .int .i64 (f 4), .int .i64 (f 5), .int .i64 (f 6), .int .i64 (f 7), .slice a l.length ca] 26)).alloc (.cells #[.int .i64 (g 0), .int .i64 (g 1), .int .i64 (g 2), .int .i64 (g 3), .int .i64 (g 4), .int .i64 (g 5), .int .i64 (g 6), .int .i64 (g 7), .slice b k.length cb] 26)).alloc (.cells #[.int .i64 (h 0), .int .i64 (h 1), .int .i64 (h 2), .int .i64 (h 3), .int .i64 (h 4), .int .i64 (h 5), .int .i64 (h 6), .int .i64 (h 7), .slice c m.length cc] 26)) := ⟨_, rfl⟩
  have O : Off (fun _ => False) w W := by rw [hW]; exact (((Off.refl _ w).alloc _).alloc _).alloc _
  have C0 : Cel w.heap.size 26 #[.int .i64 (f 0), .int .i64 (f 1), .int .i64 (f 2), .int .i64 (f 3), .int .i64 (f 4), .int .i64 (f 5), .int .i64 (f 6), .int .i64 (f 7), .slice a l.length ca] W := by rw [hW]; exact ((Cel.new w _ _).alloc _).alloc _
  have C1 : Cel (w.heap.size + 1) 26 #[.int .i64 (g 0), .int .i64 (g 1), .int .i64 (g 2), .int .i64 (g 3), .int .i64 (g 4), .int .i64 (g 5), .int .i64 (g 6), .int .i64 (g 7), .slice b k.length cb] W := by rw [hW]; exact (Cel.new1 w _ _ _).alloc _
  have C2 : Cel (w.heap.size + 2) 26 #[.int .i64 (h 0), .int .i64 (h 1), .int .i64 (h 2), .int .i64 (h 3), .int .i64 (h 4), .int .i64 (h 5), .int .i64 (h 6), .int .i64 (h 7), .slice c m.length cc] W := by rw [hW]; exact Cel.new2 w _ _ _ _
  have HW : Hid _ := hW.symm
  have H0 : Hid _ := C0
  have H1 : Hid _ := C1
  have H2 : Hid _ := C2
  have HO : Hid _ := O
  have HR1 : Hid _ := ra.off O
  have HR2 : Hid _ := rb.off O
  have HR3 : Hid _ := rc.off O
  clear hW C0 C1 C2 O ra rb rc
  go_enter Try.func7, Try.ntmps7
  go_upto_region 1 with fail
  rw [HW.out]
  generalize hq2 : w.heap.size + 1 + 1 = q2 at ⊢
  rw [show w.heap.size + 2 = q2 by omega] at H2
  generalize hq1 : w.heap.size + 1 = q1 at H1 ⊢
  generalize hq0 : w.heap.size = q0 at H0 ⊢
  clear hq0 hq1 hq2 HW
  obtain ⟨x0, x1, x2, x3, x4, x5, x6, x7, x8⟩ := cel9 H0.out
  obtain ⟨y0, y1, y2, y3, y4, y5, y6, y7, y8⟩ := cel9 H1.out
  obtain ⟨z0, z1, z2, z3, z4, z5, z6, z7, z8⟩ := cel9 H2.out
  have OA : Off (fun _ => False) W (W.alloc (.cells #[.int .i64 (f 0), .int .i64 (f 1), .int .i64 (f 2), .int .i64 (f 3), .int .i64 (f 4), .int .i64 (f 5), .int .i64 (f 6), .int .i64 (f 7), .slice a l.length ca, .int .i64 (g 0), .int .i64 (g 1), .int .i64 (g 2), .int .i64 (g 3), .int .i64 (g 4), .int .i64 (g 5), .int .i64 (g 6), .int .i64 (g 7), .slice b k.length cb, .int .i64 (h 0), .int .i64 (h 1), .int .i64 (h 2), .int .i64 (h 3), .int .i64 (h 4), .int .i64 (h 5), .int .i64 (h 6), .int .i64 (h 7), .slice c m.length cc] 26)) := (Off.refl _ W).alloc _
  have SL := sl3 (Cel.new W 26 #[.int .i64 (f 0), .int .i64 (f 1), .int .i64 (f 2), .int .i64 (f 3), .int .i64 (f 4), .int .i64 (f 5), .int .i64 (f 6), .int .i64 (f 7), .slice a l.length ca, .int .i64 (g 0), .int .i64 (g 1), .int .i64 (g 2), .int .i64 (g 3), .int .i64 (g 4), .int .i64 (g 5), .int .i64 (g 6), .int .i64 (g 7), .slice b k.length cb, .int .i64 (h 0), .int .i64 (h 1), .int .i64 (h 2), .int .i64 (h 3), .int .i64 (h 4), .int .i64 (h 5), .int .i64 (h 6), .int .i64 (h 7), .slice c m.length cc]) (HR1.out.off OA) (HR2.out.off OA) (HR3.out.off OA)
  have HSL : Hid _ := SL
  have HOA : Hid _ := OA
  clear SL OA
  cases hf : fewB [⟨f, a, ca, l⟩, ⟨g, b, cb, k⟩, ⟨h, c, cc, m⟩]
  · go_wp2_with fail
    refine (few_any _ 3 _ _ HSL.out (by simp)).mono ?_
    rw [hf]
    rintro e w1 ⟨rfl, o1⟩
    clear x0 x1 x2 x3 x4 x5 x6 x7 x8 y0 y1 y2 y3 y4 y5 y6 y7 y8 z0 z1 z2 z3 z4 z5 z6 z7 z8
    go_wp2_with fail
    refine (awake_any _).mono ?_
    rintro e w9 ⟨rfl, o9⟩
    go_wp2_with fail
    go_ret
    exact ⟨rfl, HO.out.trans ((HOA.out.trans o1 (fun _ _ h => h)).trans o9 (fun _ _ h => h)) (fun _ _ h => h)⟩
  simp only [fewB, decide_eq_true_eq, List.mem_cons, List.not_mem_nil, or_false, forall_eq_or_imp, forall_eq, List.map_cons, List.map_nil, List.sum_cons, List.sum_nil] at hf
  go_wp2_with fail
  refine (few_any _ 3 _ _ HSL.out (by simp)).mono ?_
  rw [show fewB [⟨f, a, ca, l⟩, ⟨g, b, cb, k⟩, ⟨h, c, cc, m⟩] = true by simp only [fewB, decide_eq_true_eq, List.mem_cons, List.not_mem_nil, or_false, forall_eq_or_imp, forall_eq, List.map_cons, List.map_nil, List.sum_cons, List.sum_nil]; exact hf]
  rintro e w1 ⟨rfl, o1⟩
  replace o1 := HOA.out.trans o1 (fun _ _ h => h)
  have HMA : Hid _ := hf.1.1
  have HMB : Hid _ := hf.1.2.1
  have HMC : Hid _ := hf.1.2.2
  have HN : Hid ((cont l).length + (cont k).length + (cont m).length ≤ 16) := by show _ ≤ 16; rw [cont_len, cont_len, cont_len]; have := hf.2; omega
  clear x0 x1 x2 x3 x4 x5 x6 x7 x8 y0 y1 y2 y3 y4 y5 y6 y7 y8 z0 z1 z2 z3 z4 z5 z6 z7 z8 hf
  obtain ⟨x0, x1, x2, x3, x4, x5, x6, x7, x8⟩ := cel9 (H0.out.off o1 (fun h => h))
  obtain ⟨y0, y1, y2, y3, y4, y5, y6, y7, y8⟩ := cel9 (H1.out.off o1 (fun h => h))
  have r1 := HR1.out.off o1
  have r2 := HR2.out.off o1
  have HO1 : Hid _ := o1
  clear o1 HSL HOA
  go_wp2_with fail
  refine (sjoin_any f g a b ca cb l k _ r1 r2).mono ?_
  rintro e w2 ⟨j, aj, cj, lj, rfl, hjv, hjl, mdj, o2⟩
  have HJV : Hid _ := hjv
  have HJL : Hid _ := hjl
  have O2 := HO1.out.trans o2 (fun _ _ h => h)
  clear hjv hjl x0 x1 x2 x3 x4 x5 x6 x7 x8 y0 y1 y2 y3 y4 y5 y6 y7 y8 r1 r2 HO1
  go_upto_region 4 with fail
  have C7 := Cel.new w2 26 #[.int .i64 (j 0), .int .i64 (j 1), .int .i64 (j 2), .int .i64 (j 3), .int .i64 (j 4), .int .i64 (j 5), .int .i64 (j 6), .int .i64 (j 7), .slice aj lj.length cj]
  have O3 : Off (fun _ => False) w2 (w2.alloc (.cells #[.int .i64 (j 0), .int .i64 (j 1), .int .i64 (j 2), .int .i64 (j 3), .int .i64 (j 4), .int .i64 (j 5), .int .i64 (j 6), .int .i64 (j 7), .slice aj lj.length cj] 26)) := (Off.refl _ w2).alloc _
  have rj := mdj.row.off O3
  replace O2 := O2.trans O3 (fun _ _ h => h)
  generalize hq7 : w2.heap.size = q7 at C7 ⊢
  generalize hv : w2.alloc (.cells #[.int .i64 (j 0), .int .i64 (j 1), .int .i64 (j 2), .int .i64 (j 3), .int .i64 (j 4), .int .i64 (j 5), .int .i64 (j 6), .int .i64 (j 7), .slice aj lj.length cj] 26) = V at C7 O2 rj ⊢
  clear hq7 hv O3 mdj o2
  have G0 : Hid _ := H0.out.off O2 (fun h => h)
  have G1 : Hid _ := H1.out.off O2 (fun h => h)
  have G2 : Hid _ := H2.out.off O2 (fun h => h)
  have G7 : Hid _ := C7
  have HRA : Hid _ := HR1.out.off O2
  have HRB : Hid _ := HR2.out.off O2
  have HRC : Hid _ := HR3.out.off O2
  have HRJ : Hid _ := rj
  have HOV : Hid _ := HO.out.trans O2 (fun _ _ h => h)
  clear H0 H1 H2 HR1 HR2 HR3 HO C7 O2 rj
  refine wp_region_held_drew (S := fun w' => Off (fun _ => False) V w') (by kernel_rfl) ((Off.refl _ V).drew) (fun hS => ?_)
  refine take_at (i := 0) 18 (v := .agg #[.int .i64 (j 0), .int .i64 (j 1), .int .i64 (j 2), .int .i64 (j 3), .int .i64 (j 4), .int .i64 (j 5), .int .i64 (j 6), .int .i64 (j 7), .slice aj lj.length cj]) rfl rfl (by kernel_rfl) (by kernel_rfl) (by kernel_rfl) (fun _ _ _ h => h) (Or.inl ⟨by rfl, fun w' hw' => by obtain ⟨x0, x1, x2, x3, x4, x5, x6, x7, x8⟩ := cel9 (G7.out.off hw' (fun h => h)); go_simp⟩) hS ?_
  simp only [Act.put, List.setIfInBounds_toArray, List.set_cons_zero, List.set_cons_succ]
  refine take_at (i := 1) 19 (v := .agg #[.int .i64 (g 0), .int .i64 (g 1), .int .i64 (g 2), .int .i64 (g 3), .int .i64 (g 4), .int .i64 (g 5), .int .i64 (g 6), .int .i64 (g 7), .slice b k.length cb]) rfl rfl (by kernel_rfl) (by kernel_rfl) (by kernel_rfl) (fun _ _ _ h => h) (Or.inl ⟨by rfl, fun w' hw' => by obtain ⟨x0, x1, x2, x3, x4, x5, x6, x7, x8⟩ := cel9 (G1.out.off hw' (fun h => h)); go_simp⟩) hS ?_
  simp only [Act.put, List.setIfInBounds_toArray, List.set_cons_zero, List.set_cons_succ]
  refine take_at (i := 2) 20 (v := .agg #[.int .i64 (f 0), .int .i64 (f 1), .int .i64 (f 2), .int .i64 (f 3), .int .i64 (f 4), .int .i64 (f 5), .int .i64 (f 6), .int .i64 (f 7), .slice a l.length ca]) rfl rfl (by kernel_rfl) (by kernel_rfl) (by kernel_rfl) (fun _ _ _ h => h) (Or.inl ⟨by rfl, fun w' hw' => by obtain ⟨x0, x1, x2, x3, x4, x5, x6, x7, x8⟩ := cel9 (G0.out.off hw' (fun h => h)); go_simp⟩) hS ?_
  simp only [Act.put, List.setIfInBounds_toArray, List.set_cons_zero, List.set_cons_succ]
  have rx := HRB.out.off hS
  have ry := HRA.out.off hS
  refine wpAnyH_ready (rs := [3]) (by kernel_rfl) (by simp) ?_
  refine AllReadyH.cons rfl (fun K' hK' => ?_) AllReadyH.nil
  go_simp
  refine (sjoin_any g f b a cb ca k l _ rx ry).mono ?_
  rintro e v3 ⟨j3, a3, c3, l3, rfl, hv3, hl3, md3, o3⟩
  have hS1 := hS.trans o3 (fun _ _ h => h)
  refine hK'.out _ _ hS1 (fun hS => ?_)
  clear hK' K' hS1
  have HV3 : Hid _ := hv3
  have HL3 : Hid _ := hl3
  have HM3 : Hid _ := md3.row
  have w3 := o3
  clear hv3 hl3 md3 rx ry o3 w3
  have rx := HRJ.out.off hS
  have ry := HM3.out
  refine wpAnyH_ready (rs := [4]) (by kernel_rfl) (by simp) ?_
  refine AllReadyH.cons rfl (fun K' hK' => ?_) AllReadyH.nil
  go_simp
  refine (ssame_any j j3 aj a3 cj c3 lj l3 _ rx ry).mono ?_
  rw [HJV.out, HJL.out, HV3.out, HL3.out, ord_comm HMA.out HMB.out (by have := HN.out; omega)]
  rintro e v4 ⟨rfl, o4⟩
  have hS1 := hS.trans o4 (fun _ _ h => h)
  refine hK'.out _ _ hS1 (fun hS => ?_)
  clear hK' K' hS1
  have HMn : Hid _ := HM3.out.off o4
  clear HM3
  have HM3 : Hid _ := HMn.out
  clear HMn
  clear o4 rx ry
  refine take_at (i := 5) 23 (v := .bool false) rfl rfl (by kernel_rfl) (by kernel_rfl) (by kernel_rfl) (fun _ _ _ h => h) (Or.inl ⟨by rfl, fun w' hw' => by go_simp⟩) hS ?_
  simp only [Act.put, List.setIfInBounds_toArray, List.set_cons_zero, List.set_cons_succ]
  refine take_at (i := 6) 24 (v := .bool false) rfl rfl (by kernel_rfl) (by kernel_rfl) (by kernel_rfl) (fun _ _ _ h => h) (Or.inl ⟨by rfl, fun w' hw' => by go_simp⟩) hS ?_
  simp only [Act.put, List.setIfInBounds_toArray, List.set_cons_zero, List.set_cons_succ]
  refine take_at (i := 7) 25 (v := .agg #[.int .i64 (f 0), .int .i64 (f 1), .int .i64 (f 2), .int .i64 (f 3), .int .i64 (f 4), .int .i64 (f 5), .int .i64 (f 6), .int .i64 (f 7), .slice a l.length ca]) rfl rfl (by kernel_rfl) (by kernel_rfl) (by kernel_rfl) (fun _ _ _ h => h) (Or.inl ⟨by rfl, fun w' hw' => by obtain ⟨x0, x1, x2, x3, x4, x5, x6, x7, x8⟩ := cel9 (G0.out.off hw' (fun h => h)); go_simp⟩) hS ?_
  simp only [Act.put, List.setIfInBounds_toArray, List.set_cons_zero, List.set_cons_succ]
  refine take_at (i := 8) 26 (v := .agg #[.int .i64 (f 0), .int .i64 (f 1), .int .i64 (f 2), .int .i64 (f 3), .int .i64 (f 4), .int .i64 (f 5), .int .i64 (f 6), .int .i64 (f 7), .slice a l.length ca]) rfl rfl (by kernel_rfl) (by kernel_rfl) (by kernel_rfl) (fun _ _ _ h => h) (Or.inl ⟨by rfl, fun w' hw' => by obtain ⟨x0, x1, x2, x3, x4, x5, x6, x7, x8⟩ := cel9 (G0.out.off hw' (fun h => h)); go_simp⟩) hS ?_
  simp only [Act.put, List.setIfInBounds_toArray, List.set_cons_zero, List.set_cons_succ]
  refine take_at (i := 10) 28 (v := .agg #[.int .i64 (f 0), .int .i64 (f 1), .int .i64 (f 2), .int .i64 (f 3), .int .i64 (f 4), .int .i64 (f 5), .int .i64 (f 6), .int .i64 (f 7), .slice a l.length ca]) rfl rfl (by kernel_rfl) (by kernel_rfl) (by kernel_rfl) (fun _ _ _ h => h) (Or.inl ⟨by rfl, fun w' hw' => by obtain ⟨x0, x1, x2, x3, x4, x5, x6, x7, x8⟩ := cel9 (G0.out.off hw' (fun h => h)); go_simp⟩) hS ?_
  simp only [Act.put, List.setIfInBounds_toArray, List.set_cons_zero, List.set_cons_succ]
  have rx := HRA.out.off hS
  have ry := HRA.out.off hS
  refine wpAnyH_ready (rs := [9]) (by kernel_rfl) (by simp) ?_
  refine AllReadyH.cons rfl (fun K' hK' => ?_) AllReadyH.nil
  go_simp
  refine (sjoin_any f f a a ca ca l l _ rx ry).mono ?_
  rintro e v9 ⟨j9, a9, c9, l9, rfl, hv9, hl9, md9, o9⟩
  have hS1 := hS.trans o9 (fun _ _ h => h)
  refine hK'.out _ _ hS1 (fun hS => ?_)
  clear hK' K' hS1
  have HV9 : Hid _ := hv9
  have HL9 : Hid _ := hl9
  have HM9 : Hid _ := md9.row
  have w9 := o9
  have HMn : Hid _ := HM3.out.off o9
  clear HM3
  have HM3 : Hid _ := HMn.out
  clear HMn
  clear hv9 hl9 md9 rx ry o9 w9
  have rx := HM9.out
  have ry := HRA.out.off hS
  refine wpAnyH_ready (rs := [11]) (by kernel_rfl) (by simp) ?_
  refine AllReadyH.cons rfl (fun K' hK' => ?_) AllReadyH.nil
  go_simp
  refine (ssame_any j9 f a9 a c9 ca l9 l _ rx ry).mono ?_
  rw [HV9.out, HL9.out, ord_self HMA.out]
  rintro e v11 ⟨rfl, o11⟩
  have hS1 := hS.trans o11 (fun _ _ h => h)
  refine hK'.out _ _ hS1 (fun hS => ?_)
  clear hK' K' hS1
  have HMn : Hid _ := HM3.out.off o11
  clear HM3
  have HM3 : Hid _ := HMn.out
  clear HMn
  have HMn : Hid _ := HM9.out.off o11
  clear HM9
  have HM9 : Hid _ := HMn.out
  clear HMn
  clear o11 rx ry
  refine take_at (i := 12) 30 (v := .bool false) rfl rfl (by kernel_rfl) (by kernel_rfl) (by kernel_rfl) (fun _ _ _ h => h) (Or.inl ⟨by rfl, fun w' hw' => by go_simp⟩) hS ?_
  simp only [Act.put, List.setIfInBounds_toArray, List.set_cons_zero, List.set_cons_succ]
  refine take_at (i := 13) 31 (v := .bool false) rfl rfl (by kernel_rfl) (by kernel_rfl) (by kernel_rfl) (fun _ _ _ h => h) (Or.inl ⟨by rfl, fun w' hw' => by go_simp⟩) hS ?_
  simp only [Act.put, List.setIfInBounds_toArray, List.set_cons_zero, List.set_cons_succ]
  refine take_at (i := 14) 32 (v := .bool false) rfl rfl (by kernel_rfl) (by kernel_rfl) (by kernel_rfl) (fun _ _ _ h => h) (Or.inl ⟨by rfl, fun w' hw' => by go_simp⟩) hS ?_
  simp only [Act.put, List.setIfInBounds_toArray, List.set_cons_zero, List.set_cons_succ]
  refine take_at (i := 15) 33 (v := .agg #[.int .i64 (j 0), .int .i64 (j 1), .int .i64 (j 2), .int .i64 (j 3), .int .i64 (j 4), .int .i64 (j 5), .int .i64 (j 6), .int .i64 (j 7), .slice aj lj.length cj]) rfl rfl (by kernel_rfl) (by kernel_rfl) (by kernel_rfl) (fun _ _ _ h => h) (Or.inl ⟨by rfl, fun w' hw' => by obtain ⟨x0, x1, x2, x3, x4, x5, x6, x7, x8⟩ := cel9 (G7.out.off hw' (fun h => h)); go_simp⟩) hS ?_
  simp only [Act.put, List.setIfInBounds_toArray, List.set_cons_zero, List.set_cons_succ]
  refine take_at (i := 16) 34 (v := .agg #[.int .i64 (h 0), .int .i64 (h 1), .int .i64 (h 2), .int .i64 (h 3), .int .i64 (h 4), .int .i64 (h 5), .int .i64 (h 6), .int .i64 (h 7), .slice c m.length cc]) rfl rfl (by kernel_rfl) (by kernel_rfl) (by kernel_rfl) (fun _ _ _ h => h) (Or.inl ⟨by rfl, fun w' hw' => by obtain ⟨x0, x1, x2, x3, x4, x5, x6, x7, x8⟩ := cel9 (G2.out.off hw' (fun h => h)); go_simp⟩) hS ?_
  simp only [Act.put, List.setIfInBounds_toArray, List.set_cons_zero, List.set_cons_succ]
  refine take_at (i := 18) 36 (v := .agg #[.int .i64 (f 0), .int .i64 (f 1), .int .i64 (f 2), .int .i64 (f 3), .int .i64 (f 4), .int .i64 (f 5), .int .i64 (f 6), .int .i64 (f 7), .slice a l.length ca]) rfl rfl (by kernel_rfl) (by kernel_rfl) (by kernel_rfl) (fun _ _ _ h => h) (Or.inl ⟨by rfl, fun w' hw' => by obtain ⟨x0, x1, x2, x3, x4, x5, x6, x7, x8⟩ := cel9 (G0.out.off hw' (fun h => h)); go_simp⟩) hS ?_
  simp only [Act.put, List.setIfInBounds_toArray, List.set_cons_zero, List.set_cons_succ]
  refine take_at (i := 19) 37 (v := .agg #[.int .i64 (g 0), .int .i64 (g 1), .int .i64 (g 2), .int .i64 (g 3), .int .i64 (g 4), .int .i64 (g 5), .int .i64 (g 6), .int .i64 (g 7), .slice b k.length cb]) rfl rfl (by kernel_rfl) (by kernel_rfl) (by kernel_rfl) (fun _ _ _ h => h) (Or.inl ⟨by rfl, fun w' hw' => by obtain ⟨x0, x1, x2, x3, x4, x5, x6, x7, x8⟩ := cel9 (G1.out.off hw' (fun h => h)); go_simp⟩) hS ?_
  simp only [Act.put, List.setIfInBounds_toArray, List.set_cons_zero, List.set_cons_succ]
  refine take_at (i := 20) 38 (v := .agg #[.int .i64 (h 0), .int .i64 (h 1), .int .i64 (h 2), .int .i64 (h 3), .int .i64 (h 4), .int .i64 (h 5), .int .i64 (h 6), .int .i64 (h 7), .slice c m.length cc]) rfl rfl (by kernel_rfl) (by kernel_rfl) (by kernel_rfl) (fun _ _ _ h => h) (Or.inl ⟨by rfl, fun w' hw' => by obtain ⟨x0, x1, x2, x3, x4, x5, x6, x7, x8⟩ := cel9 (G2.out.off hw' (fun h => h)); go_simp⟩) hS ?_
  simp only [Act.put, List.setIfInBounds_toArray, List.set_cons_zero, List.set_cons_succ]
  have rx := HRJ.out.off hS
  have ry := HRC.out.off hS
  refine wpAnyH_ready (rs := [17]) (by kernel_rfl) (by simp) ?_
  refine AllReadyH.cons rfl (fun K' hK' => ?_) AllReadyH.nil
  go_simp
  refine (sjoin_any j h aj c cj cc lj m _ rx ry).mono ?_
  rintro e v17 ⟨j17, a17, c17, l17, rfl, hv17, hl17, md17, o17⟩
  have hS1 := hS.trans o17 (fun _ _ h => h)
  refine hK'.out _ _ hS1 (fun hS => ?_)
  clear hK' K' hS1
  have HV17 : Hid _ := hv17
  have HL17 : Hid _ := hl17
  have HM17 : Hid _ := md17.row
  have w17 := o17
  have HMn : Hid _ := HM3.out.off o17
  clear HM3
  have HM3 : Hid _ := HMn.out
  clear HMn
  have HMn : Hid _ := HM9.out.off o17
  clear HM9
  have HM9 : Hid _ := HMn.out
  clear HMn
  clear hv17 hl17 md17 rx ry o17 w17
  have rx := HRB.out.off hS
  have ry := HRC.out.off hS
  refine wpAnyH_ready (rs := [21]) (by kernel_rfl) (by simp) ?_
  refine AllReadyH.cons rfl (fun K' hK' => ?_) AllReadyH.nil
  go_simp
  refine (sjoin_any g h b c cb cc k m _ rx ry).mono ?_
  rintro e v21 ⟨j21, a21, c21, l21, rfl, hv21, hl21, md21, o21⟩
  have hS1 := hS.trans o21 (fun _ _ h => h)
  refine hK'.out _ _ hS1 (fun hS => ?_)
  clear hK' K' hS1
  have HV21 : Hid _ := hv21
  have HL21 : Hid _ := hl21
  have HM21 : Hid _ := md21.row
  have w21 := o21
  have HMn : Hid _ := HM3.out.off o21
  clear HM3
  have HM3 : Hid _ := HMn.out
  clear HMn
  have HMn : Hid _ := HM9.out.off o21
  clear HM9
  have HM9 : Hid _ := HMn.out
  clear HMn
  have HMn : Hid _ := HM17.out.off o21
  clear HM17
  have HM17 : Hid _ := HMn.out
  clear HMn
  clear hv21 hl21 md21 rx ry o21 w21
  have rx := HRA.out.off hS
  have ry := HM21.out
  refine wpAnyH_ready (rs := [22]) (by kernel_rfl) (by simp) ?_
  refine AllReadyH.cons rfl (fun K' hK' => ?_) AllReadyH.nil
  go_simp
  refine (sjoin_any f j21 a a21 ca c21 l l21 _ rx ry).mono ?_
  rintro e v22 ⟨j22, a22, c22, l22, rfl, hv22, hl22, md22, o22⟩
  have hS1 := hS.trans o22 (fun _ _ h => h)
  refine hK'.out _ _ hS1 (fun hS => ?_)
  clear hK' K' hS1
  have HV22 : Hid _ := hv22
  have HL22 : Hid _ := hl22
  have HM22 : Hid _ := md22.row
  have w22 := o22
  have HMn : Hid _ := HM3.out.off o22
  clear HM3
  have HM3 : Hid _ := HMn.out
  clear HMn
  have HMn : Hid _ := HM9.out.off o22
  clear HM9
  have HM9 : Hid _ := HMn.out
  clear HMn
  have HMn : Hid _ := HM17.out.off o22
  clear HM17
  have HM17 : Hid _ := HMn.out
  clear HMn
  have HMn : Hid _ := HM21.out.off o22
  clear HM21
  have HM21 : Hid _ := HMn.out
  clear HMn
  clear hv22 hl22 md22 rx ry o22 w22
  have rx := HM17.out
  have ry := HM22.out
  refine wpAnyH_ready (rs := [23]) (by kernel_rfl) (by simp) ?_
  refine AllReadyH.cons rfl (fun K' hK' => ?_) AllReadyH.nil
  go_simp
  refine (ssame_any j17 j22 a17 a22 c17 c22 l17 l22 _ rx ry).mono ?_
  rw [HV17.out, HL17.out, HV22.out, HL22.out, HV21.out, HL21.out, HJV.out, HJL.out, ord_assoc HMA.out HMB.out HMC.out (by have := HN.out; omega)]
  rintro e v23 ⟨rfl, o23⟩
  have hS1 := hS.trans o23 (fun _ _ h => h)
  refine hK'.out _ _ hS1 (fun hS => ?_)
  clear hK' K' hS1
  have HMn : Hid _ := HM3.out.off o23
  clear HM3
  have HM3 : Hid _ := HMn.out
  clear HMn
  have HMn : Hid _ := HM9.out.off o23
  clear HM9
  have HM9 : Hid _ := HMn.out
  clear HMn
  have HMn : Hid _ := HM17.out.off o23
  clear HM17
  have HM17 : Hid _ := HMn.out
  clear HMn
  have HMn : Hid _ := HM21.out.off o23
  clear HM21
  have HM21 : Hid _ := HMn.out
  clear HMn
  have HMn : Hid _ := HM22.out.off o23
  clear HM22
  have HM22 : Hid _ := HMn.out
  clear HMn
  clear o23 rx ry
  refine take_at (i := 24) 42 (v := .bool false) rfl rfl (by kernel_rfl) (by kernel_rfl) (by kernel_rfl) (fun _ _ _ h => h) (Or.inl ⟨by rfl, fun w' hw' => by go_simp⟩) hS ?_
  simp only [Act.put, List.setIfInBounds_toArray, List.set_cons_zero, List.set_cons_succ]
  refine take_at (i := 25) 43 (v := .bool false) rfl rfl (by kernel_rfl) (by kernel_rfl) (by kernel_rfl) (fun _ _ _ h => h) (Or.inl ⟨by rfl, fun w' hw' => by go_simp⟩) hS ?_
  simp only [Act.put, List.setIfInBounds_toArray, List.set_cons_zero, List.set_cons_succ]
  refine take_at (i := 26) 44 (v := .bool false) rfl rfl (by kernel_rfl) (by kernel_rfl) (by kernel_rfl) (fun _ _ _ h => h) (Or.inl ⟨by rfl, fun w' hw' => by go_simp⟩) hS ?_
  simp only [Act.put, List.setIfInBounds_toArray, List.set_cons_zero, List.set_cons_succ]
  refine take_at (i := 27) 45 (v := .agg #[.int .i64 (f 0), .int .i64 (f 1), .int .i64 (f 2), .int .i64 (f 3), .int .i64 (f 4), .int .i64 (f 5), .int .i64 (f 6), .int .i64 (f 7), .slice a l.length ca]) rfl rfl (by kernel_rfl) (by kernel_rfl) (by kernel_rfl) (fun _ _ _ h => h) (Or.inl ⟨by rfl, fun w' hw' => by obtain ⟨x0, x1, x2, x3, x4, x5, x6, x7, x8⟩ := cel9 (G0.out.off hw' (fun h => h)); go_simp⟩) hS ?_
  simp only [Act.put, List.setIfInBounds_toArray, List.set_cons_zero, List.set_cons_succ]
  refine take_at (i := 28) 46 (v := .agg #[.int .i64 (j 0), .int .i64 (j 1), .int .i64 (j 2), .int .i64 (j 3), .int .i64 (j 4), .int .i64 (j 5), .int .i64 (j 6), .int .i64 (j 7), .slice aj lj.length cj]) rfl rfl (by kernel_rfl) (by kernel_rfl) (by kernel_rfl) (fun _ _ _ h => h) (Or.inl ⟨by rfl, fun w' hw' => by obtain ⟨x0, x1, x2, x3, x4, x5, x6, x7, x8⟩ := cel9 (G7.out.off hw' (fun h => h)); go_simp⟩) hS ?_
  simp only [Act.put, List.setIfInBounds_toArray, List.set_cons_zero, List.set_cons_succ]
  have rx := HRA.out.off hS
  have ry := HRJ.out.off hS
  refine wpAnyH_ready (rs := [29]) (by kernel_rfl) (by simp) ?_
  refine AllReadyH.cons rfl (fun K' hK' => ?_) AllReadyH.nil
  go_simp
  refine (sleq_any f j a aj ca cj l lj _ rx ry).mono ?_
  rw [HJV.out, HJL.out, ord_left HMA.out HMB.out (by have := HN.out; omega)]
  rintro e v29 ⟨rfl, o29⟩
  have hS1 := hS.trans o29 (fun _ _ h => h)
  refine hK'.out _ _ hS1 (fun hS => ?_)
  clear hK' K' hS1
  have HMn : Hid _ := HM3.out.off o29
  clear HM3
  have HM3 : Hid _ := HMn.out
  clear HMn
  have HMn : Hid _ := HM9.out.off o29
  clear HM9
  have HM9 : Hid _ := HMn.out
  clear HMn
  have HMn : Hid _ := HM17.out.off o29
  clear HM17
  have HM17 : Hid _ := HMn.out
  clear HMn
  have HMn : Hid _ := HM21.out.off o29
  clear HM21
  have HM21 : Hid _ := HMn.out
  clear HMn
  have HMn : Hid _ := HM22.out.off o29
  clear HM22
  have HM22 : Hid _ := HMn.out
  clear HMn
  clear o29 rx ry
  refine take_at (i := 30) 48 (v := .bool false) rfl rfl (by kernel_rfl) (by kernel_rfl) (by kernel_rfl) (fun _ _ _ h => h) (Or.inl ⟨by rfl, fun w' hw' => by go_simp⟩) hS ?_
  simp only [Act.put, List.setIfInBounds_toArray, List.set_cons_zero, List.set_cons_succ]
  refine take_at (i := 31) 49 (v := .bool false) rfl rfl (by kernel_rfl) (by kernel_rfl) (by kernel_rfl) (fun _ _ _ h => h) (Or.inl ⟨by rfl, fun w' hw' => by go_simp⟩) hS ?_
  simp only [Act.put, List.setIfInBounds_toArray, List.set_cons_zero, List.set_cons_succ]
  refine take_at (i := 32) 50 (v := .bool false) rfl rfl (by kernel_rfl) (by kernel_rfl) (by kernel_rfl) (fun _ _ _ h => h) (Or.inl ⟨by rfl, fun w' hw' => by go_simp⟩) hS ?_
  simp only [Act.put, List.setIfInBounds_toArray, List.set_cons_zero, List.set_cons_succ]
  refine take_at (i := 33) 51 (v := .agg #[.int .i64 (g 0), .int .i64 (g 1), .int .i64 (g 2), .int .i64 (g 3), .int .i64 (g 4), .int .i64 (g 5), .int .i64 (g 6), .int .i64 (g 7), .slice b k.length cb]) rfl rfl (by kernel_rfl) (by kernel_rfl) (by kernel_rfl) (fun _ _ _ h => h) (Or.inl ⟨by rfl, fun w' hw' => by obtain ⟨x0, x1, x2, x3, x4, x5, x6, x7, x8⟩ := cel9 (G1.out.off hw' (fun h => h)); go_simp⟩) hS ?_
  simp only [Act.put, List.setIfInBounds_toArray, List.set_cons_zero, List.set_cons_succ]
  refine take_at (i := 34) 52 (v := .agg #[.int .i64 (j 0), .int .i64 (j 1), .int .i64 (j 2), .int .i64 (j 3), .int .i64 (j 4), .int .i64 (j 5), .int .i64 (j 6), .int .i64 (j 7), .slice aj lj.length cj]) rfl rfl (by kernel_rfl) (by kernel_rfl) (by kernel_rfl) (fun _ _ _ h => h) (Or.inl ⟨by rfl, fun w' hw' => by obtain ⟨x0, x1, x2, x3, x4, x5, x6, x7, x8⟩ := cel9 (G7.out.off hw' (fun h => h)); go_simp⟩) hS ?_
  simp only [Act.put, List.setIfInBounds_toArray, List.set_cons_zero, List.set_cons_succ]
  have rx := HRB.out.off hS
  have ry := HRJ.out.off hS
  refine wpAnyH_ready (rs := [35]) (by kernel_rfl) (by simp) ?_
  refine AllReadyH.cons rfl (fun K' hK' => ?_) AllReadyH.nil
  go_simp
  refine (sleq_any g j b aj cb cj k lj _ rx ry).mono ?_
  rw [HJV.out, HJL.out, ord_right HMA.out HMB.out (by have := HN.out; omega)]
  rintro e v35 ⟨rfl, o35⟩
  have hS1 := hS.trans o35 (fun _ _ h => h)
  refine hK'.out _ _ hS1 (fun hS => ?_)
  clear hK' K' hS1
  have HMn : Hid _ := HM3.out.off o35
  clear HM3
  have HM3 : Hid _ := HMn.out
  clear HMn
  have HMn : Hid _ := HM9.out.off o35
  clear HM9
  have HM9 : Hid _ := HMn.out
  clear HMn
  have HMn : Hid _ := HM17.out.off o35
  clear HM17
  have HM17 : Hid _ := HMn.out
  clear HMn
  have HMn : Hid _ := HM21.out.off o35
  clear HM21
  have HM21 : Hid _ := HMn.out
  clear HMn
  have HMn : Hid _ := HM22.out.off o35
  clear HM22
  have HM22 : Hid _ := HMn.out
  clear HMn
  clear o35 rx ry
  refine take_at (i := 36) 54 (v := .bool false) rfl rfl (by kernel_rfl) (by kernel_rfl) (by kernel_rfl) (fun _ _ _ h => h) (Or.inl ⟨by rfl, fun w' hw' => by go_simp⟩) hS ?_
  simp only [Act.put, List.setIfInBounds_toArray, List.set_cons_zero, List.set_cons_succ]
  refine take_at (i := 37) 55 (v := .bool false) rfl rfl (by kernel_rfl) (by kernel_rfl) (by kernel_rfl) (fun _ _ _ h => h) (Or.inl ⟨by rfl, fun w' hw' => by go_simp⟩) hS ?_
  simp only [Act.put, List.setIfInBounds_toArray, List.set_cons_zero, List.set_cons_succ]
  refine take_at (i := 38) 56 (v := .bool false) rfl rfl (by kernel_rfl) (by kernel_rfl) (by kernel_rfl) (fun _ _ _ h => h) (Or.inl ⟨by rfl, fun w' hw' => by go_simp⟩) hS ?_
  simp only [Act.put, List.setIfInBounds_toArray, List.set_cons_zero, List.set_cons_succ]
  refine take_at (i := 39) 57 (v := .agg #[.int .i64 (f 0), .int .i64 (f 1), .int .i64 (f 2), .int .i64 (f 3), .int .i64 (f 4), .int .i64 (f 5), .int .i64 (f 6), .int .i64 (f 7), .slice a l.length ca]) rfl rfl (by kernel_rfl) (by kernel_rfl) (by kernel_rfl) (fun _ _ _ h => h) (Or.inl ⟨by rfl, fun w' hw' => by obtain ⟨x0, x1, x2, x3, x4, x5, x6, x7, x8⟩ := cel9 (G0.out.off hw' (fun h => h)); go_simp⟩) hS ?_
  simp only [Act.put, List.setIfInBounds_toArray, List.set_cons_zero, List.set_cons_succ]
  refine take_at (i := 40) 58 (v := .agg #[.int .i64 (f 0), .int .i64 (f 1), .int .i64 (f 2), .int .i64 (f 3), .int .i64 (f 4), .int .i64 (f 5), .int .i64 (f 6), .int .i64 (f 7), .slice a l.length ca]) rfl rfl (by kernel_rfl) (by kernel_rfl) (by kernel_rfl) (fun _ _ _ h => h) (Or.inl ⟨by rfl, fun w' hw' => by obtain ⟨x0, x1, x2, x3, x4, x5, x6, x7, x8⟩ := cel9 (G0.out.off hw' (fun h => h)); go_simp⟩) hS ?_
  simp only [Act.put, List.setIfInBounds_toArray, List.set_cons_zero, List.set_cons_succ]
  have rx := HRA.out.off hS
  have ry := HRA.out.off hS
  refine wpAnyH_ready (rs := [41]) (by kernel_rfl) (by simp) ?_
  refine AllReadyH.cons rfl (fun K' hK' => ?_) AllReadyH.nil
  go_simp
  refine (sleq_any f f a a ca ca l l _ rx ry).mono ?_
  rw [ord_refl HMA.out]
  rintro e v41 ⟨rfl, o41⟩
  have hS1 := hS.trans o41 (fun _ _ h => h)
  refine hK'.out _ _ hS1 (fun hS => ?_)
  clear hK' K' hS1
  have HMn : Hid _ := HM3.out.off o41
  clear HM3
  have HM3 : Hid _ := HMn.out
  clear HMn
  have HMn : Hid _ := HM9.out.off o41
  clear HM9
  have HM9 : Hid _ := HMn.out
  clear HMn
  have HMn : Hid _ := HM17.out.off o41
  clear HM17
  have HM17 : Hid _ := HMn.out
  clear HMn
  have HMn : Hid _ := HM21.out.off o41
  clear HM21
  have HM21 : Hid _ := HMn.out
  clear HMn
  have HMn : Hid _ := HM22.out.off o41
  clear HM22
  have HM22 : Hid _ := HMn.out
  clear HMn
  clear o41 rx ry
  refine take_at (i := 42) 60 (v := .bool false) rfl rfl (by kernel_rfl) (by kernel_rfl) (by kernel_rfl) (fun _ _ _ h => h) (Or.inl ⟨by rfl, fun w' hw' => by go_simp⟩) hS ?_
  simp only [Act.put, List.setIfInBounds_toArray, List.set_cons_zero, List.set_cons_succ]
  refine take_at (i := 43) 61 (v := .bool false) rfl rfl (by kernel_rfl) (by kernel_rfl) (by kernel_rfl) (fun _ _ _ h => h) (Or.inl ⟨by rfl, fun w' hw' => by go_simp⟩) hS ?_
  simp only [Act.put, List.setIfInBounds_toArray, List.set_cons_zero, List.set_cons_succ]
  refine wpAnyH_done (by kernel_rfl) ?_ _
  clear HM3 HV3 HL3 HM9 HV9 HL9 HM17 HV17 HL17 HM21 HV21 HL21 HM22 HV22 HL22
  cases hab : leqS f g (cont l) (cont k)
  · obtain ⟨x0, x1, x2, x3, x4, x5, x6, x7, x8⟩ := cel9 (G0.out.off hS (fun h => h))
    obtain ⟨y0, y1, y2, y3, y4, y5, y6, y7, y8⟩ := cel9 (G1.out.off hS (fun h => h))
    obtain ⟨z0, z1, z2, z3, z4, z5, z6, z7, z8⟩ := cel9 (G2.out.off hS (fun h => h))
    obtain ⟨u0, u1, u2, u3, u4, u5, u6, u7, u8⟩ := cel9 (G7.out.off hS (fun h => h))
    go_wp2_with fail
    have rx := HRA.out.off hS
    have ry := HRB.out.off hS
    refine (sleq_any f g a b ca cb l k _ rx ry).mono ?_
    rw [hab]
    rintro e v101 ⟨rfl, o101⟩
    replace hS := hS.trans o101 (fun _ _ h => h)
    clear o101 rx ry
    clear x0 x1 x2 x3 x4 x5 x6 x7 x8 y0 y1 y2 y3 y4 y5 y6 y7 y8 z0 z1 z2 z3 z4 z5 z6 z7 z8 u0 u1 u2 u3 u4 u5 u6 u7 u8
    obtain ⟨x0, x1, x2, x3, x4, x5, x6, x7, x8⟩ := cel9 (G0.out.off hS (fun h => h))
    obtain ⟨y0, y1, y2, y3, y4, y5, y6, y7, y8⟩ := cel9 (G1.out.off hS (fun h => h))
    obtain ⟨z0, z1, z2, z3, z4, z5, z6, z7, z8⟩ := cel9 (G2.out.off hS (fun h => h))
    obtain ⟨u0, u1, u2, u3, u4, u5, u6, u7, u8⟩ := cel9 (G7.out.off hS (fun h => h))
    go_wp2_with fail
    have rx := HRA.out.off hS
    have ry := HRB.out.off hS
    refine (sleq_any f g a b ca cb l k _ rx ry).mono ?_
    rw [hab]
    rintro e v102 ⟨rfl, o102⟩
    replace hS := hS.trans o102 (fun _ _ h => h)
    clear o102 rx ry
    clear x0 x1 x2 x3 x4 x5 x6 x7 x8 y0 y1 y2 y3 y4 y5 y6 y7 y8 z0 z1 z2 z3 z4 z5 z6 z7 z8 u0 u1 u2 u3 u4 u5 u6 u7 u8
    cases hac : leqS f h (cont l) (cont m)
    · obtain ⟨x0, x1, x2, x3, x4, x5, x6, x7, x8⟩ := cel9 (G0.out.off hS (fun h => h))
      obtain ⟨y0, y1, y2, y3, y4, y5, y6, y7, y8⟩ := cel9 (G1.out.off hS (fun h => h))
      obtain ⟨z0, z1, z2, z3, z4, z5, z6, z7, z8⟩ := cel9 (G2.out.off hS (fun h => h))
      obtain ⟨u0, u1, u2, u3, u4, u5, u6, u7, u8⟩ := cel9 (G7.out.off hS (fun h => h))
      go_wp2_with fail
      have rx := HRA.out.off hS
      have ry := HRC.out.off hS
      refine (sleq_any f h a c ca cc l m _ rx ry).mono ?_
      rw [hac]
      rintro e v103 ⟨rfl, o103⟩
      replace hS := hS.trans o103 (fun _ _ h => h)
      clear o103 rx ry
      clear x0 x1 x2 x3 x4 x5 x6 x7 x8 y0 y1 y2 y3 y4 y5 y6 y7 y8 z0 z1 z2 z3 z4 z5 z6 z7 z8 u0 u1 u2 u3 u4 u5 u6 u7 u8
      go_wp2_with fail
      refine (awake_any _).mono ?_
      rintro e v99 ⟨rfl, o99⟩
      go_wp2_with fail
      go_ret
      exact ⟨rfl, HOV.out.trans (hS.trans o99 (fun _ _ h => h)) (fun _ _ h => h)⟩
    · cases hbc : leqS g h (cont k) (cont m)
      · obtain ⟨x0, x1, x2, x3, x4, x5, x6, x7, x8⟩ := cel9 (G0.out.off hS (fun h => h))
        obtain ⟨y0, y1, y2, y3, y4, y5, y6, y7, y8⟩ := cel9 (G1.out.off hS (fun h => h))
        obtain ⟨z0, z1, z2, z3, z4, z5, z6, z7, z8⟩ := cel9 (G2.out.off hS (fun h => h))
        obtain ⟨u0, u1, u2, u3, u4, u5, u6, u7, u8⟩ := cel9 (G7.out.off hS (fun h => h))
        go_wp2_with fail
        have rx := HRA.out.off hS
        have ry := HRC.out.off hS
        refine (sleq_any f h a c ca cc l m _ rx ry).mono ?_
        rw [hac]
        rintro e v104 ⟨rfl, o104⟩
        replace hS := hS.trans o104 (fun _ _ h => h)
        clear o104 rx ry
        clear x0 x1 x2 x3 x4 x5 x6 x7 x8 y0 y1 y2 y3 y4 y5 y6 y7 y8 z0 z1 z2 z3 z4 z5 z6 z7 z8 u0 u1 u2 u3 u4 u5 u6 u7 u8
        obtain ⟨x0, x1, x2, x3, x4, x5, x6, x7, x8⟩ := cel9 (G0.out.off hS (fun h => h))
        obtain ⟨y0, y1, y2, y3, y4, y5, y6, y7, y8⟩ := cel9 (G1.out.off hS (fun h => h))
        obtain ⟨z0, z1, z2, z3, z4, z5, z6, z7, z8⟩ := cel9 (G2.out.off hS (fun h => h))
        obtain ⟨u0, u1, u2, u3, u4, u5, u6, u7, u8⟩ := cel9 (G7.out.off hS (fun h => h))
        go_wp2_with fail
        have rx := HRB.out.off hS
        have ry := HRC.out.off hS
        refine (sleq_any g h b c cb cc k m _ rx ry).mono ?_
        rw [hbc]
        rintro e v105 ⟨rfl, o105⟩
        replace hS := hS.trans o105 (fun _ _ h => h)
        clear o105 rx ry
        clear x0 x1 x2 x3 x4 x5 x6 x7 x8 y0 y1 y2 y3 y4 y5 y6 y7 y8 z0 z1 z2 z3 z4 z5 z6 z7 z8 u0 u1 u2 u3 u4 u5 u6 u7 u8
        go_wp2_with fail
        refine (awake_any _).mono ?_
        rintro e v99 ⟨rfl, o99⟩
        go_wp2_with fail
        go_ret
        exact ⟨rfl, HOV.out.trans (hS.trans o99 (fun _ _ h => h)) (fun _ _ h => h)⟩
      · obtain ⟨x0, x1, x2, x3, x4, x5, x6, x7, x8⟩ := cel9 (G0.out.off hS (fun h => h))
        obtain ⟨y0, y1, y2, y3, y4, y5, y6, y7, y8⟩ := cel9 (G1.out.off hS (fun h => h))
        obtain ⟨z0, z1, z2, z3, z4, z5, z6, z7, z8⟩ := cel9 (G2.out.off hS (fun h => h))
        obtain ⟨u0, u1, u2, u3, u4, u5, u6, u7, u8⟩ := cel9 (G7.out.off hS (fun h => h))
        go_wp2_with fail
        have rx := HRA.out.off hS
        have ry := HRC.out.off hS
        refine (sleq_any f h a c ca cc l m _ rx ry).mono ?_
        rw [hac]
        rintro e v106 ⟨rfl, o106⟩
        replace hS := hS.trans o106 (fun _ _ h => h)
        clear o106 rx ry
        clear x0 x1 x2 x3 x4 x5 x6 x7 x8 y0 y1 y2 y3 y4 y5 y6 y7 y8 z0 z1 z2 z3 z4 z5 z6 z7 z8 u0 u1 u2 u3 u4 u5 u6 u7 u8
        obtain ⟨x0, x1, x2, x3, x4, x5, x6, x7, x8⟩ := cel9 (G0.out.off hS (fun h => h))
        obtain ⟨y0, y1, y2, y3, y4, y5, y6, y7, y8⟩ := cel9 (G1.out.off hS (fun h => h))
        obtain ⟨z0, z1, z2, z3, z4, z5, z6, z7, z8⟩ := cel9 (G2.out.off hS (fun h => h))
        obtain ⟨u0, u1, u2, u3, u4, u5, u6, u7, u8⟩ := cel9 (G7.out.off hS (fun h => h))
        go_wp2_with fail
        have rx := HRB.out.off hS
        have ry := HRC.out.off hS
        refine (sleq_any g h b c cb cc k m _ rx ry).mono ?_
        rw [hbc]
        rintro e v107 ⟨rfl, o107⟩
        replace hS := hS.trans o107 (fun _ _ h => h)
        clear o107 rx ry
        clear x0 x1 x2 x3 x4 x5 x6 x7 x8 y0 y1 y2 y3 y4 y5 y6 y7 y8 z0 z1 z2 z3 z4 z5 z6 z7 z8 u0 u1 u2 u3 u4 u5 u6 u7 u8
        obtain ⟨x0, x1, x2, x3, x4, x5, x6, x7, x8⟩ := cel9 (G0.out.off hS (fun h => h))
        obtain ⟨y0, y1, y2, y3, y4, y5, y6, y7, y8⟩ := cel9 (G1.out.off hS (fun h => h))
        obtain ⟨z0, z1, z2, z3, z4, z5, z6, z7, z8⟩ := cel9 (G2.out.off hS (fun h => h))
        obtain ⟨u0, u1, u2, u3, u4, u5, u6, u7, u8⟩ := cel9 (G7.out.off hS (fun h => h))
        go_wp2_with fail
        have rx := HRJ.out.off hS
        have ry := HRC.out.off hS
        refine (sleq_any j h aj c cj cc lj m _ rx ry).mono ?_
        rw [HJV.out, HJL.out, ord_least (by have := HN.out; omega) (by have := HN.out; omega) (by have := HN.out; omega) hac hbc]
        rintro e v108 ⟨rfl, o108⟩
        replace hS := hS.trans o108 (fun _ _ h => h)
        clear o108 rx ry
        clear x0 x1 x2 x3 x4 x5 x6 x7 x8 y0 y1 y2 y3 y4 y5 y6 y7 y8 z0 z1 z2 z3 z4 z5 z6 z7 z8 u0 u1 u2 u3 u4 u5 u6 u7 u8
        go_wp2_with fail
        refine (awake_any _).mono ?_
        rintro e v99 ⟨rfl, o99⟩
        go_wp2_with fail
        go_ret
        exact ⟨rfl, HOV.out.trans (hS.trans o99 (fun _ _ h => h)) (fun _ _ h => h)⟩
  · cases hba : leqS g f (cont k) (cont l)
    · obtain ⟨x0, x1, x2, x3, x4, x5, x6, x7, x8⟩ := cel9 (G0.out.off hS (fun h => h))
      obtain ⟨y0, y1, y2, y3, y4, y5, y6, y7, y8⟩ := cel9 (G1.out.off hS (fun h => h))
      obtain ⟨z0, z1, z2, z3, z4, z5, z6, z7, z8⟩ := cel9 (G2.out.off hS (fun h => h))
      obtain ⟨u0, u1, u2, u3, u4, u5, u6, u7, u8⟩ := cel9 (G7.out.off hS (fun h => h))
      go_wp2_with fail
      have rx := HRA.out.off hS
      have ry := HRB.out.off hS
      refine (sleq_any f g a b ca cb l k _ rx ry).mono ?_
      rw [hab]
      rintro e v109 ⟨rfl, o109⟩
      replace hS := hS.trans o109 (fun _ _ h => h)
      clear o109 rx ry
      clear x0 x1 x2 x3 x4 x5 x6 x7 x8 y0 y1 y2 y3 y4 y5 y6 y7 y8 z0 z1 z2 z3 z4 z5 z6 z7 z8 u0 u1 u2 u3 u4 u5 u6 u7 u8
      obtain ⟨x0, x1, x2, x3, x4, x5, x6, x7, x8⟩ := cel9 (G0.out.off hS (fun h => h))
      obtain ⟨y0, y1, y2, y3, y4, y5, y6, y7, y8⟩ := cel9 (G1.out.off hS (fun h => h))
      obtain ⟨z0, z1, z2, z3, z4, z5, z6, z7, z8⟩ := cel9 (G2.out.off hS (fun h => h))
      obtain ⟨u0, u1, u2, u3, u4, u5, u6, u7, u8⟩ := cel9 (G7.out.off hS (fun h => h))
      go_wp2_with fail
      have rx := HRB.out.off hS
      have ry := HRA.out.off hS
      refine (sleq_any g f b a cb ca k l _ rx ry).mono ?_
      rw [hba]
      rintro e v110 ⟨rfl, o110⟩
      replace hS := hS.trans o110 (fun _ _ h => h)
      clear o110 rx ry
      clear x0 x1 x2 x3 x4 x5 x6 x7 x8 y0 y1 y2 y3 y4 y5 y6 y7 y8 z0 z1 z2 z3 z4 z5 z6 z7 z8 u0 u1 u2 u3 u4 u5 u6 u7 u8
      obtain ⟨x0, x1, x2, x3, x4, x5, x6, x7, x8⟩ := cel9 (G0.out.off hS (fun h => h))
      obtain ⟨y0, y1, y2, y3, y4, y5, y6, y7, y8⟩ := cel9 (G1.out.off hS (fun h => h))
      obtain ⟨z0, z1, z2, z3, z4, z5, z6, z7, z8⟩ := cel9 (G2.out.off hS (fun h => h))
      obtain ⟨u0, u1, u2, u3, u4, u5, u6, u7, u8⟩ := cel9 (G7.out.off hS (fun h => h))
      go_wp2_with fail
      have rx := HRA.out.off hS
      have ry := HRB.out.off hS
      refine (sleq_any f g a b ca cb l k _ rx ry).mono ?_
      rw [hab]
      rintro e v111 ⟨rfl, o111⟩
      replace hS := hS.trans o111 (fun _ _ h => h)
      clear o111 rx ry
      clear x0 x1 x2 x3 x4 x5 x6 x7 x8 y0 y1 y2 y3 y4 y5 y6 y7 y8 z0 z1 z2 z3 z4 z5 z6 z7 z8 u0 u1 u2 u3 u4 u5 u6 u7 u8
      cases hbc : leqS g h (cont k) (cont m)
      · obtain ⟨x0, x1, x2, x3, x4, x5, x6, x7, x8⟩ := cel9 (G0.out.off hS (fun h => h))
        obtain ⟨y0, y1, y2, y3, y4, y5, y6, y7, y8⟩ := cel9 (G1.out.off hS (fun h => h))
        obtain ⟨z0, z1, z2, z3, z4, z5, z6, z7, z8⟩ := cel9 (G2.out.off hS (fun h => h))
        obtain ⟨u0, u1, u2, u3, u4, u5, u6, u7, u8⟩ := cel9 (G7.out.off hS (fun h => h))
        go_wp2_with fail
        have rx := HRB.out.off hS
        have ry := HRC.out.off hS
        refine (sleq_any g h b c cb cc k m _ rx ry).mono ?_
        rw [hbc]
        rintro e v112 ⟨rfl, o112⟩
        replace hS := hS.trans o112 (fun _ _ h => h)
        clear o112 rx ry
        clear x0 x1 x2 x3 x4 x5 x6 x7 x8 y0 y1 y2 y3 y4 y5 y6 y7 y8 z0 z1 z2 z3 z4 z5 z6 z7 z8 u0 u1 u2 u3 u4 u5 u6 u7 u8
        cases hac : leqS f h (cont l) (cont m)
        · obtain ⟨x0, x1, x2, x3, x4, x5, x6, x7, x8⟩ := cel9 (G0.out.off hS (fun h => h))
          obtain ⟨y0, y1, y2, y3, y4, y5, y6, y7, y8⟩ := cel9 (G1.out.off hS (fun h => h))
          obtain ⟨z0, z1, z2, z3, z4, z5, z6, z7, z8⟩ := cel9 (G2.out.off hS (fun h => h))
          obtain ⟨u0, u1, u2, u3, u4, u5, u6, u7, u8⟩ := cel9 (G7.out.off hS (fun h => h))
          go_wp2_with fail
          have rx := HRA.out.off hS
          have ry := HRC.out.off hS
          refine (sleq_any f h a c ca cc l m _ rx ry).mono ?_
          rw [hac]
          rintro e v113 ⟨rfl, o113⟩
          replace hS := hS.trans o113 (fun _ _ h => h)
          clear o113 rx ry
          clear x0 x1 x2 x3 x4 x5 x6 x7 x8 y0 y1 y2 y3 y4 y5 y6 y7 y8 z0 z1 z2 z3 z4 z5 z6 z7 z8 u0 u1 u2 u3 u4 u5 u6 u7 u8
          go_wp2_with fail
          refine (awake_any _).mono ?_
          rintro e v99 ⟨rfl, o99⟩
          go_wp2_with fail
          go_ret
          exact ⟨rfl, HOV.out.trans (hS.trans o99 (fun _ _ h => h)) (fun _ _ h => h)⟩
        · obtain ⟨x0, x1, x2, x3, x4, x5, x6, x7, x8⟩ := cel9 (G0.out.off hS (fun h => h))
          obtain ⟨y0, y1, y2, y3, y4, y5, y6, y7, y8⟩ := cel9 (G1.out.off hS (fun h => h))
          obtain ⟨z0, z1, z2, z3, z4, z5, z6, z7, z8⟩ := cel9 (G2.out.off hS (fun h => h))
          obtain ⟨u0, u1, u2, u3, u4, u5, u6, u7, u8⟩ := cel9 (G7.out.off hS (fun h => h))
          go_wp2_with fail
          have rx := HRA.out.off hS
          have ry := HRC.out.off hS
          refine (sleq_any f h a c ca cc l m _ rx ry).mono ?_
          rw [hac]
          rintro e v114 ⟨rfl, o114⟩
          replace hS := hS.trans o114 (fun _ _ h => h)
          clear o114 rx ry
          clear x0 x1 x2 x3 x4 x5 x6 x7 x8 y0 y1 y2 y3 y4 y5 y6 y7 y8 z0 z1 z2 z3 z4 z5 z6 z7 z8 u0 u1 u2 u3 u4 u5 u6 u7 u8
          obtain ⟨x0, x1, x2, x3, x4, x5, x6, x7, x8⟩ := cel9 (G0.out.off hS (fun h => h))
          obtain ⟨y0, y1, y2, y3, y4, y5, y6, y7, y8⟩ := cel9 (G1.out.off hS (fun h => h))
          obtain ⟨z0, z1, z2, z3, z4, z5, z6, z7, z8⟩ := cel9 (G2.out.off hS (fun h => h))
          obtain ⟨u0, u1, u2, u3, u4, u5, u6, u7, u8⟩ := cel9 (G7.out.off hS (fun h => h))
          go_wp2_with fail
          have rx := HRB.out.off hS
          have ry := HRC.out.off hS
          refine (sleq_any g h b c cb cc k m _ rx ry).mono ?_
          rw [hbc]
          rintro e v115 ⟨rfl, o115⟩
          replace hS := hS.trans o115 (fun _ _ h => h)
          clear o115 rx ry
          clear x0 x1 x2 x3 x4 x5 x6 x7 x8 y0 y1 y2 y3 y4 y5 y6 y7 y8 z0 z1 z2 z3 z4 z5 z6 z7 z8 u0 u1 u2 u3 u4 u5 u6 u7 u8
          go_wp2_with fail
          refine (awake_any _).mono ?_
          rintro e v99 ⟨rfl, o99⟩
          go_wp2_with fail
          go_ret
          exact ⟨rfl, HOV.out.trans (hS.trans o99 (fun _ _ h => h)) (fun _ _ h => h)⟩
      · have hac := ord_trans (by have := HN.out; omega) (by have := HN.out; omega) hab hbc
        obtain ⟨x0, x1, x2, x3, x4, x5, x6, x7, x8⟩ := cel9 (G0.out.off hS (fun h => h))
        obtain ⟨y0, y1, y2, y3, y4, y5, y6, y7, y8⟩ := cel9 (G1.out.off hS (fun h => h))
        obtain ⟨z0, z1, z2, z3, z4, z5, z6, z7, z8⟩ := cel9 (G2.out.off hS (fun h => h))
        obtain ⟨u0, u1, u2, u3, u4, u5, u6, u7, u8⟩ := cel9 (G7.out.off hS (fun h => h))
        go_wp2_with fail
        have rx := HRB.out.off hS
        have ry := HRC.out.off hS
        refine (sleq_any g h b c cb cc k m _ rx ry).mono ?_
        rw [hbc]
        rintro e v116 ⟨rfl, o116⟩
        replace hS := hS.trans o116 (fun _ _ h => h)
        clear o116 rx ry
        clear x0 x1 x2 x3 x4 x5 x6 x7 x8 y0 y1 y2 y3 y4 y5 y6 y7 y8 z0 z1 z2 z3 z4 z5 z6 z7 z8 u0 u1 u2 u3 u4 u5 u6 u7 u8
        obtain ⟨x0, x1, x2, x3, x4, x5, x6, x7, x8⟩ := cel9 (G0.out.off hS (fun h => h))
        obtain ⟨y0, y1, y2, y3, y4, y5, y6, y7, y8⟩ := cel9 (G1.out.off hS (fun h => h))
        obtain ⟨z0, z1, z2, z3, z4, z5, z6, z7, z8⟩ := cel9 (G2.out.off hS (fun h => h))
        obtain ⟨u0, u1, u2, u3, u4, u5, u6, u7, u8⟩ := cel9 (G7.out.off hS (fun h => h))
        go_wp2_with fail
        have rx := HRA.out.off hS
        have ry := HRC.out.off hS
        refine (sleq_any f h a c ca cc l m _ rx ry).mono ?_
        rw [hac]
        rintro e v117 ⟨rfl, o117⟩
        replace hS := hS.trans o117 (fun _ _ h => h)
        clear o117 rx ry
        clear x0 x1 x2 x3 x4 x5 x6 x7 x8 y0 y1 y2 y3 y4 y5 y6 y7 y8 z0 z1 z2 z3 z4 z5 z6 z7 z8 u0 u1 u2 u3 u4 u5 u6 u7 u8
        obtain ⟨x0, x1, x2, x3, x4, x5, x6, x7, x8⟩ := cel9 (G0.out.off hS (fun h => h))
        obtain ⟨y0, y1, y2, y3, y4, y5, y6, y7, y8⟩ := cel9 (G1.out.off hS (fun h => h))
        obtain ⟨z0, z1, z2, z3, z4, z5, z6, z7, z8⟩ := cel9 (G2.out.off hS (fun h => h))
        obtain ⟨u0, u1, u2, u3, u4, u5, u6, u7, u8⟩ := cel9 (G7.out.off hS (fun h => h))
        go_wp2_with fail
        have rx := HRA.out.off hS
        have ry := HRC.out.off hS
        refine (sleq_any f h a c ca cc l m _ rx ry).mono ?_
        rw [hac]
        rintro e v118 ⟨rfl, o118⟩
        replace hS := hS.trans o118 (fun _ _ h => h)
        clear o118 rx ry
        clear x0 x1 x2 x3 x4 x5 x6 x7 x8 y0 y1 y2 y3 y4 y5 y6 y7 y8 z0 z1 z2 z3 z4 z5 z6 z7 z8 u0 u1 u2 u3 u4 u5 u6 u7 u8
        obtain ⟨x0, x1, x2, x3, x4, x5, x6, x7, x8⟩ := cel9 (G0.out.off hS (fun h => h))
        obtain ⟨y0, y1, y2, y3, y4, y5, y6, y7, y8⟩ := cel9 (G1.out.off hS (fun h => h))
        obtain ⟨z0, z1, z2, z3, z4, z5, z6, z7, z8⟩ := cel9 (G2.out.off hS (fun h => h))
        obtain ⟨u0, u1, u2, u3, u4, u5, u6, u7, u8⟩ := cel9 (G7.out.off hS (fun h => h))
        go_wp2_with fail
        have rx := HRB.out.off hS
        have ry := HRC.out.off hS
        refine (sleq_any g h b c cb cc k m _ rx ry).mono ?_
        rw [hbc]
        rintro e v119 ⟨rfl, o119⟩
        replace hS := hS.trans o119 (fun _ _ h => h)
        clear o119 rx ry
        clear x0 x1 x2 x3 x4 x5 x6 x7 x8 y0 y1 y2 y3 y4 y5 y6 y7 y8 z0 z1 z2 z3 z4 z5 z6 z7 z8 u0 u1 u2 u3 u4 u5 u6 u7 u8
        obtain ⟨x0, x1, x2, x3, x4, x5, x6, x7, x8⟩ := cel9 (G0.out.off hS (fun h => h))
        obtain ⟨y0, y1, y2, y3, y4, y5, y6, y7, y8⟩ := cel9 (G1.out.off hS (fun h => h))
        obtain ⟨z0, z1, z2, z3, z4, z5, z6, z7, z8⟩ := cel9 (G2.out.off hS (fun h => h))
        obtain ⟨u0, u1, u2, u3, u4, u5, u6, u7, u8⟩ := cel9 (G7.out.off hS (fun h => h))
        go_wp2_with fail
        have rx := HRJ.out.off hS
        have ry := HRC.out.off hS
        refine (sleq_any j h aj c cj cc lj m _ rx ry).mono ?_
        rw [HJV.out, HJL.out, ord_least (by have := HN.out; omega) (by have := HN.out; omega) (by have := HN.out; omega) hac hbc]
        rintro e v120 ⟨rfl, o120⟩
        replace hS := hS.trans o120 (fun _ _ h => h)
        clear o120 rx ry
        clear x0 x1 x2 x3 x4 x5 x6 x7 x8 y0 y1 y2 y3 y4 y5 y6 y7 y8 z0 z1 z2 z3 z4 z5 z6 z7 z8 u0 u1 u2 u3 u4 u5 u6 u7 u8
        go_wp2_with fail
        refine (awake_any _).mono ?_
        rintro e v99 ⟨rfl, o99⟩
        go_wp2_with fail
        go_ret
        exact ⟨rfl, HOV.out.trans (hS.trans o99 (fun _ _ h => h)) (fun _ _ h => h)⟩
    · obtain ⟨x0, x1, x2, x3, x4, x5, x6, x7, x8⟩ := cel9 (G0.out.off hS (fun h => h))
      obtain ⟨y0, y1, y2, y3, y4, y5, y6, y7, y8⟩ := cel9 (G1.out.off hS (fun h => h))
      obtain ⟨z0, z1, z2, z3, z4, z5, z6, z7, z8⟩ := cel9 (G2.out.off hS (fun h => h))
      obtain ⟨u0, u1, u2, u3, u4, u5, u6, u7, u8⟩ := cel9 (G7.out.off hS (fun h => h))
      go_wp2_with fail
      have rx := HRA.out.off hS
      have ry := HRB.out.off hS
      refine (sleq_any f g a b ca cb l k _ rx ry).mono ?_
      rw [hab]
      rintro e v121 ⟨rfl, o121⟩
      replace hS := hS.trans o121 (fun _ _ h => h)
      clear o121 rx ry
      clear x0 x1 x2 x3 x4 x5 x6 x7 x8 y0 y1 y2 y3 y4 y5 y6 y7 y8 z0 z1 z2 z3 z4 z5 z6 z7 z8 u0 u1 u2 u3 u4 u5 u6 u7 u8
      obtain ⟨x0, x1, x2, x3, x4, x5, x6, x7, x8⟩ := cel9 (G0.out.off hS (fun h => h))
      obtain ⟨y0, y1, y2, y3, y4, y5, y6, y7, y8⟩ := cel9 (G1.out.off hS (fun h => h))
      obtain ⟨z0, z1, z2, z3, z4, z5, z6, z7, z8⟩ := cel9 (G2.out.off hS (fun h => h))
      obtain ⟨u0, u1, u2, u3, u4, u5, u6, u7, u8⟩ := cel9 (G7.out.off hS (fun h => h))
      go_wp2_with fail
      have rx := HRB.out.off hS
      have ry := HRA.out.off hS
      refine (sleq_any g f b a cb ca k l _ rx ry).mono ?_
      rw [hba]
      rintro e v122 ⟨rfl, o122⟩
      replace hS := hS.trans o122 (fun _ _ h => h)
      clear o122 rx ry
      clear x0 x1 x2 x3 x4 x5 x6 x7 x8 y0 y1 y2 y3 y4 y5 y6 y7 y8 z0 z1 z2 z3 z4 z5 z6 z7 z8 u0 u1 u2 u3 u4 u5 u6 u7 u8
      obtain ⟨x0, x1, x2, x3, x4, x5, x6, x7, x8⟩ := cel9 (G0.out.off hS (fun h => h))
      obtain ⟨y0, y1, y2, y3, y4, y5, y6, y7, y8⟩ := cel9 (G1.out.off hS (fun h => h))
      obtain ⟨z0, z1, z2, z3, z4, z5, z6, z7, z8⟩ := cel9 (G2.out.off hS (fun h => h))
      obtain ⟨u0, u1, u2, u3, u4, u5, u6, u7, u8⟩ := cel9 (G7.out.off hS (fun h => h))
      go_wp2_with fail
      have rx := HRA.out.off hS
      have ry := HRB.out.off hS
      refine (ssame_any f g a b ca cb l k _ rx ry).mono ?_
      rw [ord_anti (by have := HN.out; omega) hab hba]
      rintro e v123 ⟨rfl, o123⟩
      replace hS := hS.trans o123 (fun _ _ h => h)
      clear o123 rx ry
      clear x0 x1 x2 x3 x4 x5 x6 x7 x8 y0 y1 y2 y3 y4 y5 y6 y7 y8 z0 z1 z2 z3 z4 z5 z6 z7 z8 u0 u1 u2 u3 u4 u5 u6 u7 u8
      obtain ⟨x0, x1, x2, x3, x4, x5, x6, x7, x8⟩ := cel9 (G0.out.off hS (fun h => h))
      obtain ⟨y0, y1, y2, y3, y4, y5, y6, y7, y8⟩ := cel9 (G1.out.off hS (fun h => h))
      obtain ⟨z0, z1, z2, z3, z4, z5, z6, z7, z8⟩ := cel9 (G2.out.off hS (fun h => h))
      obtain ⟨u0, u1, u2, u3, u4, u5, u6, u7, u8⟩ := cel9 (G7.out.off hS (fun h => h))
      go_wp2_with fail
      have rx := HRA.out.off hS
      have ry := HRB.out.off hS
      refine (sleq_any f g a b ca cb l k _ rx ry).mono ?_
      rw [hab]
      rintro e v124 ⟨rfl, o124⟩
      replace hS := hS.trans o124 (fun _ _ h => h)
      clear o124 rx ry
      clear x0 x1 x2 x3 x4 x5 x6 x7 x8 y0 y1 y2 y3 y4 y5 y6 y7 y8 z0 z1 z2 z3 z4 z5 z6 z7 z8 u0 u1 u2 u3 u4 u5 u6 u7 u8
      cases hbc : leqS g h (cont k) (cont m)
      · obtain ⟨x0, x1, x2, x3, x4, x5, x6, x7, x8⟩ := cel9 (G0.out.off hS (fun h => h))
        obtain ⟨y0, y1, y2, y3, y4, y5, y6, y7, y8⟩ := cel9 (G1.out.off hS (fun h => h))
        obtain ⟨z0, z1, z2, z3, z4, z5, z6, z7, z8⟩ := cel9 (G2.out.off hS (fun h => h))
        obtain ⟨u0, u1, u2, u3, u4, u5, u6, u7, u8⟩ := cel9 (G7.out.off hS (fun h => h))
        go_wp2_with fail
        have rx := HRB.out.off hS
        have ry := HRC.out.off hS
        refine (sleq_any g h b c cb cc k m _ rx ry).mono ?_
        rw [hbc]
        rintro e v125 ⟨rfl, o125⟩
        replace hS := hS.trans o125 (fun _ _ h => h)
        clear o125 rx ry
        clear x0 x1 x2 x3 x4 x5 x6 x7 x8 y0 y1 y2 y3 y4 y5 y6 y7 y8 z0 z1 z2 z3 z4 z5 z6 z7 z8 u0 u1 u2 u3 u4 u5 u6 u7 u8
        cases hac : leqS f h (cont l) (cont m)
        · obtain ⟨x0, x1, x2, x3, x4, x5, x6, x7, x8⟩ := cel9 (G0.out.off hS (fun h => h))
          obtain ⟨y0, y1, y2, y3, y4, y5, y6, y7, y8⟩ := cel9 (G1.out.off hS (fun h => h))
          obtain ⟨z0, z1, z2, z3, z4, z5, z6, z7, z8⟩ := cel9 (G2.out.off hS (fun h => h))
          obtain ⟨u0, u1, u2, u3, u4, u5, u6, u7, u8⟩ := cel9 (G7.out.off hS (fun h => h))
          go_wp2_with fail
          have rx := HRA.out.off hS
          have ry := HRC.out.off hS
          refine (sleq_any f h a c ca cc l m _ rx ry).mono ?_
          rw [hac]
          rintro e v126 ⟨rfl, o126⟩
          replace hS := hS.trans o126 (fun _ _ h => h)
          clear o126 rx ry
          clear x0 x1 x2 x3 x4 x5 x6 x7 x8 y0 y1 y2 y3 y4 y5 y6 y7 y8 z0 z1 z2 z3 z4 z5 z6 z7 z8 u0 u1 u2 u3 u4 u5 u6 u7 u8
          go_wp2_with fail
          refine (awake_any _).mono ?_
          rintro e v99 ⟨rfl, o99⟩
          go_wp2_with fail
          go_ret
          exact ⟨rfl, HOV.out.trans (hS.trans o99 (fun _ _ h => h)) (fun _ _ h => h)⟩
        · obtain ⟨x0, x1, x2, x3, x4, x5, x6, x7, x8⟩ := cel9 (G0.out.off hS (fun h => h))
          obtain ⟨y0, y1, y2, y3, y4, y5, y6, y7, y8⟩ := cel9 (G1.out.off hS (fun h => h))
          obtain ⟨z0, z1, z2, z3, z4, z5, z6, z7, z8⟩ := cel9 (G2.out.off hS (fun h => h))
          obtain ⟨u0, u1, u2, u3, u4, u5, u6, u7, u8⟩ := cel9 (G7.out.off hS (fun h => h))
          go_wp2_with fail
          have rx := HRA.out.off hS
          have ry := HRC.out.off hS
          refine (sleq_any f h a c ca cc l m _ rx ry).mono ?_
          rw [hac]
          rintro e v127 ⟨rfl, o127⟩
          replace hS := hS.trans o127 (fun _ _ h => h)
          clear o127 rx ry
          clear x0 x1 x2 x3 x4 x5 x6 x7 x8 y0 y1 y2 y3 y4 y5 y6 y7 y8 z0 z1 z2 z3 z4 z5 z6 z7 z8 u0 u1 u2 u3 u4 u5 u6 u7 u8
          obtain ⟨x0, x1, x2, x3, x4, x5, x6, x7, x8⟩ := cel9 (G0.out.off hS (fun h => h))
          obtain ⟨y0, y1, y2, y3, y4, y5, y6, y7, y8⟩ := cel9 (G1.out.off hS (fun h => h))
          obtain ⟨z0, z1, z2, z3, z4, z5, z6, z7, z8⟩ := cel9 (G2.out.off hS (fun h => h))
          obtain ⟨u0, u1, u2, u3, u4, u5, u6, u7, u8⟩ := cel9 (G7.out.off hS (fun h => h))
          go_wp2_with fail
          have rx := HRB.out.off hS
          have ry := HRC.out.off hS
          refine (sleq_any g h b c cb cc k m _ rx ry).mono ?_
          rw [hbc]
          rintro e v128 ⟨rfl, o128⟩
          replace hS := hS.trans o128 (fun _ _ h => h)
          clear o128 rx ry
          clear x0 x1 x2 x3 x4 x5 x6 x7 x8 y0 y1 y2 y3 y4 y5 y6 y7 y8 z0 z1 z2 z3 z4 z5 z6 z7 z8 u0 u1 u2 u3 u4 u5 u6 u7 u8
          go_wp2_with fail
          refine (awake_any _).mono ?_
          rintro e v99 ⟨rfl, o99⟩
          go_wp2_with fail
          go_ret
          exact ⟨rfl, HOV.out.trans (hS.trans o99 (fun _ _ h => h)) (fun _ _ h => h)⟩
      · have hac := ord_trans (by have := HN.out; omega) (by have := HN.out; omega) hab hbc
        obtain ⟨x0, x1, x2, x3, x4, x5, x6, x7, x8⟩ := cel9 (G0.out.off hS (fun h => h))
        obtain ⟨y0, y1, y2, y3, y4, y5, y6, y7, y8⟩ := cel9 (G1.out.off hS (fun h => h))
        obtain ⟨z0, z1, z2, z3, z4, z5, z6, z7, z8⟩ := cel9 (G2.out.off hS (fun h => h))
        obtain ⟨u0, u1, u2, u3, u4, u5, u6, u7, u8⟩ := cel9 (G7.out.off hS (fun h => h))
        go_wp2_with fail
        have rx := HRB.out.off hS
        have ry := HRC.out.off hS
        refine (sleq_any g h b c cb cc k m _ rx ry).mono ?_
        rw [hbc]
        rintro e v129 ⟨rfl, o129⟩
        replace hS := hS.trans o129 (fun _ _ h => h)
        clear o129 rx ry
        clear x0 x1 x2 x3 x4 x5 x6 x7 x8 y0 y1 y2 y3 y4 y5 y6 y7 y8 z0 z1 z2 z3 z4 z5 z6 z7 z8 u0 u1 u2 u3 u4 u5 u6 u7 u8
        obtain ⟨x0, x1, x2, x3, x4, x5, x6, x7, x8⟩ := cel9 (G0.out.off hS (fun h => h))
        obtain ⟨y0, y1, y2, y3, y4, y5, y6, y7, y8⟩ := cel9 (G1.out.off hS (fun h => h))
        obtain ⟨z0, z1, z2, z3, z4, z5, z6, z7, z8⟩ := cel9 (G2.out.off hS (fun h => h))
        obtain ⟨u0, u1, u2, u3, u4, u5, u6, u7, u8⟩ := cel9 (G7.out.off hS (fun h => h))
        go_wp2_with fail
        have rx := HRA.out.off hS
        have ry := HRC.out.off hS
        refine (sleq_any f h a c ca cc l m _ rx ry).mono ?_
        rw [hac]
        rintro e v130 ⟨rfl, o130⟩
        replace hS := hS.trans o130 (fun _ _ h => h)
        clear o130 rx ry
        clear x0 x1 x2 x3 x4 x5 x6 x7 x8 y0 y1 y2 y3 y4 y5 y6 y7 y8 z0 z1 z2 z3 z4 z5 z6 z7 z8 u0 u1 u2 u3 u4 u5 u6 u7 u8
        obtain ⟨x0, x1, x2, x3, x4, x5, x6, x7, x8⟩ := cel9 (G0.out.off hS (fun h => h))
        obtain ⟨y0, y1, y2, y3, y4, y5, y6, y7, y8⟩ := cel9 (G1.out.off hS (fun h => h))
        obtain ⟨z0, z1, z2, z3, z4, z5, z6, z7, z8⟩ := cel9 (G2.out.off hS (fun h => h))
        obtain ⟨u0, u1, u2, u3, u4, u5, u6, u7, u8⟩ := cel9 (G7.out.off hS (fun h => h))
        go_wp2_with fail
        have rx := HRA.out.off hS
        have ry := HRC.out.off hS
        refine (sleq_any f h a c ca cc l m _ rx ry).mono ?_
        rw [hac]
        rintro e v131 ⟨rfl, o131⟩
        replace hS := hS.trans o131 (fun _ _ h => h)
        clear o131 rx ry
        clear x0 x1 x2 x3 x4 x5 x6 x7 x8 y0 y1 y2 y3 y4 y5 y6 y7 y8 z0 z1 z2 z3 z4 z5 z6 z7 z8 u0 u1 u2 u3 u4 u5 u6 u7 u8
        obtain ⟨x0, x1, x2, x3, x4, x5, x6, x7, x8⟩ := cel9 (G0.out.off hS (fun h => h))
        obtain ⟨y0, y1, y2, y3, y4, y5, y6, y7, y8⟩ := cel9 (G1.out.off hS (fun h => h))
        obtain ⟨z0, z1, z2, z3, z4, z5, z6, z7, z8⟩ := cel9 (G2.out.off hS (fun h => h))
        obtain ⟨u0, u1, u2, u3, u4, u5, u6, u7, u8⟩ := cel9 (G7.out.off hS (fun h => h))
        go_wp2_with fail
        have rx := HRB.out.off hS
        have ry := HRC.out.off hS
        refine (sleq_any g h b c cb cc k m _ rx ry).mono ?_
        rw [hbc]
        rintro e v132 ⟨rfl, o132⟩
        replace hS := hS.trans o132 (fun _ _ h => h)
        clear o132 rx ry
        clear x0 x1 x2 x3 x4 x5 x6 x7 x8 y0 y1 y2 y3 y4 y5 y6 y7 y8 z0 z1 z2 z3 z4 z5 z6 z7 z8 u0 u1 u2 u3 u4 u5 u6 u7 u8
        obtain ⟨x0, x1, x2, x3, x4, x5, x6, x7, x8⟩ := cel9 (G0.out.off hS (fun h => h))
        obtain ⟨y0, y1, y2, y3, y4, y5, y6, y7, y8⟩ := cel9 (G1.out.off hS (fun h => h))
        obtain ⟨z0, z1, z2, z3, z4, z5, z6, z7, z8⟩ := cel9 (G2.out.off hS (fun h => h))
        obtain ⟨u0, u1, u2, u3, u4, u5, u6, u7, u8⟩ := cel9 (G7.out.off hS (fun h => h))
        go_wp2_with fail
        have rx := HRJ.out.off hS
        have ry := HRC.out.off hS
        refine (sleq_any j h aj c cj cc lj m _ rx ry).mono ?_
        rw [HJV.out, HJL.out, ord_least (by have := HN.out; omega) (by have := HN.out; omega) (by have := HN.out; omega) hac hbc]
        rintro e v133 ⟨rfl, o133⟩
        replace hS := hS.trans o133 (fun _ _ h => h)
        clear o133 rx ry
        clear x0 x1 x2 x3 x4 x5 x6 x7 x8 y0 y1 y2 y3 y4 y5 y6 y7 y8 z0 z1 z2 z3 z4 z5 z6 z7 z8 u0 u1 u2 u3 u4 u5 u6 u7 u8
        go_wp2_with fail
        refine (awake_any _).mono ?_
        rintro e v99 ⟨rfl, o99⟩
        go_wp2_with fail
        go_ret
        exact ⟨rfl, HOV.out.trans (hS.trans o99 (fun _ _ h => h)) (fun _ _ h => h)⟩
end Go.Proofs.Ytfkpnmmcdhibbaa
