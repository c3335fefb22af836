/- The walk of SibsGrow. -/
import Derived.Test.YtfkpnmmcdhibbaaGrowP
import Derived.Test.YtfkpnmmcdhibbaaLgt
import Derived.Test.YtfkpnmmcdhibbaaRel
import Derived.Test.YtfkpnmmcdhibbaaArg5
import Derived.Deep.Cut
namespace Go.Proofs.Ytfkpnmmcdhibbaa
open Go.RowKit

/-- A value of this dot stands there. -/
def InL (l : List V) (v : V) : Prop := ∃ (m : Nat) (x : V), l[m]? = some x ∧ x.node = v.node ∧ x.num = v.num
theorem inL_of {l : List V} {v : V} (h : ∃ x ∈ cont l, EQ x v.abs) : InL l v := by
  obtain ⟨x, hx, he⟩ := h
  simp only [cont, List.mem_map] at hx
  obtain ⟨y, hy, rfl⟩ := hx
  obtain ⟨i, hi⟩ := List.getElem?_of_mem hy
  exact ⟨i, y, hi, he.1, he.2⟩
theorem ninth1 {f : Nat → Int} {s u : Value} {j : Nat} (h : (#[.int .i64 (f 0), .int .i64 (f 1), .int .i64 (f 2), .int .i64 (f 3), .int .i64 (f 4), .int .i64 (f 5), .int .i64 (f 6), .int .i64 (f 7), s] : Array Value)[j]? = some u) : j < 9 := by
  obtain ⟨h, -⟩ := Array.getElem?_eq_some_iff.1 h
  exact h
theorem sl1 {w : World} {B : Nat} {t : TypeId} {f : Nat → Int} {a : Option Addr} {ca : Nat} {l : List V} (hc : Cel B t #[.int .i64 (f 0), .int .i64 (f 1), .int .i64 (f 2), .int .i64 (f 3), .int .i64 (f 4), .int .i64 (f 5), .int .i64 (f 6), .int .i64 (f 7), .slice a l.length ca] w) (ra : Row w a ca l) : Sl w B [⟨f, a, ca, l⟩] := by
  refine ⟨fun i u hi j s hs => ?_, fun u hu => ?_⟩
  · have hj := ninth1 hs
    match i, hi with
    | 0, hi =>
      simp only [List.getElem?_cons_zero, Option.some.injEq] at hi
      subst hi
      rw [hc.cell]
      obtain rfl | rfl | rfl | rfl | rfl | rfl | rfl | rfl | rfl : j = 0 ∨ j = 1 ∨ j = 2 ∨ j = 3 ∨ j = 4 ∨ j = 5 ∨ j = 6 ∨ j = 7 ∨ j = 8 := by omega
      all_goals exact hs
    | i + 1, hi => simp at hi
  · simp only [List.mem_cons, List.not_mem_nil, or_false] at hu
    subst hu
    exact ra

set_option maxRecDepth 100000 in
set_option maxHeartbeats 8000000 in
theorem grow_walk (f : Nat → Int) (a : Option Addr) (ca : Nat) (l : List V) (g : Nat → Int) (node : Int) (da : Option Addr) (dc : Nat) (ds : List Nat) (w : World)
    (_ : ∀ j, j < 8 → -9223372036854775808 ≤ f j ∧ f j ≤ 9223372036854775807) (ra : Row w a ca l) (_ : ∀ j, j < 8 → -9223372036854775808 ≤ g j ∧ g j ≤ 9223372036854775807) (hno : -9223372036854775808 ≤ node ∧ node ≤ 9223372036854775807) (hd : ArgB w da ds.length dc ds) :
    Calls Try.prog 8 #[.agg #[.int .i64 (f 0), .int .i64 (f 1), .int .i64 (f 2), .int .i64 (f 3), .int .i64 (f 4), .int .i64 (f 5), .int .i64 (f 6), .int .i64 (f 7), .slice a l.length ca], .agg #[.int .i64 (g 0), .int .i64 (g 1), .int .i64 (g 2), .int .i64 (g 3), .int .i64 (g 4), .int .i64 (g 5), .int .i64 (g 6), .int .i64 (g 7)], .int .i64 node, .slice da ds.length dc] w fun e w' => e = .returned (.bool true) ∧ Off (fun _ => False) w w' := by
  have hnot := not_any
  obtain ⟨W, hW⟩ : ∃ W, W = ((w.alloc (.cells #[.int .i64 (f 0), .int .i64 (f 1), .int .i64 (f 2), .int .i64 (f 3), .int .i64 (f 4), .int .i64 (f 5), .int .i64 (f 6), .int .i64 (f 7), .slice a l.length ca] 26)).alloc (.cells #[.int .i64 (g 0), .int .i64 (g 1), .int .i64 (g 2), .int .i64 (g 3), .int .i64 (g 4), .int .i64 (g 5), .int .i64 (g 6), .int .i64 (g 7)] 23)) := ⟨_, rfl⟩
  have O : Off (fun _ => False) w W := by rw [hW]; exact ((Off.refl _ w).alloc _).alloc _
  have C0 : Cel w.heap.size 26 #[.int .i64 (f 0), .int .i64 (f 1), .int .i64 (f 2), .int .i64 (f 3), .int .i64 (f 4), .int .i64 (f 5), .int .i64 (f 6), .int .i64 (f 7), .slice a l.length ca] W := by rw [hW]; exact (Cel.new w _ _).alloc _
  have C1 : Cel (w.heap.size + 1) 23 #[.int .i64 (g 0), .int .i64 (g 1), .int .i64 (g 2), .int .i64 (g 3), .int .i64 (g 4), .int .i64 (g 5), .int .i64 (g 6), .int .i64 (g 7)] W := by rw [hW]; exact Cel.new1 w _ _ _
  have HW : Hid _ := hW.symm
  have H0 : Hid _ := C0
  have H1 : Hid _ := C1
  have HO : Hid _ := O
  have HR1 : Hid _ := ra.off O
  have HNO : Hid _ := hno
  have HD : Hid _ := hd.src
  have HB : Hid _ := And.intro hd.lt hd.bound
  clear hW C0 C1 O ra hno hd
  cases m1 : mayS f (cont l)
  · go_enter Try.func8, Try.ntmps8
    go_wp2_with fail
    rw [HW.out]
    generalize hq1 : w.heap.size + 1 = q1 at H1 ⊢
    generalize hq0 : w.heap.size = q0 at H0 ⊢
    clear hq0 hq1
    refine (gmay_any f a ca l _ HR1.out).mono ?_
    rw [m1]
    rintro e w1 ⟨rfl, o1⟩
    go_wp2_with fail
    refine (awake_any _).mono ?_
    rintro e w9 ⟨rfl, o9⟩
    go_wp2_with fail
    go_ret
    exact ⟨rfl, HO.out.trans (o1.trans o9 (fun _ _ h => h)) (fun _ _ h => h)⟩
  have HMA : Hid _ := may_iff.1 m1
  go_enter Try.func8, Try.ntmps8
  go_wp2_with fail
  rw [HW.out]
  generalize hq1 : w.heap.size + 1 = q1 at H1 ⊢
  generalize hq0 : w.heap.size = q0 at H0 ⊢
  clear hq0 hq1
  refine (gmay_any f a ca l _ HR1.out).mono ?_
  rw [m1]
  rintro e w1 ⟨rfl, o1⟩
  obtain ⟨x0, x1, x2, x3, x4, x5, x6, x7, x8⟩ := cel9 (H0.out.off o1 (fun h => h))
  have OA : Off (fun _ => False) w1 (w1.alloc (.cells #[.int .i64 (f 0), .int .i64 (f 1), .int .i64 (f 2), .int .i64 (f 3), .int .i64 (f 4), .int .i64 (f 5), .int .i64 (f 6), .int .i64 (f 7), .slice a l.length ca] 26)) := (Off.refl _ w1).alloc _
  have HSL : Hid _ := sl1 (Cel.new w1 26 #[.int .i64 (f 0), .int .i64 (f 1), .int .i64 (f 2), .int .i64 (f 3), .int .i64 (f 4), .int .i64 (f 5), .int .i64 (f 6), .int .i64 (f 7), .slice a l.length ca]) ((HR1.out.off o1).off OA)
  have HOA : Hid _ := o1.trans OA (fun _ _ h => h)
  clear OA o1
  go_wp2_with fail
  refine (light_any _ 1 _ _ HSL.out (by simp)).mono ?_
  rw [show lightB [⟨f, a, ca, l⟩] = true by have := HMA.out.few; rw [cont_len] at this; simp [lightB]; omega]
  rintro e w2 ⟨rfl, o2⟩
  clear x0 x1 x2 x3 x4 x5 x6 x7 x8 HSL
  have HO2 : Hid _ := HOA.out.trans o2 (fun _ _ h => h)
  clear o2 HOA
  obtain ⟨x0, x1, x2, x3, x4, x5, x6, x7, x8⟩ := cel9 (H0.out.off HO2.out (fun h => h))
  obtain ⟨y0, y1, y2, y3, y4, y5, y6, y7⟩ := cel8 (H1.out.off HO2.out (fun h => h))
  go_wp2_with fail
  clear x0 x1 x2 x3 x4 x5 x6 x7 x8 y0 y1 y2 y3 y4 y5 y6 y7
  refine (sput_any f g a ca l node HNO.out da dc ds false _ (HR1.out.off HO2.out) (HD.out.off (HO.out.trans HO2.out (fun _ _ h => h)) (fun _ _ _ h => h)) HB.out.1 HB.out.2).mono ?_
  rintro e w3 ⟨fp, ap, cp, lp, er, rfl, her, hfp, hlp, mdp, o3⟩
  have HER : Hid _ := her
  have HFP : Hid _ := hfp
  have HLP : Hid _ := hlp
  have HMD : Hid _ := mdp.row
  clear her hfp hlp mdp
  go_upto_region 4 with fail
  have Cqt := Cel.new w3 26 #[.int .i64 (fp 0), .int .i64 (fp 1), .int .i64 (fp 2), .int .i64 (fp 3), .int .i64 (fp 4), .int .i64 (fp 5), .int .i64 (fp 6), .int .i64 (fp 7), .slice ap lp.length cp]
  have OA : Off (fun _ => False) w3 (w3.alloc (.cells #[.int .i64 (fp 0), .int .i64 (fp 1), .int .i64 (fp 2), .int .i64 (fp 3), .int .i64 (fp 4), .int .i64 (fp 5), .int .i64 (fp 6), .int .i64 (fp 7), .slice ap lp.length cp] 26)) := (Off.refl _ w3).alloc _
  generalize hq : w3.heap.size = qt at Cqt ⊢
  generalize hv : w3.alloc (.cells #[.int .i64 (fp 0), .int .i64 (fp 1), .int .i64 (fp 2), .int .i64 (fp 3), .int .i64 (fp 4), .int .i64 (fp 5), .int .i64 (fp 6), .int .i64 (fp 7), .slice ap lp.length cp] 26) = Vqt at Cqt OA ⊢
  clear hq hv
  have HRT : Hid _ := HMD.out.off OA
  have GT : Hid _ := Cqt
  have HO3 : Hid _ := HO2.out.trans (o3.trans OA (fun _ _ h => h)) (fun _ _ h => h)
  clear Cqt OA o3 HMD
  by_cases her0 : er = 0
  · subst her0
    obtain ⟨nw, z1, z2, z3, z4, z5, z6, z7, z8, z9, z10⟩ := grow_put HMA.out HER.out.symm
    rw [← HFP.out, ← HLP.out] at z6
    rw [← HFP.out] at z7 z8
    rw [← HLP.out] at z9 z10
    have HN : Hid _ := And.intro z1 (And.intro z2 (And.intro z4 z5))
    have HMP : Hid _ := z6
    have HK : Hid _ := z9
    have HLN : Hid (lp.length = ((cont l).filter (nc g)).length + 1) := by show _ = _; rw [← z10, cont_len]
    have HM1 : Hid (mayS fp (cont lp) = true) := may_yes z6
    have HL1 : Hid (leqS f fp (cont l) (cont lp) = true) := grow_leq HMA.out z6 z7 z4 z5 z9
    have HVL : Hid (leqB g fp = true) := by show _ = true; simp only [leqB, decide_eq_true_eq]; exact z8
    clear z1 z2 z3 z4 z5 z6 z7 z8 z9 z10
    have G0 : Hid _ := H0.out.off HO3.out (fun h => h)
    have G1 : Hid _ := H1.out.off HO3.out (fun h => h)
    have HRA : Hid _ := HR1.out.off HO3.out
    go_wp2_with fail
    refine wp_region_held_drew (S := fun w' => Off (fun _ => False) Vqt w') (by kernel_rfl) ((Off.refl _ Vqt).drew) (fun hS => ?_)
    refine take_at (i := 0) 46 (v := .agg #[.int .i64 (fp 0), .int .i64 (fp 1), .int .i64 (fp 2), .int .i64 (fp 3), .int .i64 (fp 4), .int .i64 (fp 5), .int .i64 (fp 6), .int .i64 (fp 7), .slice ap lp.length cp]) rfl rfl (by kernel_rfl) (by kernel_rfl) (by kernel_rfl) (fun _ _ _ h => h) (Or.inl ⟨by rfl, fun w' hw' => by obtain ⟨x0, x1, x2, x3, x4, x5, x6, x7, x8⟩ := cel9 (GT.out.off hw' (fun h => h)); go_simp⟩) hS ?_
    simp only [Act.put, List.setIfInBounds_toArray, List.set_cons_zero, List.set_cons_succ]
    refine wpAnyH_ready (rs := [1]) (by kernel_rfl) (by simp) ?_
    refine AllReadyH.cons rfl (fun K' hK' => ?_) AllReadyH.nil
    go_simp
    refine (smay_any fp ap cp lp _ (HRT.out.off hS)).mono ?_
    rw [HM1.out]
    rintro e v1 ⟨rfl, o1⟩
    have hS1 := hS.trans o1 (fun _ _ h => h)
    refine hK'.out _ _ hS1 (fun hS => ?_)
    clear hK' K' hS1
    clear o1
    refine take_at (i := 2) 48 (v := .bool false) rfl rfl (by kernel_rfl) (by kernel_rfl) (by kernel_rfl) (fun _ _ _ h => h) (Or.inl ⟨by rfl, fun w' hw' => by go_simp⟩) hS ?_
    simp only [Act.put, List.setIfInBounds_toArray, List.set_cons_zero, List.set_cons_succ]
    refine take_at (i := 3) 49 (v := .bool false) rfl rfl (by kernel_rfl) (by kernel_rfl) (by kernel_rfl) (fun _ _ _ h => h) (Or.inl ⟨by rfl, fun w' hw' => by go_simp⟩) hS ?_
    simp only [Act.put, List.setIfInBounds_toArray, List.set_cons_zero, List.set_cons_succ]
    refine take_at (i := 4) 50 (v := .agg #[.int .i64 (f 0), .int .i64 (f 1), .int .i64 (f 2), .int .i64 (f 3), .int .i64 (f 4), .int .i64 (f 5), .int .i64 (f 6), .int .i64 (f 7), .slice a l.length ca]) rfl rfl (by kernel_rfl) (by kernel_rfl) (by kernel_rfl) (fun _ _ _ h => h) (Or.inl ⟨by rfl, fun w' hw' => by obtain ⟨x0, x1, x2, x3, x4, x5, x6, x7, x8⟩ := cel9 (G0.out.off hw' (fun h => h)); go_simp⟩) hS ?_
    simp only [Act.put, List.setIfInBounds_toArray, List.set_cons_zero, List.set_cons_succ]
    refine take_at (i := 5) 51 (v := .agg #[.int .i64 (fp 0), .int .i64 (fp 1), .int .i64 (fp 2), .int .i64 (fp 3), .int .i64 (fp 4), .int .i64 (fp 5), .int .i64 (fp 6), .int .i64 (fp 7), .slice ap lp.length cp]) rfl rfl (by kernel_rfl) (by kernel_rfl) (by kernel_rfl) (fun _ _ _ h => h) (Or.inl ⟨by rfl, fun w' hw' => by obtain ⟨x0, x1, x2, x3, x4, x5, x6, x7, x8⟩ := cel9 (GT.out.off hw' (fun h => h)); go_simp⟩) hS ?_
    simp only [Act.put, List.setIfInBounds_toArray, List.set_cons_zero, List.set_cons_succ]
    refine wpAnyH_ready (rs := [6]) (by kernel_rfl) (by simp) ?_
    refine AllReadyH.cons rfl (fun K' hK' => ?_) AllReadyH.nil
    go_simp
    refine (sleq_any f fp a ap ca cp l lp _ (HRA.out.off hS) (HRT.out.off hS)).mono ?_
    rw [HL1.out]
    rintro e v6 ⟨rfl, o6⟩
    have hS1 := hS.trans o6 (fun _ _ h => h)
    refine hK'.out _ _ hS1 (fun hS => ?_)
    clear hK' K' hS1
    clear o6
    refine take_at (i := 7) 53 (v := .bool false) rfl rfl (by kernel_rfl) (by kernel_rfl) (by kernel_rfl) (fun _ _ _ h => h) (Or.inl ⟨by rfl, fun w' hw' => by go_simp⟩) hS ?_
    simp only [Act.put, List.setIfInBounds_toArray, List.set_cons_zero, List.set_cons_succ]
    refine take_at (i := 8) 54 (v := .bool false) rfl rfl (by kernel_rfl) (by kernel_rfl) (by kernel_rfl) (fun _ _ _ h => h) (Or.inl ⟨by rfl, fun w' hw' => by go_simp⟩) hS ?_
    simp only [Act.put, List.setIfInBounds_toArray, List.set_cons_zero, List.set_cons_succ]
    refine take_at (i := 9) 55 (v := .bool false) rfl rfl (by kernel_rfl) (by kernel_rfl) (by kernel_rfl) (fun _ _ _ h => h) (Or.inl ⟨by rfl, fun w' hw' => by go_simp⟩) hS ?_
    simp only [Act.put, List.setIfInBounds_toArray, List.set_cons_zero, List.set_cons_succ]
    refine take_at (i := 10) 56 (v := .agg #[.int .i64 (g 0), .int .i64 (g 1), .int .i64 (g 2), .int .i64 (g 3), .int .i64 (g 4), .int .i64 (g 5), .int .i64 (g 6), .int .i64 (g 7)]) rfl rfl (by kernel_rfl) (by kernel_rfl) (by kernel_rfl) (fun _ _ _ h => h) (Or.inl ⟨by rfl, fun w' hw' => by obtain ⟨x0, x1, x2, x3, x4, x5, x6, x7⟩ := cel8 (G1.out.off hw' (fun h => h)); go_simp⟩) hS ?_
    simp only [Act.put, List.setIfInBounds_toArray, List.set_cons_zero, List.set_cons_succ]
    refine take_at (i := 11) 57 (v := .pointer (some ⟨qt, 0, none⟩)) rfl rfl (by kernel_rfl) (by kernel_rfl) (by kernel_rfl) (fun _ _ _ h => h) (Or.inl ⟨by rfl, fun w' hw' => by go_simp⟩) hS ?_
    simp only [Act.put, List.setIfInBounds_toArray, List.set_cons_zero, List.set_cons_succ]
    refine take_at (i := 12) 58 (v := .agg #[.int .i64 (fp 0), .int .i64 (fp 1), .int .i64 (fp 2), .int .i64 (fp 3), .int .i64 (fp 4), .int .i64 (fp 5), .int .i64 (fp 6), .int .i64 (fp 7)]) rfl rfl (by kernel_rfl) (by kernel_rfl) (by kernel_rfl) (fun _ _ _ h => h) (Or.inl ⟨by rfl, fun w' hw' => by obtain ⟨x0, x1, x2, x3, x4, x5, x6, x7, x8⟩ := cel9 (GT.out.off hw' (fun h => h)); go_simp⟩) hS ?_
    simp only [Act.put, List.setIfInBounds_toArray, List.set_cons_zero, List.set_cons_succ]
    refine wpAnyH_ready (rs := [13]) (by kernel_rfl) (by simp) ?_
    refine AllReadyH.cons rfl (fun K' hK' => ?_) AllReadyH.nil
    go_simp
    refine (leq_any g fp _).mono ?_
    rw [HVL.out]
    rintro e v13 ⟨rfl, o13⟩
    have hS1 := hS.trans o13 (fun _ _ h => h)
    refine hK'.out _ _ hS1 (fun hS => ?_)
    clear hK' K' hS1
    clear o13
    refine take_at (i := 14) 60 (v := .bool false) rfl rfl (by kernel_rfl) (by kernel_rfl) (by kernel_rfl) (fun _ _ _ h => h) (Or.inl ⟨by rfl, fun w' hw' => by go_simp⟩) hS ?_
    simp only [Act.put, List.setIfInBounds_toArray, List.set_cons_zero, List.set_cons_succ]
    refine take_at (i := 15) 61 (v := .bool false) rfl rfl (by kernel_rfl) (by kernel_rfl) (by kernel_rfl) (fun _ _ _ h => h) (Or.inl ⟨by rfl, fun w' hw' => by go_simp⟩) hS ?_
    simp only [Act.put, List.setIfInBounds_toArray, List.set_cons_zero, List.set_cons_succ]
    refine take_at (i := 16) 62 (v := .bool false) rfl rfl (by kernel_rfl) (by kernel_rfl) (by kernel_rfl) (fun _ _ _ h => h) (Or.inl ⟨by rfl, fun w' hw' => by go_simp⟩) hS ?_
    simp only [Act.put, List.setIfInBounds_toArray, List.set_cons_zero, List.set_cons_succ]
    refine take_at (i := 17) 63 (v := .agg #[.int .i64 (fp 0), .int .i64 (fp 1), .int .i64 (fp 2), .int .i64 (fp 3), .int .i64 (fp 4), .int .i64 (fp 5), .int .i64 (fp 6), .int .i64 (fp 7), .slice ap lp.length cp]) rfl rfl (by kernel_rfl) (by kernel_rfl) (by kernel_rfl) (fun _ _ _ h => h) (Or.inl ⟨by rfl, fun w' hw' => by obtain ⟨x0, x1, x2, x3, x4, x5, x6, x7, x8⟩ := cel9 (GT.out.off hw' (fun h => h)); go_simp⟩) hS ?_
    simp only [Act.put, List.setIfInBounds_toArray, List.set_cons_zero, List.set_cons_succ]
    refine wpAnyH_ready (rs := [18]) (by kernel_rfl) (by simp) ?_
    refine AllReadyH.cons rfl (fun K' hK' => ?_) AllReadyH.nil
    go_simp
    refine (sreap_any fp ap cp lp _ (HRT.out.off hS)).mono ?_
    rintro e v18 ⟨fr, ar, cr, lr, rfl, hfr, hlr, mdr, o18⟩
    have hS1 := hS.trans o18 (fun _ _ h => h)
    refine hK'.out _ _ hS1 (fun hS => ?_)
    clear hK' K' hS1
    have HRR : Hid _ := mdr.row
    have HM2 : Hid (mayS fr (cont lr) = true) := by show _ = true; rw [hfr, hlr]; exact may_yes (grow_reap HMP.out).1
    clear hfr hlr mdr o18
    refine wpAnyH_ready (rs := [19]) (by kernel_rfl) (by simp) ?_
    refine AllReadyH.cons rfl (fun K' hK' => ?_) AllReadyH.nil
    go_simp
    refine (smay_any fr ar cr lr _ HRR.out).mono ?_
    rw [HM2.out]
    rintro e v19 ⟨rfl, o19⟩
    have hS1 := hS.trans o19 (fun _ _ h => h)
    refine hK'.out _ _ hS1 (fun hS => ?_)
    clear hK' K' hS1
    clear o19
    refine take_at (i := 20) 66 (v := .bool false) rfl rfl (by kernel_rfl) (by kernel_rfl) (by kernel_rfl) (fun _ _ _ h => h) (Or.inl ⟨by rfl, fun w' hw' => by go_simp⟩) hS ?_
    simp only [Act.put, List.setIfInBounds_toArray, List.set_cons_zero, List.set_cons_succ]
    refine take_at (i := 21) 67 (v := .bool false) rfl rfl (by kernel_rfl) (by kernel_rfl) (by kernel_rfl) (fun _ _ _ h => h) (Or.inl ⟨by rfl, fun w' hw' => by go_simp⟩) hS ?_
    simp only [Act.put, List.setIfInBounds_toArray, List.set_cons_zero, List.set_cons_succ]
    refine take_at (i := 22) 68 (v := .bool false) rfl rfl (by kernel_rfl) (by kernel_rfl) (by kernel_rfl) (fun _ _ _ h => h) (Or.inl ⟨by rfl, fun w' hw' => by go_simp⟩) hS ?_
    simp only [Act.put, List.setIfInBounds_toArray, List.set_cons_zero, List.set_cons_succ]
    refine take_at (i := 23) 69 (v := .agg #[.int .i64 (f 0), .int .i64 (f 1), .int .i64 (f 2), .int .i64 (f 3), .int .i64 (f 4), .int .i64 (f 5), .int .i64 (f 6), .int .i64 (f 7), .slice a l.length ca]) rfl rfl (by kernel_rfl) (by kernel_rfl) (by kernel_rfl) (fun _ _ _ h => h) (Or.inl ⟨by rfl, fun w' hw' => by obtain ⟨x0, x1, x2, x3, x4, x5, x6, x7, x8⟩ := cel9 (G0.out.off hw' (fun h => h)); go_simp⟩) hS ?_
    simp only [Act.put, List.setIfInBounds_toArray, List.set_cons_zero, List.set_cons_succ]
    refine take_at (i := 24) 70 (v := .agg #[.int .i64 (f 0), .int .i64 (f 1), .int .i64 (f 2), .int .i64 (f 3), .int .i64 (f 4), .int .i64 (f 5), .int .i64 (f 6), .int .i64 (f 7), .slice a l.length ca]) rfl rfl (by kernel_rfl) (by kernel_rfl) (by kernel_rfl) (fun _ _ _ h => h) (Or.inl ⟨by rfl, fun w' hw' => by obtain ⟨x0, x1, x2, x3, x4, x5, x6, x7, x8⟩ := cel9 (G0.out.off hw' (fun h => h)); go_simp⟩) hS ?_
    simp only [Act.put, List.setIfInBounds_toArray, List.set_cons_zero, List.set_cons_succ]
    refine wpAnyH_ready (rs := [25]) (by kernel_rfl) (by simp) ?_
    refine AllReadyH.cons rfl (fun K' hK' => ?_) AllReadyH.nil
    go_simp
    refine (sreap_any f a ca l _ (HRA.out.off hS)).mono ?_
    rintro e v25 ⟨fs, ads, cs, ls, rfl, hfs, hls, mds, o25⟩
    have hS1 := hS.trans o25 (fun _ _ h => h)
    refine hK'.out _ _ hS1 (fun hS => ?_)
    clear hK' K' hS1
    have HRS : Hid _ := mds.row
    have HL2 : Hid (leqS f fs (cont l) (cont ls) = true) := by show _ = true; rw [hfs, hls]; exact (grow_reap HMA.out).2
    clear hfs hls mds o25
    refine wpAnyH_ready (rs := [26]) (by kernel_rfl) (by simp) ?_
    refine AllReadyH.cons rfl (fun K' hK' => ?_) AllReadyH.nil
    go_simp
    refine (sleq_any f fs a ads ca cs l ls _ (HRA.out.off hS) HRS.out).mono ?_
    rw [HL2.out]
    rintro e v26 ⟨rfl, o26⟩
    have hS1 := hS.trans o26 (fun _ _ h => h)
    refine hK'.out _ _ hS1 (fun hS => ?_)
    clear hK' K' hS1
    clear o26
    refine take_at (i := 27) 73 (v := .bool false) rfl rfl (by kernel_rfl) (by kernel_rfl) (by kernel_rfl) (fun _ _ _ h => h) (Or.inl ⟨by rfl, fun w' hw' => by go_simp⟩) hS ?_
    simp only [Act.put, List.setIfInBounds_toArray, List.set_cons_zero, List.set_cons_succ]
    refine take_at (i := 28) 74 (v := .bool false) rfl rfl (by kernel_rfl) (by kernel_rfl) (by kernel_rfl) (fun _ _ _ h => h) (Or.inl ⟨by rfl, fun w' hw' => by go_simp⟩) hS ?_
    simp only [Act.put, List.setIfInBounds_toArray, List.set_cons_zero, List.set_cons_succ]
    refine wpAnyH_done (by kernel_rfl) ?_ _
    have HS : Hid _ := hS
    clear hS HRR HRS HM1 HM2 HL1 HL2 HVL
    have HRT2 : Hid _ := HRT.out.off HS.out
    have HRA2 : Hid _ := HRA.out.off HS.out
    have HOW : Hid _ := HO3.out.trans HS.out (fun _ _ h => h)
    obtain ⟨x0, x1, x2, x3, x4, x5, x6, x7, x8⟩ := cel9 (GT.out.off HS.out (fun h => h))
    go_wp2_with fail
    clear x0 x1 x2 x3 x4 x5 x6 x7 x8
    go_loopw [11, 78] (fun x y wr => ∃ (c n : Nat), x = .int .i64 (c : Int) ∧ y = .int .i64 (n : Int) ∧ n ≤ lp.length ∧ ((c = 0 ∧ ∀ j u, j < n → lp[j]? = some u → u.abs ≠ nw) ∨ (c = 1 ∧ ∃ j u, j < n ∧ lp[j]? = some u ∧ u.abs = nw)) ∧ Off (fun _ => False) v26 wr) (fun _ y _ => (lp.length - intOf y).toNat)
    case atStart => exact ⟨0, 0, rfl, rfl, by omega, .inl ⟨rfl, fun j u h => by omega⟩, Off.refl _ _⟩
    case round =>
      obtain ⟨c, n, rfl, rfl, hn, hcn, oo⟩ := hrel
      have HCN : Hid _ := hcn
      have HPI : Hid _ := oo
      have hc1 : c ≤ 1 := by rcases hcn with h | h <;> omega
      clear hcn oo
      by_cases hln : n < lp.length
      · have n1 : decide ((n : Int) < (lp.length : Int)) = true := decide_eq_true (by omega)
        have n2 : decide (n < lp.length) = true := decide_eq_true hln
        have hlb : lp.length ≤ 9223372036854775807 := by have := HRT2.out.len; have := HRT2.out.bound; omega
        obtain ⟨v, hv⟩ : ∃ v, lp[n]? = some v := ⟨_, List.getElem?_eq_getElem hln⟩
        have HV : Hid _ := hv
        obtain ⟨ba, fa, hay, h4, hok⟩ := HRT2.out.at_ n v hv
        obtain ⟨c0, c1, c2, c3⟩ := h4.off HPI.out (fun _ h => h)
        have HOK : Hid _ := hok
        clear hv h4 hok
        subst hay
        go_upto_region 12 with fail
        have Cqv := Cel.new wr 77 #[.int .i64 v.node, .int .i64 v.num, .slice v.ad v.data.length v.cap, .bool v.dead]
        have OA : Off (fun _ => False) wr (wr.alloc (.cells #[.int .i64 v.node, .int .i64 v.num, .slice v.ad v.data.length v.cap, .bool v.dead] 77)) := (Off.refl _ wr).alloc _
        generalize hq : wr.heap.size = qv at Cqv ⊢
        generalize hv : wr.alloc (.cells #[.int .i64 v.node, .int .i64 v.num, .slice v.ad v.data.length v.cap, .bool v.dead] 77) = Vqv at Cqv OA ⊢
        clear hq hv
        have HGV : Hid _ := Cqv
        have HPV : Hid _ := HPI.out.trans OA (fun _ _ h => h)
        have HPW : Hid _ := HOW.out.trans HPV.out (fun _ _ h => h)
        clear Cqv OA c0 c1 c2 c3 HPI
        obtain ⟨x0, x1, x2, x3, x4, x5, x6, x7, x8⟩ := cel9 (H0.out.off HPW.out (fun h => h))
        go_wp2_with fail
        clear x0 x1 x2 x3 x4 x5 x6 x7 x8
        obtain ⟨wo, hwo⟩ : ∃ wo : World, wo = wr := ⟨_, rfl⟩
        clear hwo
        go_loopw [14, 85] (fun x y wr => ∃ (γ : Bool) (m : Nat), x = .bool γ ∧ y = .int .i64 (m : Int) ∧ m ≤ l.length ∧ (γ = true → InL l v) ∧ (∀ j x, j < m → l[j]? = some x → x.node = v.node → x.num = v.num → γ = true) ∧ Off (fun _ => False) Vqv wr) (fun _ y _ => (l.length - intOf y).toNat)
        case atStart => exact ⟨false, 0, rfl, rfl, by omega, fun h => by simp at h, fun j x h => by omega, Off.refl _ _⟩
        case round =>
          obtain ⟨γ, m, rfl, rfl, hm, hg1, hg2, oo⟩ := hrel
          have HG1 : Hid _ := hg1
          have HG2 : Hid _ := hg2
          have HPM : Hid _ := oo
          clear hg1 hg2 oo
          by_cases hlm : m < l.length
          · have i1 : decide ((m : Int) < (l.length : Int)) = true := decide_eq_true (by omega)
            have i2 : decide (m < l.length) = true := decide_eq_true hlm
            have hlc : l.length ≤ 9223372036854775807 := by have := HRA2.out.len; have := HRA2.out.bound; omega
            obtain ⟨x, hx⟩ : ∃ x, l[m]? = some x := ⟨_, List.getElem?_eq_getElem hlm⟩
            obtain ⟨bs, fb, has, h4, hok⟩ := HRA2.out.at_ m x hx
            obtain ⟨c0, c1, c2, c3⟩ := h4.off (HPV.out.trans HPM.out (fun _ _ h => h)) (fun _ h => h)
            have HX : Hid _ := hx
            clear hx h4 hok
            subst has
            go_upto_region 16 with fail
            have Cqw := Cel.new wr 77 #[.int .i64 x.node, .int .i64 x.num, .slice x.ad x.data.length x.cap, .bool x.dead]
            have OA : Off (fun _ => False) wr (wr.alloc (.cells #[.int .i64 x.node, .int .i64 x.num, .slice x.ad x.data.length x.cap, .bool x.dead] 77)) := (Off.refl _ wr).alloc _
            generalize hq : wr.heap.size = qw at Cqw ⊢
            generalize hv : wr.alloc (.cells #[.int .i64 x.node, .int .i64 x.num, .slice x.ad x.data.length x.cap, .bool x.dead] 77) = Vqw at Cqw OA ⊢
            clear hq hv
            have HPM2 : Hid _ := HPM.out.trans OA (fun _ _ h => h)
            obtain ⟨e0, e1, e2, e3⟩ := cel4 Cqw
            obtain ⟨d0, d1, d2, d3⟩ := cel4 (HGV.out.off HPM2.out (fun h => h))
            have hdd := eql_dot v.node v.num x.node x.num
            clear Cqw OA HPM c0 c1 c2 c3
            cases γ
            · go_wp2_with fail
              go_roundw
              case rel => exact ⟨decide (v.node = x.node) && decide (v.num = x.num), m + 1, rfl, by go_num, by omega, fun h => ⟨m, x, HX.out, by simp at h; exact ⟨h.1.symm, h.2.symm⟩⟩, fun j y hj hy h1 h2 => by
                rcases Nat.lt_or_ge j m with h | h
                · have := HG2.out j y h hy h1 h2
                  simp at this
                · obtain rfl : j = m := by omega
                  have hX := HX.out
                  rw [hX] at hy
                  cases hy
                  simp [h1, h2], HPM2.out⟩
              case measure => simp [intOf]; omega
            · go_wp2_with fail
              go_roundw
              case rel => exact ⟨true, m + 1, rfl, by go_num, by omega, fun _ => HG1.out rfl, fun _ _ _ _ _ _ => rfl, HPM2.out⟩
              case measure => simp [intOf]; omega
          · have i1 : decide ((m : Int) < (l.length : Int)) = false := decide_eq_false (by omega)
            have i2 : decide (m < l.length) = false := decide_eq_false hlm
            have HALL : Hid (InL l v → γ = true) := by
              rintro ⟨j, x, hx, h1, h2⟩
              obtain ⟨hj, -⟩ := List.getElem?_eq_some_iff.1 hx
              exact HG2.out j x (by omega) hx h1 h2
            have HVK : Hid _ := (HK.out v.abs).1 (mem_cont HV.out)
            have HPX : Hid _ := HPW.out.trans HPM.out (fun _ _ h => h)
            obtain ⟨x0, x1, x2, x3, x4, x5, x6, x7, x8⟩ := cel9 (H0.out.off HPX.out (fun h => h))
            obtain ⟨y0, y1, y2, y3, y4, y5, y6, y7⟩ := cel8 (H1.out.off HPX.out (fun h => h))
            obtain ⟨d0, d1, d2, d3⟩ := cel4 (HGV.out.off HPM.out (fun h => h))
            have HPZ : Hid _ := HPV.out.trans HPM.out (fun _ _ h => h)
            cases γ
            · have HEQ : Hid (v.abs = nw) := by
                rcases HVK.out with h | ⟨h, -⟩
                · exact h
                · have := HALL.out (inL_of ⟨v.abs, h, rfl, rfl⟩)
                  simp at this
              have hnode : (v.node != node) = false := by
                have e : v.node = node := by have := HN.out.1; rw [← HEQ.out] at this; exact this
                simp [e]
              have HDE : Hid ((strOf v.data).toList = (strOf ds).toList) := by
                have e : v.data = ds := by have := HN.out.2.1; rw [← HEQ.out] at this; exact this
                show _ = _
                rw [e]
              have HCF : Hid (coversB f v.node v.num = false) := by have := HN.out.2.2.1; rw [← HEQ.out] at this; exact this
              have cv1 := conv_src (HOK.out.src.off HPZ.out (fun _ _ _ h => h))
              have cv2 := conv_src (HD.out.off (HO.out.trans HPX.out (fun _ _ h => h)) (fun _ _ _ h => h))
              have hde := HDE.out
              go_wp2_with fail
              refine (fcovers_any f v.node v.num _).mono ?_
              rw [HCF.out]
              rintro e wc ⟨rfl, oc⟩
              clear x0 x1 x2 x3 x4 x5 x6 x7 x8 y0 y1 y2 y3 y4 y5 y6 y7 d0 d1 d2 d3 cv1 cv2
              go_wp2_with fail
              go_roundw
              case rel =>
                have hc0 : c = 0 := by
                  rcases HCN.out with h | ⟨-, j, u, hj, hu, he⟩
                  · exact h.1
                  · exfalso
                    have hs := may_srt HMP.out
                    unfold Srt at hs
                    rw [List.pairwise_iff_getElem] at hs
                    obtain ⟨k1, k2⟩ := List.getElem?_eq_some_iff.1 (get_cont hu)
                    obtain ⟨k3, k4⟩ := List.getElem?_eq_some_iff.1 (get_cont HV.out)
                    have := hs j n k1 k3 hj
                    rw [k2, k4, he, HEQ.out] at this
                    exact LT.irr _ this
                exact ⟨c + 1, n + 1, by go_num, by go_num, by omega, .inr ⟨by omega, n, v, by omega, HV.out, HEQ.out⟩, HPZ.out.trans oc (fun _ _ h => h)⟩
              case measure => simp [intOf]; omega
            · have HIN : Hid _ := HG1.out rfl
              have HNE : Hid (v.abs ≠ nw) := fun e => by
                obtain ⟨j, x, hx, h1, h2⟩ := HIN.out
                exact HN.out.2.2.2 x.abs (mem_cont hx) (by rw [← e]; exact ⟨h1, h2⟩)
              have HCG : Hid (coversB g v.node v.num = false) := by
                rcases HVK.out with h | ⟨-, h⟩
                · exact (HNE.out h).elim
                · exact h
              go_wp2_with fail
              refine (fcovers_any g v.node v.num _).mono ?_
              rw [HCG.out]
              rintro e wc ⟨rfl, oc⟩
              clear x0 x1 x2 x3 x4 x5 x6 x7 x8 y0 y1 y2 y3 y4 y5 y6 y7 d0 d1 d2 d3
              go_wp2_with fail
              go_roundw
              case rel => exact ⟨c, n + 1, rfl, by go_num, by omega, by
                rcases HCN.out with ⟨h, k⟩ | ⟨h, j, u, hj, hu, he⟩
                · refine .inl ⟨h, fun j u hj hu => ?_⟩
                  rcases Nat.lt_or_ge j n with h2 | h2
                  · exact k j u h2 hu
                  · obtain rfl : j = n := by omega
                    have hV := HV.out
                    rw [hV] at hu
                    cases hu
                    exact HNE.out
                · exact .inr ⟨h, j, u, by omega, hu, he⟩, HPZ.out.trans oc (fun _ _ h => h)⟩
              case measure => simp [intOf]; omega
      · have n1 : decide ((n : Int) < (lp.length : Int)) = false := decide_eq_false (by omega)
        have n2 : decide (n < lp.length) = false := decide_eq_false hln
        have HC1 : Hid (c = 1) := by
          rcases HCN.out with ⟨-, k⟩ | ⟨h, -⟩
          · exfalso
            have hm : nw ∈ cont lp := (HK.out nw).2 (.inl rfl)
            simp only [cont, List.mem_map] at hm
            obtain ⟨u, hu, he⟩ := hm
            obtain ⟨j, hj⟩ := List.getElem?_of_mem hu
            obtain ⟨hj2, -⟩ := List.getElem?_eq_some_iff.1 hj
            exact k j u (by omega) hj he
          · exact h
        obtain ⟨W4, hW4⟩ : ∃ W4, W4 = wr := ⟨_, rfl⟩
        rw [← hW4] at HPI ⊢
        clear hW4 wr
        have HPW : Hid _ := HOW.out.trans HPI.out (fun _ _ h => h)
        obtain ⟨x0, x1, x2, x3, x4, x5, x6, x7, x8⟩ := cel9 (H0.out.off HPW.out (fun h => h))
        go_wp2_with fail
        clear x0 x1 x2 x3 x4 x5 x6 x7 x8
        go_loopw [11, 139] (fun x y wr => ∃ (s m : Nat), x = .int .i64 (s : Int) ∧ y = .int .i64 (m : Int) ∧ m ≤ l.length ∧ s ≤ m + 1 ∧ s = 1 + ((cont (l.take m)).filter (nc g)).length ∧ Off (fun _ => False) W4 wr) (fun _ y _ => (l.length - intOf y).toNat)
        case atStart => exact ⟨c, 0, rfl, rfl, by omega, by omega, by rw [HC1.out]; simp [cont], Off.refl _ _⟩
        case round =>
          obtain ⟨s, m, rfl, rfl, hm, hsm, hs, oo⟩ := hrel
          have HSS : Hid _ := hs
          have HPM : Hid _ := oo
          clear hs oo
          have hlc : l.length ≤ 16 := by have := HMA.out.few; rw [cont_len] at this; exact this
          by_cases hlm : m < l.length
          · have i1 : decide ((m : Int) < (l.length : Int)) = true := decide_eq_true (by omega)
            have i2 : decide (m < l.length) = true := decide_eq_true hlm
            obtain ⟨x, hx⟩ : ∃ x, l[m]? = some x := ⟨_, List.getElem?_eq_getElem hlm⟩
            obtain ⟨bs, fb, has, h4, hok⟩ := HRA2.out.at_ m x hx
            obtain ⟨c0, c1, c2, c3⟩ := h4.off (HPI.out.trans HPM.out (fun _ _ h => h)) (fun _ h => h)
            have HX : Hid _ := hx
            clear hx h4 hok
            subst has
            go_upto_region 26 with fail
            have Cqw := Cel.new wr 77 #[.int .i64 x.node, .int .i64 x.num, .slice x.ad x.data.length x.cap, .bool x.dead]
            have OA : Off (fun _ => False) wr (wr.alloc (.cells #[.int .i64 x.node, .int .i64 x.num, .slice x.ad x.data.length x.cap, .bool x.dead] 77)) := (Off.refl _ wr).alloc _
            generalize hq : wr.heap.size = qw at Cqw ⊢
            generalize hv : wr.alloc (.cells #[.int .i64 x.node, .int .i64 x.num, .slice x.ad x.data.length x.cap, .bool x.dead] 77) = Vqw at Cqw OA ⊢
            clear hq hv
            have HPM2 : Hid _ := HPM.out.trans OA (fun _ _ h => h)
            obtain ⟨e0, e1, e2, e3⟩ := cel4 Cqw
            obtain ⟨y0, y1, y2, y3, y4, y5, y6, y7⟩ := cel8 (H1.out.off (HPW.out.trans HPM2.out (fun _ _ h => h)) (fun h => h))
            clear Cqw OA HPM c0 c1 c2 c3
            have HST : Hid (((cont (l.take (m + 1))).filter (nc g)).length = ((cont (l.take m)).filter (nc g)).length + (if coversB g x.node x.num = true then 0 else 1)) := by
              have e : l.take (m + 1) = l.take m ++ [x] := by rw [List.take_add_one, HX.out]; rfl
              show _ = _
              rw [e, cont_append, List.filter_append, List.length_append]
              congr 1
              cases hc : coversB g x.node x.num <;> simp [cont, nc, hc, V.abs]
            go_wp2_with fail
            clear y0 y1 y2 y3 y4 y5 y6 y7 e0 e1 e2 e3
            refine (fcovers_any g x.node x.num _).mono ?_
            cases hcv : coversB g x.node x.num
            · rintro e wc ⟨rfl, oc⟩
              go_wp2_with fail
              go_roundw
              case rel => exact ⟨s + 1, m + 1, by go_num, by go_num, by omega, by omega, by have h1 := HST.out; have h2 := HSS.out; simp [hcv] at h1; omega, HPM2.out.trans oc (fun _ _ h => h)⟩
              case measure => simp [intOf]; omega
            · rintro e wc ⟨rfl, oc⟩
              go_wp2_with fail
              go_roundw
              case rel => exact ⟨s, m + 1, rfl, by go_num, by omega, by omega, by have h1 := HST.out; have h2 := HSS.out; simp [hcv] at h1; omega, HPM2.out.trans oc (fun _ _ h => h)⟩
              case measure => simp [intOf]; omega
          · have i1 : decide ((m : Int) < (l.length : Int)) = false := decide_eq_false (by omega)
            have i2 : decide (m < l.length) = false := decide_eq_false hlm
            have hend : ((s : Int) == (lp.length : Int)) = true := by
              have e : l.take m = l := List.take_of_length_le (by omega)
              have h2 := HSS.out
              rw [e] at h2
              have h3 := HLN.out
              have : s = lp.length := by omega
              rw [this]
              simp
            obtain ⟨x0, x1, x2, x3, x4, x5, x6, x7, x8⟩ := cel9 (GT.out.off (HS.out.trans (HPI.out.trans HPM.out (fun _ _ h => h)) (fun _ _ h => h)) (fun h => h))
            go_wp2_with fail
            clear x0 x1 x2 x3 x4 x5 x6 x7 x8
            refine (awake_any _).mono ?_
            rintro e w9 ⟨rfl, o9⟩
            go_wp2_with fail
            go_ret
            exact ⟨rfl, HO.out.trans (HPW.out.trans (HPM.out.trans o9 (fun _ _ h => h)) (fun _ _ h => h)) (fun _ _ h => h)⟩
  · have hen : (er != 0) = true := by simp [her0]
    have hl0 : ((lp.length : Int) == 0) = true := by
      have e : cont lp = [] := by rw [HLP.out]; simp only [putL]; rw [if_neg (by rw [← HER.out]; exact her0)]
      have e2 : lp.length = 0 := by have := congrArg List.length e; simpa [cont_len] using this
      rw [e2]
      rfl
    clear her0
    obtain ⟨x0, x1, x2, x3, x4, x5, x6, x7, x8⟩ := cel9 GT.out
    go_wp2_with fail
    refine (awake_any _).mono ?_
    rintro e w9 ⟨rfl, o9⟩
    go_wp2_with fail
    go_ret
    exact ⟨rfl, HO.out.trans (HO3.out.trans o9 (fun _ _ h => h)) (fun _ _ h => h)⟩
end Go.Proofs.Ytfkpnmmcdhibbaa
