/- The contract of the reference's Put. -/
import Derived.Test.YtfkpnmmcdhibbaaGIns
import Derived.Test.YtfkpnmmcdhibbaaInsQ
import Derived.Test.YtfkpnmmcdhibbaaGCop
import Derived.Test.YtfkpnmmcdhibbaaGMay
import Derived.Test.YtfkpnmmcdhibbaaRefB
namespace Go.Proofs.Ytfkpnmmcdhibbaa
open Go.RowKit

set_option maxRecDepth 100000 in
set_option maxHeartbeats 8000000 in
theorem gput_any (f g : Nat → Int) (a : Option Addr) (ca : Nat) (l : List V) (node : Int) (hno : -9223372036854775808 ≤ node ∧ node ≤ 9223372036854775807) (da : Option Addr) (dc : Nat) (data : List Nat) (dead : Bool) (w : World) (h1 : Row w a ca l) (hd : Src w da dc data) (hlt : ∀ x ∈ data, x < 256) (hdl : data.length ≤ 140737488351232) :
    Calls Try.prog 30 #[.agg #[.int .i64 (f 0), .int .i64 (f 1), .int .i64 (f 2), .int .i64 (f 3), .int .i64 (f 4), .int .i64 (f 5), .int .i64 (f 6), .int .i64 (f 7), .slice a l.length ca], .agg #[.int .i64 (g 0), .int .i64 (g 1), .int .i64 (g 2), .int .i64 (g 3), .int .i64 (g 4), .int .i64 (g 5), .int .i64 (g 6), .int .i64 (g 7)], .int .i64 node, .slice da data.length dc, .bool dead] w fun e w' => ∃ (h : Nat → Int) (a' : Option Addr) (c' : Nat) (l' : List V) (er : Int), e = .returned (.tuple #[.agg #[.int .i64 (h 0), .int .i64 (h 1), .int .i64 (h 2), .int .i64 (h 3), .int .i64 (h 4), .int .i64 (h 5), .int .i64 (h 6), .int .i64 (h 7), .slice a' l'.length c'], .int .i64 er]) ∧ er = putE f g (cont l) node data dead ∧ h = putV f g (cont l) node data dead ∧ cont l' = putL f g (cont l) node data dead ∧ Row w' a' c' l' ∧ Off (fun _ => False) w w' := by
  have hnot := not_any
  obtain ⟨W, hW⟩ : ∃ W, W = (((w.alloc (.cells #[.int .i64 (f 0), .int .i64 (f 1), .int .i64 (f 2), .int .i64 (f 3), .int .i64 (f 4), .int .i64 (f 5), .int .i64 (f 6), .int .i64 (f 7), .slice a l.length ca] 26)).alloc (.cells #[.int .i64 (g 0), .int .i64 (g 1), .int .i64 (g 2), .int .i64 (g 3), .int .i64 (g 4), .int .i64 (g 5), .int .i64 (g 6), .int .i64 (g 7)] 23)).alloc (.cells #[.int .i64 (zer 0), .int .i64 (zer 1), .int .i64 (zer 2), .int .i64 (zer 3), .int .i64 (zer 4), .int .i64 (zer 5), .int .i64 (zer 6), .int .i64 (zer 7), .slice none 0 0] 26)) := ⟨_, rfl⟩
  have O : Off (fun _ => False) w W := by rw [hW]; exact (((Off.refl _ w).alloc _).alloc _).alloc _
  have C0 : Cel w.heap.size 26 #[.int .i64 (f 0), .int .i64 (f 1), .int .i64 (f 2), .int .i64 (f 3), .int .i64 (f 4), .int .i64 (f 5), .int .i64 (f 6), .int .i64 (f 7), .slice a l.length ca] W := by rw [hW]; exact ((Cel.new w _ _).alloc _).alloc _
  have C1 : Cel (w.heap.size + 1) 23 #[.int .i64 (g 0), .int .i64 (g 1), .int .i64 (g 2), .int .i64 (g 3), .int .i64 (g 4), .int .i64 (g 5), .int .i64 (g 6), .int .i64 (g 7)] W := by rw [hW]; exact (Cel.new1 w _ _ _).alloc _
  have C2 : Cel (w.heap.size + 2) 26 #[.int .i64 (zer 0), .int .i64 (zer 1), .int .i64 (zer 2), .int .i64 (zer 3), .int .i64 (zer 4), .int .i64 (zer 5), .int .i64 (zer 6), .int .i64 (zer 7), .slice none 0 0] W := by rw [hW]; exact Cel.new2 w _ _ _ _
  have HW : Hid ((((w.alloc (.cells #[.int .i64 (f 0), .int .i64 (f 1), .int .i64 (f 2), .int .i64 (f 3), .int .i64 (f 4), .int .i64 (f 5), .int .i64 (f 6), .int .i64 (f 7), .slice a l.length ca] 26)).alloc (.cells #[.int .i64 (g 0), .int .i64 (g 1), .int .i64 (g 2), .int .i64 (g 3), .int .i64 (g 4), .int .i64 (g 5), .int .i64 (g 6), .int .i64 (g 7)] 23)).alloc (.cells #[.int .i64 0, .int .i64 0, .int .i64 0, .int .i64 0, .int .i64 0, .int .i64 0, .int .i64 0, .int .i64 0, .slice none 0 0] 26)) = W) := hW.symm
  have R1 := h1.off O
  have H0 : Hid _ := C0
  have H1 : Hid _ := C1
  have H2 : Hid _ := C2
  have HO : Hid _ := O
  have HR : Hid _ := R1
  have HDS : Hid _ := hd.off O (fun _ _ _ h => h)
  have HDL : Hid _ := hlt
  clear hW C0 C1 C2 O R1 h1 hd hlt
  cases m1 : mayS f (cont l)
  · have HP : Hid _ := put_no (e := 1) (show putE f g (cont l) node data dead = 1 by simp [putE, m1]) (by decide)
    go_enter Try.func30, Try.ntmps30
    go_upto_region 1 with fail
    rw [HW.out]
    generalize hq2 : w.heap.size + 1 + 1 = q2 at ⊢
    rw [show w.heap.size + 2 = q2 by omega] at H2
    generalize hq1 : w.heap.size + 1 = q1 at H1 ⊢
    generalize hq0 : w.heap.size = q0 at H0 ⊢
    have HQ : Hid (w.heap.size ≤ q2) := by show w.heap.size ≤ q2; omega
    clear hq0 hq1 hq2
    obtain ⟨x0, x1, x2, x3, x4, x5, x6, x7, x8⟩ := cel9 H0.out
    go_wp2_with fail
    clear x0 x1 x2 x3 x4 x5 x6 x7 x8
    refine (gmay_any f a ca l W HR.out).mono ?_
    rw [m1]
    rintro e w1 ⟨rfl, o1⟩
    have D2 := H2.out.off o1 (fun h => h)
    obtain ⟨x0, x1, x2, x3, x4, x5, x6, x7, x8⟩ := cel9 D2
    have fz := D2.free
    go_wp2_with fail
    have E2 := D2.clr9
    have OE := (HO.out.trans o1 (fun _ _ h => h)).clr9 (b := q2) (.inr HQ.out)
    refine bodyPost_ret (results_err9 rfl rfl rfl E2) rfl ?_
    exact ⟨zer, none, 0, [], 1, rfl, HP.out.1, HP.out.2.1, HP.out.2.2, Row.nil _ _ _ (by omega), OE⟩
  cases m2 : mayB g
  · have HP : Hid _ := put_no (e := 1) (show putE f g (cont l) node data dead = 1 by simp [putE, m1, m2]) (by decide)
    go_enter Try.func30, Try.ntmps30
    go_upto_region 1 with fail
    rw [HW.out]
    generalize hq2 : w.heap.size + 1 + 1 = q2 at ⊢
    rw [show w.heap.size + 2 = q2 by omega] at H2
    generalize hq1 : w.heap.size + 1 = q1 at H1 ⊢
    generalize hq0 : w.heap.size = q0 at H0 ⊢
    have HQ : Hid (w.heap.size ≤ q2) := by show w.heap.size ≤ q2; omega
    clear hq0 hq1 hq2
    obtain ⟨x0, x1, x2, x3, x4, x5, x6, x7, x8⟩ := cel9 H0.out
    go_wp2_with fail
    clear x0 x1 x2 x3 x4 x5 x6 x7 x8
    refine (gmay_any f a ca l W HR.out).mono ?_
    rw [m1]
    rintro e w1 ⟨rfl, o1⟩
    obtain ⟨x0, x1, x2, x3, x4, x5, x6, x7⟩ := cel8 (H1.out.off o1 (fun h => h))
    go_wp2_with fail
    refine (fmay_any g _).mono ?_
    rw [m2]
    rintro e w2 ⟨rfl, o2⟩
    replace o2 := o1.trans o2 (fun _ _ h => h)
    clear x0 x1 x2 x3 x4 x5 x6 x7 o1
    have D2 := H2.out.off o2 (fun h => h)
    obtain ⟨x0, x1, x2, x3, x4, x5, x6, x7, x8⟩ := cel9 D2
    have fz := D2.free
    go_wp2_with fail
    have E2 := D2.clr9
    have OE := (HO.out.trans o2 (fun _ _ h => h)).clr9 (b := q2) (.inr HQ.out)
    refine bodyPost_ret (results_err9 rfl rfl rfl E2) rfl ?_
    exact ⟨zer, none, 0, [], 1, rfl, HP.out.1, HP.out.2.1, HP.out.2.2, Row.nil _ _ _ (by omega), OE⟩
  by_cases n1 : node < 0
  · have HP : Hid _ := put_no (e := 1) (putE_node (f := f) (g := g) (l := cont l) (data := data) (dead := dead) (show nodeB node = false by simp [nodeB]; omega)) (by decide)
    have t1 : decide (node < 0) = true := decide_eq_true n1
    go_enter Try.func30, Try.ntmps30
    go_upto_region 1 with fail
    rw [HW.out]
    generalize hq2 : w.heap.size + 1 + 1 = q2 at ⊢
    rw [show w.heap.size + 2 = q2 by omega] at H2
    generalize hq1 : w.heap.size + 1 = q1 at H1 ⊢
    generalize hq0 : w.heap.size = q0 at H0 ⊢
    have HQ : Hid (w.heap.size ≤ q2) := by show w.heap.size ≤ q2; omega
    clear hq0 hq1 hq2
    obtain ⟨x0, x1, x2, x3, x4, x5, x6, x7, x8⟩ := cel9 H0.out
    go_wp2_with fail
    clear x0 x1 x2 x3 x4 x5 x6 x7 x8
    refine (gmay_any f a ca l W HR.out).mono ?_
    rw [m1]
    rintro e w1 ⟨rfl, o1⟩
    obtain ⟨x0, x1, x2, x3, x4, x5, x6, x7⟩ := cel8 (H1.out.off o1 (fun h => h))
    go_wp2_with fail
    refine (fmay_any g _).mono ?_
    rw [m2]
    rintro e w2 ⟨rfl, o2⟩
    replace o2 := o1.trans o2 (fun _ _ h => h)
    clear x0 x1 x2 x3 x4 x5 x6 x7 o1
    have D2 := H2.out.off o2 (fun h => h)
    obtain ⟨x0, x1, x2, x3, x4, x5, x6, x7, x8⟩ := cel9 D2
    have fz := D2.free
    go_wp2_with fail
    have E2 := D2.clr9
    have OE := (HO.out.trans o2 (fun _ _ h => h)).clr9 (b := q2) (.inr HQ.out)
    refine bodyPost_ret (results_err9 rfl rfl rfl E2) rfl ?_
    exact ⟨zer, none, 0, [], 1, rfl, HP.out.1, HP.out.2.1, HP.out.2.2, Row.nil _ _ _ (by omega), OE⟩
  have t1 : decide (node < 0) = false := decide_eq_false n1
  by_cases n2 : 8 ≤ node
  · have HP : Hid _ := put_no (e := 1) (putE_node (f := f) (g := g) (l := cont l) (data := data) (dead := dead) (show nodeB node = false by simp [nodeB]; omega)) (by decide)
    have t2 : decide (8 ≤ node) = true := decide_eq_true n2
    go_enter Try.func30, Try.ntmps30
    go_upto_region 1 with fail
    rw [HW.out]
    generalize hq2 : w.heap.size + 1 + 1 = q2 at ⊢
    rw [show w.heap.size + 2 = q2 by omega] at H2
    generalize hq1 : w.heap.size + 1 = q1 at H1 ⊢
    generalize hq0 : w.heap.size = q0 at H0 ⊢
    have HQ : Hid (w.heap.size ≤ q2) := by show w.heap.size ≤ q2; omega
    clear hq0 hq1 hq2
    obtain ⟨x0, x1, x2, x3, x4, x5, x6, x7, x8⟩ := cel9 H0.out
    go_wp2_with fail
    clear x0 x1 x2 x3 x4 x5 x6 x7 x8
    refine (gmay_any f a ca l W HR.out).mono ?_
    rw [m1]
    rintro e w1 ⟨rfl, o1⟩
    obtain ⟨x0, x1, x2, x3, x4, x5, x6, x7⟩ := cel8 (H1.out.off o1 (fun h => h))
    go_wp2_with fail
    refine (fmay_any g _).mono ?_
    rw [m2]
    rintro e w2 ⟨rfl, o2⟩
    replace o2 := o1.trans o2 (fun _ _ h => h)
    clear x0 x1 x2 x3 x4 x5 x6 x7 o1
    have D2 := H2.out.off o2 (fun h => h)
    obtain ⟨x0, x1, x2, x3, x4, x5, x6, x7, x8⟩ := cel9 D2
    have fz := D2.free
    go_wp2_with fail
    have E2 := D2.clr9
    have OE := (HO.out.trans o2 (fun _ _ h => h)).clr9 (b := q2) (.inr HQ.out)
    refine bodyPost_ret (results_err9 rfl rfl rfl E2) rfl ?_
    exact ⟨zer, none, 0, [], 1, rfl, HP.out.1, HP.out.2.1, HP.out.2.2, Row.nil _ _ _ (by omega), OE⟩
  have t2 : decide (8 ≤ node) = false := decide_eq_false n2
  by_cases n3 : 200 < data.length
  · have HP : Hid _ := put_no (e := 1) (show putE f g (cont l) node data dead = 1 by have : okData data.length dead = false := (by unfold okData; split <;> exact decide_eq_false (by omega)); simp [putE, m1, m2, this]) (by decide)
    have t3 : decide ((200 : Int) < (data.length : Int)) = true := decide_eq_true (by omega)
    go_enter Try.func30, Try.ntmps30
    go_upto_region 1 with fail
    rw [HW.out]
    generalize hq2 : w.heap.size + 1 + 1 = q2 at ⊢
    rw [show w.heap.size + 2 = q2 by omega] at H2
    generalize hq1 : w.heap.size + 1 = q1 at H1 ⊢
    generalize hq0 : w.heap.size = q0 at H0 ⊢
    have HQ : Hid (w.heap.size ≤ q2) := by show w.heap.size ≤ q2; omega
    clear hq0 hq1 hq2
    obtain ⟨x0, x1, x2, x3, x4, x5, x6, x7, x8⟩ := cel9 H0.out
    go_wp2_with fail
    clear x0 x1 x2 x3 x4 x5 x6 x7 x8
    refine (gmay_any f a ca l W HR.out).mono ?_
    rw [m1]
    rintro e w1 ⟨rfl, o1⟩
    obtain ⟨x0, x1, x2, x3, x4, x5, x6, x7⟩ := cel8 (H1.out.off o1 (fun h => h))
    go_wp2_with fail
    refine (fmay_any g _).mono ?_
    rw [m2]
    rintro e w2 ⟨rfl, o2⟩
    replace o2 := o1.trans o2 (fun _ _ h => h)
    clear x0 x1 x2 x3 x4 x5 x6 x7 o1
    have D2 := H2.out.off o2 (fun h => h)
    obtain ⟨x0, x1, x2, x3, x4, x5, x6, x7, x8⟩ := cel9 D2
    have fz := D2.free
    go_wp2_with fail
    have E2 := D2.clr9
    have OE := (HO.out.trans o2 (fun _ _ h => h)).clr9 (b := q2) (.inr HQ.out)
    refine bodyPost_ret (results_err9 rfl rfl rfl E2) rfl ?_
    exact ⟨zer, none, 0, [], 1, rfl, HP.out.1, HP.out.2.1, HP.out.2.2, Row.nil _ _ _ (by omega), OE⟩
  have t3 : decide ((200 : Int) < (data.length : Int)) = false := decide_eq_false (by omega)
  by_cases n4 : dead = true ∧ 0 < data.length
  · obtain ⟨rfl, n4⟩ := n4
    have HP : Hid _ := put_no (e := 1) (show putE f g (cont l) node data true = 1 by have : okData data.length true = false := (by simp [okData]; intro e; subst e; simp at n4); simp [putE, m1, m2, this]) (by decide)
    have t4 : decide ((0 : Int) < (data.length : Int)) = true := decide_eq_true (by omega)
    go_enter Try.func30, Try.ntmps30
    go_upto_region 1 with fail
    rw [HW.out]
    generalize hq2 : w.heap.size + 1 + 1 = q2 at ⊢
    rw [show w.heap.size + 2 = q2 by omega] at H2
    generalize hq1 : w.heap.size + 1 = q1 at H1 ⊢
    generalize hq0 : w.heap.size = q0 at H0 ⊢
    have HQ : Hid (w.heap.size ≤ q2) := by show w.heap.size ≤ q2; omega
    clear hq0 hq1 hq2
    obtain ⟨x0, x1, x2, x3, x4, x5, x6, x7, x8⟩ := cel9 H0.out
    go_wp2_with fail
    clear x0 x1 x2 x3 x4 x5 x6 x7 x8
    refine (gmay_any f a ca l W HR.out).mono ?_
    rw [m1]
    rintro e w1 ⟨rfl, o1⟩
    obtain ⟨x0, x1, x2, x3, x4, x5, x6, x7⟩ := cel8 (H1.out.off o1 (fun h => h))
    go_wp2_with fail
    refine (fmay_any g _).mono ?_
    rw [m2]
    rintro e w2 ⟨rfl, o2⟩
    replace o2 := o1.trans o2 (fun _ _ h => h)
    clear x0 x1 x2 x3 x4 x5 x6 x7 o1
    have D2 := H2.out.off o2 (fun h => h)
    obtain ⟨x0, x1, x2, x3, x4, x5, x6, x7, x8⟩ := cel9 D2
    have fz := D2.free
    go_wp2_with fail
    have E2 := D2.clr9
    have OE := (HO.out.trans o2 (fun _ _ h => h)).clr9 (b := q2) (.inr HQ.out)
    refine bodyPost_ret (results_err9 rfl rfl rfl E2) rfl ?_
    exact ⟨zer, none, 0, [], 1, rfl, HP.out.1, HP.out.2.1, HP.out.2.2, Row.nil _ _ _ (by omega), OE⟩
  have m3 : okData data.length dead = true := by
    unfold okData
    cases dead <;> simp at n4 ⊢
    · omega
    · exact n4
  have HSN : Hid _ := (may_iff.1 m1).seen
  have hl16 : l.length ≤ 16 := by have := (may_iff.1 m1).few; rwa [cont_len] at this
  obtain ⟨nn, NN, ne, en⟩ : ∃ nn NN ne, nextV (maxV f g) node = (nn, NN, ne) := ⟨_, _, _, rfl⟩
  have hne := next_err (maxV f g) node
  rw [en] at hne
  simp only at hne
  have hrg : (-9223372036854775808 ≤ nn ∧ nn ≤ 9223372036854775807 ∧ -9223372036854775808 ≤ NN ∧ NN ≤ 9223372036854775807) := next_range (fun j hj => by have := HSN.out j hj; simp only [maxV]; omega) hno en
  have HRG : Hid _ := hrg
  clear hrg
  have HM3 : Hid _ := m3
  clear n4
  have t4 : dead = true → decide ((0 : Int) < (data.length : Int)) = false := fun e => by
    subst e
    simp [okData] at m3
    subst m3
    simp
  have t5 : decide (data = []) = false ∨ decide (data = []) = true := by cases decide (data = []) <;> simp
  by_cases h0 : ne = 0
  · subst h0
    clear hne t5
    cases dead
    · clear t4
      go_enter Try.func30, Try.ntmps30
      go_upto_region 1 with fail
      rw [HW.out]
      generalize hq2 : w.heap.size + 1 + 1 = q2 at ⊢
      rw [show w.heap.size + 2 = q2 by omega] at H2
      generalize hq1 : w.heap.size + 1 = q1 at H1 ⊢
      generalize hq0 : w.heap.size = q0 at H0 ⊢
      have HQ : Hid (w.heap.size ≤ q2) := by show w.heap.size ≤ q2; omega
      clear hq0 hq1 hq2
      obtain ⟨x0, x1, x2, x3, x4, x5, x6, x7, x8⟩ := cel9 H0.out
      go_wp2_with fail
      clear x0 x1 x2 x3 x4 x5 x6 x7 x8
      refine (gmay_any f a ca l W HR.out).mono ?_
      rw [m1]
      rintro e w1 ⟨rfl, o1⟩
      obtain ⟨x0, x1, x2, x3, x4, x5, x6, x7⟩ := cel8 (H1.out.off o1 (fun h => h))
      go_wp2_with fail
      refine (fmay_any g _).mono ?_
      rw [m2]
      rintro e w2 ⟨rfl, o2⟩
      replace o2 := o1.trans o2 (fun _ _ h => h)
      clear x0 x1 x2 x3 x4 x5 x6 x7 o1
      obtain ⟨x0, x1, x2, x3, x4, x5, x6, x7, x8⟩ := cel9 (H0.out.off o2 (fun h => h))
      obtain ⟨y0, y1, y2, y3, y4, y5, y6, y7⟩ := cel8 (H1.out.off o2 (fun h => h))
      go_wp2_with fail
      refine (fjoin_any f g _).mono ?_
      rintro e w4 ⟨h, rfl, hh, o4⟩
      replace o4 := o2.trans o4 (fun _ _ h => h)
      have HHE : Hid (∀ j, j < 8 → h j = maxV f g j) := hh
      clear hh o2 x0 x1 x2 x3 x4 x5 x6 x7 x8 y0 y1 y2 y3 y4 y5 y6 y7
      go_upto_region 4 with fail
      have C3 := Cel.new w4 23 #[.int .i64 (h 0), .int .i64 (h 1), .int .i64 (h 2), .int .i64 (h 3), .int .i64 (h 4), .int .i64 (h 5), .int .i64 (h 6), .int .i64 (h 7)]
      have O4 := o4.alloc (.cells #[.int .i64 (h 0), .int .i64 (h 1), .int .i64 (h 2), .int .i64 (h 3), .int .i64 (h 4), .int .i64 (h 5), .int .i64 (h 6), .int .i64 (h 7)] 23)
      generalize hq3 : w4.heap.size = q3 at C3 ⊢
      generalize hw4 : w4.alloc (.cells #[.int .i64 (h 0), .int .i64 (h 1), .int .i64 (h 2), .int .i64 (h 3), .int .i64 (h 4), .int .i64 (h 5), .int .i64 (h 6), .int .i64 (h 7)] 23) = v4 at C3 O4 ⊢
      clear hq3 hw4 o4
      obtain ⟨x0, x1, x2, x3, x4, x5, x6, x7⟩ := cel8 C3
      go_wp2_with fail
      clear x0 x1 x2 x3 x4 x5 x6 x7
      have hnx : nextV h node = nextV (maxV f g) node := next_ext HHE.out node
      refine (fnext_any h (fun j hj => by have h1 := HHE.out j hj; have h2 := HSN.out j hj; rw [h1]; simp only [maxV]; omega) node _).mono ?_
      rw [hnx]
      rintro e w5 ⟨rfl, o5⟩
      replace C3 := C3.off o5 (fun h => h)
      replace O4 := O4.trans o5 (fun _ _ h => h)
      clear o5 hnx
      rw [en]
      simp only
      go_upto_region 5 with fail
      have C4 := Cel.new w5 75 #[.int .i64 nn, .int .i64 NN]
      have O5 := O4.alloc (.cells #[.int .i64 nn, .int .i64 NN] 75)
      have C3' := C3.alloc (.cells #[.int .i64 nn, .int .i64 NN] 75)
      generalize hq4 : w5.heap.size = q4 at C4 ⊢
      generalize hw6 : w5.alloc (.cells #[.int .i64 nn, .int .i64 NN] 75) = w6 at C4 O5 C3' ⊢
      clear hw6 C3 O4 hq4
      obtain ⟨x0, x1, x2, x3, x4, x5, x6, x7⟩ := cel8 C3'
      obtain ⟨z0, z1⟩ := cel2 C4
      go_wp2_with fail
      clear x0 x1 x2 x3 x4 x5 x6 x7 z0 z1
      refine (fwith_any h nn NN _).mono ?_
      rintro e w7 ⟨rfl, o7⟩
      replace O5 := O5.trans o7 (fun _ _ h => h)
      replace C4 := C4.off o7 (fun h => h)
      obtain ⟨wv, hwv⟩ : ∃ wv, wv = withV h nn NN := ⟨_, rfl⟩
      rw [← hwv]
      have HWV : Hid _ := hwv
      clear hwv o7 C3'
      go_upto_region 8 with fail
      have C5 := Cel.new w7 26 #[.int .i64 (wv 0), .int .i64 (wv 1), .int .i64 (wv 2), .int .i64 (wv 3), .int .i64 (wv 4), .int .i64 (wv 5), .int .i64 (wv 6), .int .i64 (wv 7), .slice none 0 0]
      have O6 := O5.alloc (.cells #[.int .i64 (wv 0), .int .i64 (wv 1), .int .i64 (wv 2), .int .i64 (wv 3), .int .i64 (wv 4), .int .i64 (wv 5), .int .i64 (wv 6), .int .i64 (wv 7), .slice none 0 0] 26)
      have C4' := C4.alloc (.cells #[.int .i64 (wv 0), .int .i64 (wv 1), .int .i64 (wv 2), .int .i64 (wv 3), .int .i64 (wv 4), .int .i64 (wv 5), .int .i64 (wv 6), .int .i64 (wv 7), .slice none 0 0] 26)
      generalize hq5 : w7.heap.size = q5 at C5 ⊢
      have hw5 : W.heap.size ≤ q5 := by have := O5.size; omega
      generalize hw8 : w7.alloc (.cells #[.int .i64 (wv 0), .int .i64 (wv 1), .int .i64 (wv 2), .int .i64 (wv 3), .int .i64 (wv 4), .int .i64 (wv 5), .int .i64 (wv 6), .int .i64 (wv 7), .slice none 0 0] 26) = w8 at C5 O6 C4' ⊢
      clear hw8 C4 O5 hq5
      have HQ5 : Hid (w.heap.size ≤ q5 ∧ W.heap.size ≤ q5) := ⟨Nat.le_trans HO.out.size hw5, hw5⟩
      have HC5 : Hid _ := C5
      have HC4 : Hid _ := C4'
      have HO6 : Hid _ := O6
      have H08 : Hid _ := H0.out.off O6 (fun h => h)
      have H18 : Hid _ := H1.out.off O6 (fun h => h)
      have H28 : Hid _ := H2.out.off O6 (fun h => h)
      have HL5 : Hid (q5 < w8.heap.size) := C5.lt
      have HN5 : Hid (q4 ≠ q5 ∧ q2 ≠ q5 ∧ q1 ≠ q5) := ⟨by intro e; subst e; have h1 := C4'.is; rw [C5.is] at h1; simp at h1, by have := H2.out.lt; omega, by have := H1.out.lt; omega⟩
      clear C5 C4' O6 hw5 H0 H1 H2
      obtain ⟨x0, x1, x2, x3, x4, x5, x6, x7, x8⟩ := cel9 H08.out
      go_wp2_with fail
      clear x0 x1 x2 x3 x4 x5 x6 x7 x8
      go_loopw [69] (fun y wr => ∃ (i : Nat) (lo : List V) (ao : Option Addr) (co : Nat), y = .int .i64 (i : Int) ∧ i ≤ l.length ∧ Cel q5 26 #[.int .i64 (wv 0), .int .i64 (wv 1), .int .i64 (wv 2), .int .i64 (wv 3), .int .i64 (wv 4), .int .i64 (wv 5), .int .i64 (wv 6), .int .i64 (wv 7), .slice ao lo.length co] wr ∧ Mk w8.heap.size wr ao co lo ∧ cont lo = (cont (l.take i)).filter (nc g) ∧ Off (fun c => c = q5) w8 wr) (fun y _ => (l.length - intOf y).toNat)
      case atStart => exact ⟨0, [], none, 0, rfl, by omega, HC5.out, Mk.nil _ _, by simp [cont], Off.refl _ _⟩
      case round =>
        clear HC5
        obtain ⟨i, lo, ao, co, rfl, hi, bx, mk, hlo, po⟩ := hrel
        have HBX : Hid _ := bx
        have HMK : Hid _ := mk
        have HLO : Hid _ := hlo
        have HPO : Hid _ := po
        have HOW : Hid (Off (fun c => W.heap.size ≤ c) W wr) := (HO6.out.mono (fun _ _ h => h.elim)).trans po (fun k _ e => by rw [e]; exact HQ5.out.2)
        have hlol : lo.length ≤ 1000 := by
          have h1 := congrArg List.length hlo
          have h2 := List.length_filter_le (nc g) (cont (l.take i))
          simp only [cont_len] at h1 h2
          simp at h2
          omega
        clear bx mk hlo po
        by_cases hil : i < l.length
        · have i1 : decide ((i : Int) < (l.length : Int)) = true := decide_eq_true (by omega)
          have i2 : decide (i < l.length) = true := decide_eq_true hil
          obtain ⟨x, hx⟩ : ∃ x, l[i]? = some x := ⟨_, List.getElem?_eq_getElem hil⟩
          obtain ⟨ba, fa, hay, h4, hvx⟩ := HR.out.at_ i x hx
          have HX : Hid _ := hx
          have HVW : Hid _ := hvx
          obtain ⟨c0, c1, c2, c3⟩ := h4.off HOW.out (fun hb h => by omega)
          clear hx h4 hvx
          subst hay
          go_upto_region 11 with fail
          have CX := Cel.new wr 77 #[.int .i64 x.node, .int .i64 x.num, .slice x.ad x.data.length x.cap, .bool x.dead]
          have OA : Off (fun _ => False) wr (wr.alloc (.cells #[.int .i64 x.node, .int .i64 x.num, .slice x.ad x.data.length x.cap, .bool x.dead] 77)) := (Off.refl _ wr).alloc _
          have lbx := HBX.out.lt
          generalize hq : wr.heap.size = qx at CX lbx ⊢
          have hqx : wr.heap.size ≤ qx := by omega
          generalize hv : wr.alloc (.cells #[.int .i64 x.node, .int .i64 x.num, .slice x.ad x.data.length x.cap, .bool x.dead] 77) = vx at CX OA ⊢
          clear hv hq c0 c1 c2 c3
          have HQX : Hid (qx ≠ q5) := by show qx ≠ q5; omega
          have HLX : Hid (wr.heap.size ≤ qx) := hqx
          have hA0 : ∀ k, blk ao = some k → k ≠ qx := fun k hk => by have := HMK.out.own.lt k hk; omega
          have HA0 : Hid _ := hA0
          have HBX0 : Hid _ := HBX.out.off OA (fun h => h)
          have HMK0 : Hid _ := HMK.out.free OA
          have HPO0 : Hid _ := HPO.out.trans (OA.mono (fun _ _ h => h.elim)) (fun _ _ h => h)
          have HOW0 : Hid _ := HOW.out.trans (OA.mono (fun _ _ h => h.elim)) (fun _ _ h => h)
          have HSX : Hid _ := HMK.out.own.lt
          clear HBX HMK HPO HOW hA0 lbx hqx OA
          obtain ⟨x0, x1, x2, x3, x4, x5, x6, x7⟩ := cel8 (H18.out.off HPO0.out (fun e => HN5.out.2.2 e))
          obtain ⟨e0, e1, e2, e3⟩ := cel4 CX
          cases hcv : coversB g x.node x.num
          · have hnot := not_any
            go_wp2_with fail
            clear x0 x1 x2 x3 x4 x5 x6 x7 e0 e1 e2 e3
            refine (fcovers_any g x.node x.num _).mono ?_
            rw [hcv]
            rintro e v1 ⟨rfl, o1⟩
            have HBX : Hid _ := HBX0.out.off o1 (fun h => h)
            have HMK : Hid _ := HMK0.out.free o1
            have HPO : Hid _ := HPO0.out.trans (o1.mono (fun _ _ h => h.elim)) (fun _ _ h => h)
            have HVX : Hid (∀ w', Off (fun c => c = q5 ∨ blk ao = some c) v1 w' → VOk w' x) := fun w' o => HVW.out.off ((HOW0.out.trans (o1.mono (fun _ _ h => h.elim)) (fun _ _ h => h)).trans o (fun k _ h => h.elim (fun e => by rw [e]; exact HQ5.out.2) (fun e => Nat.le_trans HO6.out.size (HMK.out.lo k e)))) (fun c hc _ h => by omega)
            have HCX : Hid _ := CX.off o1 (fun h => h)
            have HNX : Hid (¬ (qx = q5 ∨ blk ao = some qx)) := fun e => e.elim HQX.out (fun e => HA0.out qx e rfl)
            clear CX o1 HBX0 HMK0 HPO0 HOW0
            go_upto_region 12 with fail
            have HSW : Hid (w8.heap.size ≤ v1.heap.size) := HPO.out.size
            have hS0 : Hid _ := Off.refl (fun c => c = q5 ∨ blk ao = some c) v1
            refine wp_region_held_drew (S := fun w' => Off (fun c => c = q5 ∨ blk ao = some c) v1 w') (by kernel_rfl) ((Off.refl _ v1).drew) (fun hS => ?_)
            have BX := HBX.out.drew
            have MK := HMK.out.free ((Off.refl _ v1).drew)
            have MKA : Hid (∀ k, blk ao = some k → w8.heap.size ≤ k) := HMK.out.lo
            have MKL : Hid (∀ k, blk ao = some k → k < v1.heap.size) := HMK.out.own.lt
            have hv1 : v1.drew.heap.size = v1.heap.size := rfl
            generalize hdr : v1.drew = va at BX MK hS hv1 ⊢
            clear hdr
            refine take_at (i := 0) 78 (v := .pointer (some ⟨q5, 8, none⟩)) rfl rfl (by kernel_rfl) (by kernel_rfl) (by kernel_rfl) (fun _ _ _ h => h) (Or.inl ⟨by rfl, fun w' hw' => by go_simp⟩) hS ?_
            simp only [Act.put, List.setIfInBounds_toArray, List.set_cons_zero, List.set_cons_succ]
            refine take_at (i := 2) 80 (v := .agg #[.int .i64 x.node, .int .i64 x.num, .slice x.ad x.data.length x.cap, .bool x.dead]) rfl rfl (by kernel_rfl) (by kernel_rfl) (by kernel_rfl) (fun _ _ _ h => h) (Or.inl ⟨by rfl, fun w' hw' => by obtain ⟨x0, x1, x2, x3⟩ := cel4 (HCX.out.off hw' (fun h => HNX.out h)); go_simp⟩) hS ?_
            simp only [Act.put, List.setIfInBounds_toArray, List.set_cons_zero, List.set_cons_succ]
            refine wpAnyH_ready (rs := [1, 3]) (by kernel_rfl) (by simp) ?_
            refine AllReadyH.cons rfl (fun K' hK' => ?_) (AllReadyH.cons rfl (fun K' hK' => ?_) AllReadyH.nil)
            · obtain ⟨x0, x1, x2, x3, x4, x5, x6, x7, x8⟩ := cel9 BX
              go_simp
              refine hK'.out _ _ hS (fun hS => ?_)
              clear hK' K' x0 x1 x2 x3 x4 x5 x6 x7 x8
              refine wpAnyH_ready (rs := [3]) (by kernel_rfl) (by simp) ?_
              refine AllReadyH.cons rfl (fun K' hK' => ?_) AllReadyH.nil
              go_simp
              refine (copied_any x _ (HVX.out _ hS)).mono ?_
              rintro e vb ⟨u, rfl, hu, uo, uk, un, o1⟩
              have hS1 := hS.trans (o1.mono (fun _ _ h => h.elim)) (fun _ _ h => h)
              refine hK'.out _ _ hS1 (fun hS => ?_)
              clear hK' K' hS1
              replace BX := BX.off o1 (fun h => h)
              replace MK := MK.free o1
              have UK : VOk vb u ∧ ∀ k, blk u.ad = some k → va.heap.size ≤ k ∧ k < vb.heap.size := ⟨uk, fun k hk => ⟨un k hk, uo.lt k hk⟩⟩
              have HU : Hid _ := hu
              have HSZ : Hid (va.heap.size ≤ vb.heap.size) := o1.size
              clear uo uk un hu o1
              refine wpAnyH_ready (rs := [4]) (by kernel_rfl) (by simp) ?_
              refine AllReadyH.cons rfl (fun K' hK' => ?_) AllReadyH.nil
              go_simp
              refine hK'.out _ _ (hS.alloc _) (fun hS => ?_)
              clear hK' K'
              have CB := Cel.new vb 77 #[.int .i64 u.node, .int .i64 u.num, .slice u.ad u.data.length u.cap, .bool u.dead]
              have OB : Off (fun _ => False) vb (vb.alloc (.cells #[.int .i64 u.node, .int .i64 u.num, .slice u.ad u.data.length u.cap, .bool u.dead] 77)) := (Off.refl _ vb).alloc _
              generalize hqb : vb.heap.size = qb at CB ⊢
              generalize hvb : vb.alloc (.cells #[.int .i64 u.node, .int .i64 u.num, .slice u.ad u.data.length u.cap, .bool u.dead] 77) = vc at CB OB hS ⊢
              clear hvb hqb
              replace BX := BX.off OB (fun h => h)
              replace MK := MK.free OB
              have RB := row_one CB (UK.1.off OB (fun _ _ _ h => h))
              obtain ⟨a2, c2, v2, hr, own2, o2, at2⟩ := app_runV MK.own RB (fun h => by simp at h) (by simp; omega) 24
              refine wpAnyH_ready (rs := [5]) (by kernel_rfl) (by simp) ?_
              refine AllReadyH.cons rfl (fun K' hK' => ?_) AllReadyH.nil
              refine wp_append_if rfl (.tmp 79) (.tmp 82) rfl rfl rfl hr 83 rfl ?_
              simp only [Act.put, List.setIfInBounds_toArray, List.set_cons_zero, List.set_cons_succ]
              have hS2 := hS.trans (o2.mono (E := fun c => c = q5 ∨ blk ao = some c) (fun _ _ h => .inr h)) (fun _ _ h => h)
              refine hK'.out _ _ hS2 (fun hS => ?_)
              clear hK' K' hr hS2
              refine take_at (i := 6) 84 (v := .pointer (some ⟨q5, 8, none⟩)) rfl rfl (by kernel_rfl) (by kernel_rfl) (by kernel_rfl) (fun _ _ _ h => h) (Or.inl ⟨by rfl, fun w' hw' => by go_simp⟩) hS ?_
              simp only [Act.put, List.setIfInBounds_toArray, List.set_cons_zero, List.set_cons_succ]
              have szb := HSZ.out
              have szc := OB.size
              have MK2 := MK.snoc (u := u) (by have := HSW.out; omega) (UK.1.off OB (fun _ _ _ h => h)) (fun k hk => ⟨by have := (UK.2 k hk).1; have := HSW.out; omega, by have := (UK.2 k hk).2; omega, fun e => by have := MKL.out k e; have := (UK.2 k hk).1; omega⟩) own2 o2 at2
              have BX2 := BX.off o2 (fun e => by have := MKA.out q5 e; have := HL5.out; omega)
              obtain ⟨x0, x1, x2, x3, x4, x5, x6, x7, x8⟩ := cel9 BX2
              have fz := BX2.free
              refine wpAnyH_ready (rs := [7]) (by kernel_rfl) (by simp) ?_
              refine AllReadyH.cons rfl (fun K' hK' => ?_) AllReadyH.nil
              go_simp
              have hS3 := hS.setCell (p := ⟨q5, 8, none⟩) (.inl (.inl rfl)) (.slice a2 (lo ++ [u]).length c2)
              simp only [List.length_append, List.length_cons, List.length_nil, Nat.zero_add] at hS3
              refine hK'.out _ _ hS3 (fun hS => ?_)
              clear hK' K' hS3
              refine wpAnyH_done (by kernel_rfl) ?_ _
              clear x0 x1 x2 x3 x4 x5 x6 x7 x8 fz
              have BX3 := BX2.set 8 (.slice a2 (lo ++ [u]).length c2)
              simp only [List.setIfInBounds_toArray, List.set_cons_zero, List.set_cons_succ] at BX3
              have MK3 := MK2.off ((Off.refl (fun c => c = q5) v2).setCell (p := ⟨q5, 8, none⟩) (.inl rfl) (.slice a2 (lo ++ [u]).length c2)) (fun k h1 _ h2 => by have := HL5.out; omega)
              have OF := (HPO.out.mono (E := fun c => c = q5 ∨ w8.heap.size ≤ c) (fun _ _ h => .inl h)).trans hS (fun k _ h => h.imp id (fun e => MKA.out k e))
              simp only [List.length_append, List.length_cons, List.length_nil, Nat.zero_add] at BX3 MK3
              have HB3 : Hid _ := BX3
              have HM3 : Hid _ := MK3
              have HOF : Hid _ := OF
              have hl2 : (lo ++ [u]).length = lo.length + 1 := by simp
              have HLC : Hid (cont (lo ++ [u]) = (cont (l.take (i + 1))).filter (nc g)) := by
                show _ = _
                rw [List.take_add_one, HX.out]
                simp only [cont, List.map_append, List.filter_append]
                have h1 := HLO.out
                have h2 := HU.out
                have h3 : nc g x.abs = true := by simp only [nc, V.abs, hcv]; rfl
                simp only [cont] at h1
                rw [← h1]
                simp [h2, h3]
              clear BX BX2 BX3 MK MK2 MK3 OF hS own2 o2 at2 CB OB UK szb szc RB
              go_wp2_with fail
              go_roundw
              case rel => exact ⟨i + 1, lo ++ [u], a2, c2, by go_num, by omega, by rw [hl2]; exact HB3.out, HM3.out, HLC.out, HOF.out.mono (fun k hk h => h.elim id (fun e => by omega))⟩
              case measure => simp [intOf]; omega
            · go_simp
              refine (copied_any x _ (HVX.out _ hS)).mono ?_
              rintro e vb ⟨u, rfl, hu, uo, uk, un, o1⟩
              have hS1 := hS.trans (o1.mono (fun _ _ h => h.elim)) (fun _ _ h => h)
              refine hK'.out _ _ hS1 (fun hS => ?_)
              clear hK' K' hS1
              replace BX := BX.off o1 (fun h => h)
              replace MK := MK.free o1
              have UK : VOk vb u ∧ ∀ k, blk u.ad = some k → va.heap.size ≤ k ∧ k < vb.heap.size := ⟨uk, fun k hk => ⟨un k hk, uo.lt k hk⟩⟩
              have HU : Hid _ := hu
              have HSZ : Hid (va.heap.size ≤ vb.heap.size) := o1.size
              clear uo uk un hu o1
              refine wpAnyH_ready (rs := [1, 4]) (by kernel_rfl) (by simp) ?_
              refine AllReadyH.cons rfl (fun K' hK' => ?_) (AllReadyH.cons rfl (fun K' hK' => ?_) AllReadyH.nil)
              · obtain ⟨x0, x1, x2, x3, x4, x5, x6, x7, x8⟩ := cel9 BX
                go_simp
                refine hK'.out _ _ hS (fun hS => ?_)
                clear hK' K' x0 x1 x2 x3 x4 x5 x6 x7 x8
                refine wpAnyH_ready (rs := [4]) (by kernel_rfl) (by simp) ?_
                refine AllReadyH.cons rfl (fun K' hK' => ?_) AllReadyH.nil
                go_simp
                refine hK'.out _ _ (hS.alloc _) (fun hS => ?_)
                clear hK' K'
                have CB := Cel.new vb 77 #[.int .i64 u.node, .int .i64 u.num, .slice u.ad u.data.length u.cap, .bool u.dead]
                have OB : Off (fun _ => False) vb (vb.alloc (.cells #[.int .i64 u.node, .int .i64 u.num, .slice u.ad u.data.length u.cap, .bool u.dead] 77)) := (Off.refl _ vb).alloc _
                generalize hqb : vb.heap.size = qb at CB ⊢
                generalize hvb : vb.alloc (.cells #[.int .i64 u.node, .int .i64 u.num, .slice u.ad u.data.length u.cap, .bool u.dead] 77) = vc at CB OB hS ⊢
                clear hvb hqb
                replace BX := BX.off OB (fun h => h)
                replace MK := MK.free OB
                have RB := row_one CB (UK.1.off OB (fun _ _ _ h => h))
                obtain ⟨a2, c2, v2, hr, own2, o2, at2⟩ := app_runV MK.own RB (fun h => by simp at h) (by simp; omega) 24
                refine wpAnyH_ready (rs := [5]) (by kernel_rfl) (by simp) ?_
                refine AllReadyH.cons rfl (fun K' hK' => ?_) AllReadyH.nil
                refine wp_append_if rfl (.tmp 79) (.tmp 82) rfl rfl rfl hr 83 rfl ?_
                simp only [Act.put, List.setIfInBounds_toArray, List.set_cons_zero, List.set_cons_succ]
                have hS2 := hS.trans (o2.mono (E := fun c => c = q5 ∨ blk ao = some c) (fun _ _ h => .inr h)) (fun _ _ h => h)
                refine hK'.out _ _ hS2 (fun hS => ?_)
                clear hK' K' hr hS2
                refine take_at (i := 6) 84 (v := .pointer (some ⟨q5, 8, none⟩)) rfl rfl (by kernel_rfl) (by kernel_rfl) (by kernel_rfl) (fun _ _ _ h => h) (Or.inl ⟨by rfl, fun w' hw' => by go_simp⟩) hS ?_
                simp only [Act.put, List.setIfInBounds_toArray, List.set_cons_zero, List.set_cons_succ]
                have szb := HSZ.out
                have szc := OB.size
                have MK2 := MK.snoc (u := u) (by have := HSW.out; omega) (UK.1.off OB (fun _ _ _ h => h)) (fun k hk => ⟨by have := (UK.2 k hk).1; have := HSW.out; omega, by have := (UK.2 k hk).2; omega, fun e => by have := MKL.out k e; have := (UK.2 k hk).1; omega⟩) own2 o2 at2
                have BX2 := BX.off o2 (fun e => by have := MKA.out q5 e; have := HL5.out; omega)
                obtain ⟨x0, x1, x2, x3, x4, x5, x6, x7, x8⟩ := cel9 BX2
                have fz := BX2.free
                refine wpAnyH_ready (rs := [7]) (by kernel_rfl) (by simp) ?_
                refine AllReadyH.cons rfl (fun K' hK' => ?_) AllReadyH.nil
                go_simp
                have hS3 := hS.setCell (p := ⟨q5, 8, none⟩) (.inl (.inl rfl)) (.slice a2 (lo ++ [u]).length c2)
                simp only [List.length_append, List.length_cons, List.length_nil, Nat.zero_add] at hS3
                refine hK'.out _ _ hS3 (fun hS => ?_)
                clear hK' K' hS3
                refine wpAnyH_done (by kernel_rfl) ?_ _
                clear x0 x1 x2 x3 x4 x5 x6 x7 x8 fz
                have BX3 := BX2.set 8 (.slice a2 (lo ++ [u]).length c2)
                simp only [List.setIfInBounds_toArray, List.set_cons_zero, List.set_cons_succ] at BX3
                have MK3 := MK2.off ((Off.refl (fun c => c = q5) v2).setCell (p := ⟨q5, 8, none⟩) (.inl rfl) (.slice a2 (lo ++ [u]).length c2)) (fun k h1 _ h2 => by have := HL5.out; omega)
                have OF := (HPO.out.mono (E := fun c => c = q5 ∨ w8.heap.size ≤ c) (fun _ _ h => .inl h)).trans hS (fun k _ h => h.imp id (fun e => MKA.out k e))
                simp only [List.length_append, List.length_cons, List.length_nil, Nat.zero_add] at BX3 MK3
                have HB3 : Hid _ := BX3
                have HM3 : Hid _ := MK3
                have HOF : Hid _ := OF
                have hl2 : (lo ++ [u]).length = lo.length + 1 := by simp
                have HLC : Hid (cont (lo ++ [u]) = (cont (l.take (i + 1))).filter (nc g)) := by
                  show _ = _
                  rw [List.take_add_one, HX.out]
                  simp only [cont, List.map_append, List.filter_append]
                  have h1 := HLO.out
                  have h2 := HU.out
                  have h3 : nc g x.abs = true := by simp only [nc, V.abs, hcv]; rfl
                  simp only [cont] at h1
                  rw [← h1]
                  simp [h2, h3]
                clear BX BX2 BX3 MK MK2 MK3 OF hS own2 o2 at2 CB OB UK szb szc RB
                go_wp2_with fail
                go_roundw
                case rel => exact ⟨i + 1, lo ++ [u], a2, c2, by go_num, by omega, by rw [hl2]; exact HB3.out, HM3.out, HLC.out, HOF.out.mono (fun k hk h => h.elim id (fun e => by omega))⟩
                case measure => simp [intOf]; omega
              · go_simp
                refine hK'.out _ _ (hS.alloc _) (fun hS => ?_)
                clear hK' K'
                have CB := Cel.new vb 77 #[.int .i64 u.node, .int .i64 u.num, .slice u.ad u.data.length u.cap, .bool u.dead]
                have OB : Off (fun _ => False) vb (vb.alloc (.cells #[.int .i64 u.node, .int .i64 u.num, .slice u.ad u.data.length u.cap, .bool u.dead] 77)) := (Off.refl _ vb).alloc _
                generalize hqb : vb.heap.size = qb at CB ⊢
                generalize hvb : vb.alloc (.cells #[.int .i64 u.node, .int .i64 u.num, .slice u.ad u.data.length u.cap, .bool u.dead] 77) = vc at CB OB hS ⊢
                clear hvb hqb
                replace BX := BX.off OB (fun h => h)
                replace MK := MK.free OB
                refine wpAnyH_ready (rs := [1]) (by kernel_rfl) (by simp) ?_
                refine AllReadyH.cons rfl (fun K' hK' => ?_) AllReadyH.nil
                obtain ⟨x0, x1, x2, x3, x4, x5, x6, x7, x8⟩ := cel9 BX
                go_simp
                refine hK'.out _ _ hS (fun hS => ?_)
                clear hK' K' x0 x1 x2 x3 x4 x5 x6 x7 x8
                have RB := row_one CB (UK.1.off OB (fun _ _ _ h => h))
                obtain ⟨a2, c2, v2, hr, own2, o2, at2⟩ := app_runV MK.own RB (fun h => by simp at h) (by simp; omega) 24
                refine wpAnyH_ready (rs := [5]) (by kernel_rfl) (by simp) ?_
                refine AllReadyH.cons rfl (fun K' hK' => ?_) AllReadyH.nil
                refine wp_append_if rfl (.tmp 79) (.tmp 82) rfl rfl rfl hr 83 rfl ?_
                simp only [Act.put, List.setIfInBounds_toArray, List.set_cons_zero, List.set_cons_succ]
                have hS2 := hS.trans (o2.mono (E := fun c => c = q5 ∨ blk ao = some c) (fun _ _ h => .inr h)) (fun _ _ h => h)
                refine hK'.out _ _ hS2 (fun hS => ?_)
                clear hK' K' hr hS2
                refine take_at (i := 6) 84 (v := .pointer (some ⟨q5, 8, none⟩)) rfl rfl (by kernel_rfl) (by kernel_rfl) (by kernel_rfl) (fun _ _ _ h => h) (Or.inl ⟨by rfl, fun w' hw' => by go_simp⟩) hS ?_
                simp only [Act.put, List.setIfInBounds_toArray, List.set_cons_zero, List.set_cons_succ]
                have szb := HSZ.out
                have szc := OB.size
                have MK2 := MK.snoc (u := u) (by have := HSW.out; omega) (UK.1.off OB (fun _ _ _ h => h)) (fun k hk => ⟨by have := (UK.2 k hk).1; have := HSW.out; omega, by have := (UK.2 k hk).2; omega, fun e => by have := MKL.out k e; have := (UK.2 k hk).1; omega⟩) own2 o2 at2
                have BX2 := BX.off o2 (fun e => by have := MKA.out q5 e; have := HL5.out; omega)
                obtain ⟨x0, x1, x2, x3, x4, x5, x6, x7, x8⟩ := cel9 BX2
                have fz := BX2.free
                refine wpAnyH_ready (rs := [7]) (by kernel_rfl) (by simp) ?_
                refine AllReadyH.cons rfl (fun K' hK' => ?_) AllReadyH.nil
                go_simp
                have hS3 := hS.setCell (p := ⟨q5, 8, none⟩) (.inl (.inl rfl)) (.slice a2 (lo ++ [u]).length c2)
                simp only [List.length_append, List.length_cons, List.length_nil, Nat.zero_add] at hS3
                refine hK'.out _ _ hS3 (fun hS => ?_)
                clear hK' K' hS3
                refine wpAnyH_done (by kernel_rfl) ?_ _
                clear x0 x1 x2 x3 x4 x5 x6 x7 x8 fz
                have BX3 := BX2.set 8 (.slice a2 (lo ++ [u]).length c2)
                simp only [List.setIfInBounds_toArray, List.set_cons_zero, List.set_cons_succ] at BX3
                have MK3 := MK2.off ((Off.refl (fun c => c = q5) v2).setCell (p := ⟨q5, 8, none⟩) (.inl rfl) (.slice a2 (lo ++ [u]).length c2)) (fun k h1 _ h2 => by have := HL5.out; omega)
                have OF := (HPO.out.mono (E := fun c => c = q5 ∨ w8.heap.size ≤ c) (fun _ _ h => .inl h)).trans hS (fun k _ h => h.imp id (fun e => MKA.out k e))
                simp only [List.length_append, List.length_cons, List.length_nil, Nat.zero_add] at BX3 MK3
                have HB3 : Hid _ := BX3
                have HM3 : Hid _ := MK3
                have HOF : Hid _ := OF
                have hl2 : (lo ++ [u]).length = lo.length + 1 := by simp
                have HLC : Hid (cont (lo ++ [u]) = (cont (l.take (i + 1))).filter (nc g)) := by
                  show _ = _
                  rw [List.take_add_one, HX.out]
                  simp only [cont, List.map_append, List.filter_append]
                  have h1 := HLO.out
                  have h2 := HU.out
                  have h3 : nc g x.abs = true := by simp only [nc, V.abs, hcv]; rfl
                  simp only [cont] at h1
                  rw [← h1]
                  simp [h2, h3]
                clear BX BX2 BX3 MK MK2 MK3 OF hS own2 o2 at2 CB OB UK szb szc RB
                go_wp2_with fail
                go_roundw
                case rel => exact ⟨i + 1, lo ++ [u], a2, c2, by go_num, by omega, by rw [hl2]; exact HB3.out, HM3.out, HLC.out, HOF.out.mono (fun k hk h => h.elim id (fun e => by omega))⟩
                case measure => simp [intOf]; omega
          · have hnot := not_any
            go_wp2_with fail
            clear x0 x1 x2 x3 x4 x5 x6 x7 e0 e1 e2 e3
            refine (fcovers_any g x.node x.num _).mono ?_
            rw [hcv]
            rintro e v1 ⟨rfl, o1⟩
            have HBX : Hid _ := HBX0.out.off o1 (fun h => h)
            have HMK : Hid _ := HMK0.out.free o1
            have HPO : Hid _ := HPO0.out.trans (o1.mono (fun _ _ h => h.elim)) (fun _ _ h => h)
            have HLC : Hid (cont lo = (cont (l.take (i + 1))).filter (nc g)) := by
              show _ = _
              rw [List.take_add_one, HX.out]
              simp only [cont, List.map_append, List.filter_append]
              have h1 := HLO.out
              have h3 : nc g x.abs = false := by simp only [nc, V.abs, hcv]; rfl
              simp only [cont] at h1
              rw [← h1]
              simp [h3]
            clear CX o1 HBX0 HMK0 HPO0 HOW0
            go_wp2_with fail
            go_roundw
            case rel => exact ⟨i + 1, lo, ao, co, by go_num, by omega, HBX.out, HMK.out, HLC.out, HPO.out⟩
            case measure => simp [intOf]; omega
        · have i1 : decide ((i : Int) < (l.length : Int)) = false := decide_eq_false (by omega)
          have i2 : decide (i < l.length) = false := decide_eq_false hil
          obtain rfl : i = l.length := by omega
          rw [List.take_length] at HLO
          clear i1 i2 hil hi
          have i1 : decide ((l.length : Int) < (l.length : Int)) = false := decide_eq_false (by omega)
          have i2 : decide (l.length < l.length) = false := decide_eq_false (by omega)
          go_upto_region 14 with fail
          clear i1 i2
          have HSW : Hid (w8.heap.size ≤ wr.heap.size) := HPO.out.size
          refine wp_region_held_drew (S := fun w' => Off (fun c => c = q5) wr w') (by kernel_rfl) ((Off.refl _ wr).drew) (fun hS => ?_)
          have BX := HBX.out.drew
          have MK := HMK.out.free ((Off.refl _ wr).drew)
          have hv1 : wr.heap.size ≤ wr.drew.heap.size := Nat.le_refl _
          generalize hdr : wr.drew = va at BX MK hS hv1 ⊢
          clear hdr
          refine take_at (i := 0) 86 (v := .pointer (some ⟨q5, 8, none⟩)) rfl rfl (by kernel_rfl) (by kernel_rfl) (by kernel_rfl) (fun _ _ _ h => h) (Or.inl ⟨by rfl, fun w' hw' => by go_simp⟩) hS ?_
          simp only [Act.put, List.setIfInBounds_toArray, List.set_cons_zero, List.set_cons_succ]
          refine take_at (i := 2) 88 (v := .agg #[.int .i64 nn, .int .i64 NN]) rfl rfl (by kernel_rfl) (by kernel_rfl) (by kernel_rfl) (fun _ _ _ h => h) (Or.inl ⟨by rfl, fun w' hw' => by obtain ⟨z0, z1⟩ := cel2 (HC4.out.off (HPO.out.trans hw' (fun k _ h => h)) (fun e => HN5.out.1 e)); go_simp⟩) hS ?_
          simp only [Act.put, List.setIfInBounds_toArray, List.set_cons_zero, List.set_cons_succ]
          refine take_at (i := 3) 89 (v := .slice da data.length dc) rfl rfl (by kernel_rfl) (by kernel_rfl) (by kernel_rfl) (fun _ _ _ h => h) (Or.inl ⟨by rfl, fun w' hw' => by go_simp⟩) hS ?_
          simp only [Act.put, List.setIfInBounds_toArray, List.set_cons_zero, List.set_cons_succ]
          refine take_at (i := 5) 91 (v := .bool false) rfl rfl (by kernel_rfl) (by kernel_rfl) (by kernel_rfl) (fun _ _ _ h => h) (Or.inl ⟨by rfl, fun w' hw' => by go_simp⟩) hS ?_
          simp only [Act.put, List.setIfInBounds_toArray, List.set_cons_zero, List.set_cons_succ]
          refine wpAnyH_ready (rs := [1, 4]) (by kernel_rfl) (by simp) ?_
          refine AllReadyH.cons rfl (fun K' hK' => ?_) (AllReadyH.cons rfl (fun K' hK' => ?_) AllReadyH.nil)
          · obtain ⟨x0, x1, x2, x3, x4, x5, x6, x7, x8⟩ := cel9 BX
            go_simp
            refine hK'.out _ _ hS (fun hS => ?_)
            clear hK' K' x0 x1 x2 x3 x4 x5 x6 x7 x8
            refine wpAnyH_ready (rs := [4]) (by kernel_rfl) (by simp) ?_
            refine AllReadyH.cons rfl (fun K' hK' => ?_) AllReadyH.nil
            obtain ⟨td, cd, vb, hr, ownd, od, atd⟩ := app_run (OwnR.nil va) (HDS.out.off (HOW.out.trans hS (fun k _ e => by rw [e]; exact HQ5.out.2)) (fun k hk _ h => by omega)) (by simp; omega) 43
            rw [List.nil_append] at hr ownd
            replace od : Off (fun _ => False) va vb := od.mono (fun _ _ h => by simp [blk] at h)
            have fd : ∀ c, blk td = some c → va.heap.size ≤ c ∧ c < vb.heap.size := fun c hc => ⟨by rcases atd with e | e <;> (rw [e] at hc; simp [blk] at hc; try omega), ownd.lt c hc⟩
            refine wp_append_if rfl (.const (.slice none 0 0)) (.tmp 89) rfl rfl rfl hr 90 rfl ?_
            simp only [Act.put, List.setIfInBounds_toArray, List.set_cons_zero, List.set_cons_succ]
            have hS1 := hS.trans (od.mono (fun _ _ h => h.elim)) (fun _ _ h => h)
            refine hK'.out _ _ hS1 (fun hS => ?_)
            clear hK' K' hr hS1 atd
            replace BX := BX.off od (fun h => h)
            replace MK := MK.free od
            have NK : VOk vb (⟨nn, NN, td, cd, data, false⟩ : V) := ⟨ownd.src, HDL.out, HRG.out.1, HRG.out.2.1, HRG.out.2.2.1, HRG.out.2.2.2, by simp only; omega⟩
            have szd := od.size
            clear ownd od
            refine take_at (i := 6) 92 (v := .agg #[.int .i64 nn, .int .i64 NN, .slice td data.length cd, .bool false]) rfl rfl (by kernel_rfl) (by kernel_rfl) (by kernel_rfl) (fun _ _ _ h => h) (Or.inl ⟨by rfl, fun w' hw' => by go_simp⟩) hS ?_
            simp only [Act.put, List.setIfInBounds_toArray, List.set_cons_zero, List.set_cons_succ]
            refine wpAnyH_ready (rs := [7]) (by kernel_rfl) (by simp) ?_
            refine AllReadyH.cons rfl (fun K' hK' => ?_) AllReadyH.nil
            go_simp
            refine (insert_any ao co lo (⟨nn, NN, td, cd, data, false⟩ : V) _ MK.row MK.own.zero NK (by omega)).mono ?_
            rintro e v7 ⟨k, a7, c7, rfl, hk, hk1, hk2, own7, at7, o7⟩
            have hS1 := hS.trans (o7.mono (fun _ _ h => h.elim)) (fun _ _ h => h)
            refine hK'.out _ _ hS1 (fun hS => ?_)
            clear hK' K' hS1
            refine take_at (i := 8) 94 (v := .pointer (some ⟨q5, 8, none⟩)) rfl rfl (by kernel_rfl) (by kernel_rfl) (by kernel_rfl) (fun _ _ _ h => h) (Or.inl ⟨by rfl, fun w' hw' => by go_simp⟩) hS ?_
            simp only [Act.put, List.setIfInBounds_toArray, List.set_cons_zero, List.set_cons_succ]
            have MK7 := MK.ins (u := (⟨nn, NN, td, cd, data, false⟩ : V)) (m := k) (by have := HSW.out; have := hv1; omega) NK (fun c hc => ⟨by have := (fd c hc).1; have := HSW.out; have := hv1; omega, (fd c hc).2⟩) own7 o7 at7
            have BX7 := BX.off o7 (fun h => h)
            have HLL : Hid (cont (lo.take k ++ (⟨nn, NN, td, cd, data, false⟩ : V) :: lo.drop k) = putR f g (cont l) node data false) := by
              show _ = _
              have e : cont (lo.take k ++ (⟨nn, NN, td, cd, data, false⟩ : V) :: lo.drop k) = (cont lo).take k ++ (⟨nn, NN, data, false⟩ : A) :: (cont lo).drop k := by simp [cont, V.abs, List.map_take, List.map_drop]
              rw [e, HLO.out]
              refine put_ins (may_iff.1 m1) en (fun z hz => ?_) (fun y hy => ?_)
              · rw [← HLO.out] at hz
                have : z ∈ cont (lo.take k) := by simpa [cont, List.map_take] using hz
                simp only [cont, List.mem_map] at this
                obtain ⟨z', hz', rfl⟩ := this
                exact less_iff.1 (hk1 z' hz')
              · rw [← HLO.out] at hy
                simp only [cont, List.getElem?_map, Option.map_eq_some_iff] at hy
                obtain ⟨y', hy', rfl⟩ := hy
                have := hk2 y' hy'
                intro hlt
                have h2 := less_iff.2 hlt
                simp only [lessA, V.abs] at h2
                rw [this] at h2
                cases h2
            generalize hz7 : lo.take k ++ (⟨nn, NN, td, cd, data, false⟩ : V) :: lo.drop k = l7 at MK7 HLL ⊢
            obtain ⟨x0, x1, x2, x3, x4, x5, x6, x7, x8⟩ := cel9 BX7
            have fz := BX7.free
            refine wpAnyH_ready (rs := [9]) (by kernel_rfl) (by simp) ?_
            refine AllReadyH.cons rfl (fun K' hK' => ?_) AllReadyH.nil
            go_simp
            have hS3 := hS.setCell (p := ⟨q5, 8, none⟩) (.inl rfl) (.slice a7 l7.length c7)
            refine hK'.out _ _ hS3 (fun hS => ?_)
            clear hK' K' hS3
            refine wpAnyH_done (by kernel_rfl) ?_ _
            clear x0 x1 x2 x3 x4 x5 x6 x7 x8 fz
            have BX8 := BX7.set 8 (.slice a7 l7.length c7)
            simp only [List.setIfInBounds_toArray, List.set_cons_zero, List.set_cons_succ] at BX8
            have MK8 := MK7.off ((Off.refl (fun c => c = q5) v7).setCell (p := ⟨q5, 8, none⟩) (.inl rfl) (.slice a7 l7.length c7)) (fun k h1 _ h2 => by have := HL5.out; omega)
            have OF := HPO.out.trans hS (fun k _ h => h)
            generalize hv9 : v7.setCell ⟨q5, 8, none⟩ (.slice a7 l7.length c7) = v9 at BX8 MK8 OF ⊢
            have HB8 : Hid _ := BX8
            have HM8 : Hid _ := MK8
            have HOF : Hid _ := OF
            clear BX7 BX8 MK7 MK8 OF hS hv9 own7 at7 o7 hk hk1 hk2 hz7 MK BX NK szd fd
            have H2F : Hid _ := H28.out.off HOF.out (fun e => HN5.out.2.1 e)
            have hlen : (putR f g (cont l) node data false).length = l7.length := by rw [← HLL.out, cont_len]
            obtain ⟨x0, x1, x2, x3, x4, x5, x6, x7, x8⟩ := cel9 HB8.out
            by_cases h16 : 16 < l7.length
            · have e1 : decide ((16 : Int) < (l7.length : Int)) = true := decide_eq_true (by omega)
              have e2 : decide (16 < l7.length) = true := decide_eq_true h16
              have HP : Hid _ := put_no (e := 11) (show putE f g (cont l) node data false = 11 by simp [putE, m1, m2, m3, en, hlen, h16]) (by decide)
              clear hlen
              go_upto_region 16 with fail
              clear x0 x1 x2 x3 x4 x5 x6 x7 x8
              have D2 := H2F.out
              obtain ⟨x0, x1, x2, x3, x4, x5, x6, x7, x8⟩ := cel9 D2
              have fz := D2.free
              go_wp2_with fail
              have E2 := D2.clr9
              have OE := (((HO.out.trans HO6.out (fun _ _ h => h)).mono (fun _ _ h => h.elim)).trans HOF.out (fun _ _ h => h)).mono (E := fun _ => False) (fun j hj e => by have := HQ5.out.1; omega)
              refine bodyPost_ret (results_err9 rfl rfl rfl E2) rfl ?_
              exact ⟨zer, none, 0, [], 11, rfl, HP.out.1, HP.out.2.1, HP.out.2.2, Row.nil _ _ _ (by omega), OE.clr9 (b := q2) (.inr HQ.out)⟩
            · have e1 : decide ((16 : Int) < (l7.length : Int)) = false := decide_eq_false (by omega)
              have e2 : decide (16 < l7.length) = false := decide_eq_false h16
              have hP : putE f g (cont l) node data false = 0 := by simp [putE, m1, m2, m3, en, hlen, h16]
              have HPE : Hid _ := hP
              clear hlen hP
              have D2 := H2F.out
              obtain ⟨u0, u1, u2, u3, u4, u5, u6, u7, u8⟩ := cel9 D2
              have fz := D2.free
              go_wp2_with fail
              have E2 := D2.st9 wv (.slice a7 l7.length c7)
              have OE := (((HO.out.trans HO6.out (fun _ _ h => h)).mono (fun _ _ h => h.elim)).trans HOF.out (fun _ _ h => h)).mono (E := fun _ => False) (fun j hj e => by have := HQ5.out.1; omega)
              refine bodyPost_ret (results_sibs2 rfl rfl rfl E2) rfl ?_
              have hx : ∀ j, j < 8 → wv j = putV f g (cont l) node data false j := by
                intro j hj
                rw [HWV.out]
                simp only [putV, HPE.out, if_true, en]
                exact with_ext HHE.out nn NN j hj
              refine ⟨putV f g (cont l) node data false, a7, c7, l7, 0, by rw [vec_ext hx]; rfl, HPE.out.symm, rfl, ?_, ?_, OE.st9 (b := q2) (.inr HQ.out) wv _⟩
              · rw [HLL.out]
                simp [putL, HPE.out]
              · refine (HM8.out.off ((Off.refl (fun c => c = q2) v9).st9 (.inl rfl) wv _) (fun k hk _ e => ?_)).row
                have := H28.out.lt
                omega
          · obtain ⟨td, cd, vb, hr, ownd, od, atd⟩ := app_run (OwnR.nil va) (HDS.out.off (HOW.out.trans hS (fun k _ e => by rw [e]; exact HQ5.out.2)) (fun k hk _ h => by omega)) (by simp; omega) 43
            rw [List.nil_append] at hr ownd
            replace od : Off (fun _ => False) va vb := od.mono (fun _ _ h => by simp [blk] at h)
            have fd : ∀ c, blk td = some c → va.heap.size ≤ c ∧ c < vb.heap.size := fun c hc => ⟨by rcases atd with e | e <;> (rw [e] at hc; simp [blk] at hc; try omega), ownd.lt c hc⟩
            refine wp_append_if rfl (.const (.slice none 0 0)) (.tmp 89) rfl rfl rfl hr 90 rfl ?_
            simp only [Act.put, List.setIfInBounds_toArray, List.set_cons_zero, List.set_cons_succ]
            have hS1 := hS.trans (od.mono (fun _ _ h => h.elim)) (fun _ _ h => h)
            refine hK'.out _ _ hS1 (fun hS => ?_)
            clear hK' K' hr hS1 atd
            replace BX := BX.off od (fun h => h)
            replace MK := MK.free od
            have NK : VOk vb (⟨nn, NN, td, cd, data, false⟩ : V) := ⟨ownd.src, HDL.out, HRG.out.1, HRG.out.2.1, HRG.out.2.2.1, HRG.out.2.2.2, by simp only; omega⟩
            have szd := od.size
            clear ownd od
            refine take_at (i := 6) 92 (v := .agg #[.int .i64 nn, .int .i64 NN, .slice td data.length cd, .bool false]) rfl rfl (by kernel_rfl) (by kernel_rfl) (by kernel_rfl) (fun _ _ _ h => h) (Or.inl ⟨by rfl, fun w' hw' => by go_simp⟩) hS ?_
            simp only [Act.put, List.setIfInBounds_toArray, List.set_cons_zero, List.set_cons_succ]
            refine wpAnyH_ready (rs := [1]) (by kernel_rfl) (by simp) ?_
            refine AllReadyH.cons rfl (fun K' hK' => ?_) AllReadyH.nil
            obtain ⟨x0, x1, x2, x3, x4, x5, x6, x7, x8⟩ := cel9 BX
            go_simp
            refine hK'.out _ _ hS (fun hS => ?_)
            clear hK' K' x0 x1 x2 x3 x4 x5 x6 x7 x8
            refine wpAnyH_ready (rs := [7]) (by kernel_rfl) (by simp) ?_
            refine AllReadyH.cons rfl (fun K' hK' => ?_) AllReadyH.nil
            go_simp
            refine (insert_any ao co lo (⟨nn, NN, td, cd, data, false⟩ : V) _ MK.row MK.own.zero NK (by omega)).mono ?_
            rintro e v7 ⟨k, a7, c7, rfl, hk, hk1, hk2, own7, at7, o7⟩
            have hS1 := hS.trans (o7.mono (fun _ _ h => h.elim)) (fun _ _ h => h)
            refine hK'.out _ _ hS1 (fun hS => ?_)
            clear hK' K' hS1
            refine take_at (i := 8) 94 (v := .pointer (some ⟨q5, 8, none⟩)) rfl rfl (by kernel_rfl) (by kernel_rfl) (by kernel_rfl) (fun _ _ _ h => h) (Or.inl ⟨by rfl, fun w' hw' => by go_simp⟩) hS ?_
            simp only [Act.put, List.setIfInBounds_toArray, List.set_cons_zero, List.set_cons_succ]
            have MK7 := MK.ins (u := (⟨nn, NN, td, cd, data, false⟩ : V)) (m := k) (by have := HSW.out; have := hv1; omega) NK (fun c hc => ⟨by have := (fd c hc).1; have := HSW.out; have := hv1; omega, (fd c hc).2⟩) own7 o7 at7
            have BX7 := BX.off o7 (fun h => h)
            have HLL : Hid (cont (lo.take k ++ (⟨nn, NN, td, cd, data, false⟩ : V) :: lo.drop k) = putR f g (cont l) node data false) := by
              show _ = _
              have e : cont (lo.take k ++ (⟨nn, NN, td, cd, data, false⟩ : V) :: lo.drop k) = (cont lo).take k ++ (⟨nn, NN, data, false⟩ : A) :: (cont lo).drop k := by simp [cont, V.abs, List.map_take, List.map_drop]
              rw [e, HLO.out]
              refine put_ins (may_iff.1 m1) en (fun z hz => ?_) (fun y hy => ?_)
              · rw [← HLO.out] at hz
                have : z ∈ cont (lo.take k) := by simpa [cont, List.map_take] using hz
                simp only [cont, List.mem_map] at this
                obtain ⟨z', hz', rfl⟩ := this
                exact less_iff.1 (hk1 z' hz')
              · rw [← HLO.out] at hy
                simp only [cont, List.getElem?_map, Option.map_eq_some_iff] at hy
                obtain ⟨y', hy', rfl⟩ := hy
                have := hk2 y' hy'
                intro hlt
                have h2 := less_iff.2 hlt
                simp only [lessA, V.abs] at h2
                rw [this] at h2
                cases h2
            generalize hz7 : lo.take k ++ (⟨nn, NN, td, cd, data, false⟩ : V) :: lo.drop k = l7 at MK7 HLL ⊢
            obtain ⟨x0, x1, x2, x3, x4, x5, x6, x7, x8⟩ := cel9 BX7
            have fz := BX7.free
            refine wpAnyH_ready (rs := [9]) (by kernel_rfl) (by simp) ?_
            refine AllReadyH.cons rfl (fun K' hK' => ?_) AllReadyH.nil
            go_simp
            have hS3 := hS.setCell (p := ⟨q5, 8, none⟩) (.inl rfl) (.slice a7 l7.length c7)
            refine hK'.out _ _ hS3 (fun hS => ?_)
            clear hK' K' hS3
            refine wpAnyH_done (by kernel_rfl) ?_ _
            clear x0 x1 x2 x3 x4 x5 x6 x7 x8 fz
            have BX8 := BX7.set 8 (.slice a7 l7.length c7)
            simp only [List.setIfInBounds_toArray, List.set_cons_zero, List.set_cons_succ] at BX8
            have MK8 := MK7.off ((Off.refl (fun c => c = q5) v7).setCell (p := ⟨q5, 8, none⟩) (.inl rfl) (.slice a7 l7.length c7)) (fun k h1 _ h2 => by have := HL5.out; omega)
            have OF := HPO.out.trans hS (fun k _ h => h)
            generalize hv9 : v7.setCell ⟨q5, 8, none⟩ (.slice a7 l7.length c7) = v9 at BX8 MK8 OF ⊢
            have HB8 : Hid _ := BX8
            have HM8 : Hid _ := MK8
            have HOF : Hid _ := OF
            clear BX7 BX8 MK7 MK8 OF hS hv9 own7 at7 o7 hk hk1 hk2 hz7 MK BX NK szd fd
            have H2F : Hid _ := H28.out.off HOF.out (fun e => HN5.out.2.1 e)
            have hlen : (putR f g (cont l) node data false).length = l7.length := by rw [← HLL.out, cont_len]
            obtain ⟨x0, x1, x2, x3, x4, x5, x6, x7, x8⟩ := cel9 HB8.out
            by_cases h16 : 16 < l7.length
            · have e1 : decide ((16 : Int) < (l7.length : Int)) = true := decide_eq_true (by omega)
              have e2 : decide (16 < l7.length) = true := decide_eq_true h16
              have HP : Hid _ := put_no (e := 11) (show putE f g (cont l) node data false = 11 by simp [putE, m1, m2, m3, en, hlen, h16]) (by decide)
              clear hlen
              go_upto_region 16 with fail
              clear x0 x1 x2 x3 x4 x5 x6 x7 x8
              have D2 := H2F.out
              obtain ⟨x0, x1, x2, x3, x4, x5, x6, x7, x8⟩ := cel9 D2
              have fz := D2.free
              go_wp2_with fail
              have E2 := D2.clr9
              have OE := (((HO.out.trans HO6.out (fun _ _ h => h)).mono (fun _ _ h => h.elim)).trans HOF.out (fun _ _ h => h)).mono (E := fun _ => False) (fun j hj e => by have := HQ5.out.1; omega)
              refine bodyPost_ret (results_err9 rfl rfl rfl E2) rfl ?_
              exact ⟨zer, none, 0, [], 11, rfl, HP.out.1, HP.out.2.1, HP.out.2.2, Row.nil _ _ _ (by omega), OE.clr9 (b := q2) (.inr HQ.out)⟩
            · have e1 : decide ((16 : Int) < (l7.length : Int)) = false := decide_eq_false (by omega)
              have e2 : decide (16 < l7.length) = false := decide_eq_false h16
              have hP : putE f g (cont l) node data false = 0 := by simp [putE, m1, m2, m3, en, hlen, h16]
              have HPE : Hid _ := hP
              clear hlen hP
              have D2 := H2F.out
              obtain ⟨u0, u1, u2, u3, u4, u5, u6, u7, u8⟩ := cel9 D2
              have fz := D2.free
              go_wp2_with fail
              have E2 := D2.st9 wv (.slice a7 l7.length c7)
              have OE := (((HO.out.trans HO6.out (fun _ _ h => h)).mono (fun _ _ h => h.elim)).trans HOF.out (fun _ _ h => h)).mono (E := fun _ => False) (fun j hj e => by have := HQ5.out.1; omega)
              refine bodyPost_ret (results_sibs2 rfl rfl rfl E2) rfl ?_
              have hx : ∀ j, j < 8 → wv j = putV f g (cont l) node data false j := by
                intro j hj
                rw [HWV.out]
                simp only [putV, HPE.out, if_true, en]
                exact with_ext HHE.out nn NN j hj
              refine ⟨putV f g (cont l) node data false, a7, c7, l7, 0, by rw [vec_ext hx]; rfl, HPE.out.symm, rfl, ?_, ?_, OE.st9 (b := q2) (.inr HQ.out) wv _⟩
              · rw [HLL.out]
                simp [putL, HPE.out]
              · refine (HM8.out.off ((Off.refl (fun c => c = q2) v9).st9 (.inl rfl) wv _) (fun k hk _ e => ?_)).row
                have := H28.out.lt
                omega
    · have hdz : data = [] := by simpa [okData] using m3
      have t4a : decide (0 < data.length) = false := by rw [hdz]; rfl
      have t4b : decide (data = []) = true := decide_eq_true hdz
      replace t4 := t4 rfl
      clear hdz
      go_enter Try.func30, Try.ntmps30
      go_upto_region 1 with fail
      rw [HW.out]
      generalize hq2 : w.heap.size + 1 + 1 = q2 at ⊢
      rw [show w.heap.size + 2 = q2 by omega] at H2
      generalize hq1 : w.heap.size + 1 = q1 at H1 ⊢
      generalize hq0 : w.heap.size = q0 at H0 ⊢
      have HQ : Hid (w.heap.size ≤ q2) := by show w.heap.size ≤ q2; omega
      clear hq0 hq1 hq2
      obtain ⟨x0, x1, x2, x3, x4, x5, x6, x7, x8⟩ := cel9 H0.out
      go_wp2_with fail
      clear x0 x1 x2 x3 x4 x5 x6 x7 x8
      refine (gmay_any f a ca l W HR.out).mono ?_
      rw [m1]
      rintro e w1 ⟨rfl, o1⟩
      obtain ⟨x0, x1, x2, x3, x4, x5, x6, x7⟩ := cel8 (H1.out.off o1 (fun h => h))
      go_wp2_with fail
      refine (fmay_any g _).mono ?_
      rw [m2]
      rintro e w2 ⟨rfl, o2⟩
      replace o2 := o1.trans o2 (fun _ _ h => h)
      clear x0 x1 x2 x3 x4 x5 x6 x7 o1
      obtain ⟨x0, x1, x2, x3, x4, x5, x6, x7, x8⟩ := cel9 (H0.out.off o2 (fun h => h))
      obtain ⟨y0, y1, y2, y3, y4, y5, y6, y7⟩ := cel8 (H1.out.off o2 (fun h => h))
      go_wp2_with fail
      refine (fjoin_any f g _).mono ?_
      rintro e w4 ⟨h, rfl, hh, o4⟩
      replace o4 := o2.trans o4 (fun _ _ h => h)
      have HHE : Hid (∀ j, j < 8 → h j = maxV f g j) := hh
      clear hh o2 x0 x1 x2 x3 x4 x5 x6 x7 x8 y0 y1 y2 y3 y4 y5 y6 y7
      go_upto_region 4 with fail
      have C3 := Cel.new w4 23 #[.int .i64 (h 0), .int .i64 (h 1), .int .i64 (h 2), .int .i64 (h 3), .int .i64 (h 4), .int .i64 (h 5), .int .i64 (h 6), .int .i64 (h 7)]
      have O4 := o4.alloc (.cells #[.int .i64 (h 0), .int .i64 (h 1), .int .i64 (h 2), .int .i64 (h 3), .int .i64 (h 4), .int .i64 (h 5), .int .i64 (h 6), .int .i64 (h 7)] 23)
      generalize hq3 : w4.heap.size = q3 at C3 ⊢
      generalize hw4 : w4.alloc (.cells #[.int .i64 (h 0), .int .i64 (h 1), .int .i64 (h 2), .int .i64 (h 3), .int .i64 (h 4), .int .i64 (h 5), .int .i64 (h 6), .int .i64 (h 7)] 23) = v4 at C3 O4 ⊢
      clear hq3 hw4 o4
      obtain ⟨x0, x1, x2, x3, x4, x5, x6, x7⟩ := cel8 C3
      go_wp2_with fail
      clear x0 x1 x2 x3 x4 x5 x6 x7
      have hnx : nextV h node = nextV (maxV f g) node := next_ext HHE.out node
      refine (fnext_any h (fun j hj => by have h1 := HHE.out j hj; have h2 := HSN.out j hj; rw [h1]; simp only [maxV]; omega) node _).mono ?_
      rw [hnx]
      rintro e w5 ⟨rfl, o5⟩
      replace C3 := C3.off o5 (fun h => h)
      replace O4 := O4.trans o5 (fun _ _ h => h)
      clear o5 hnx
      clear t4 t4a t4b
      rw [en]
      simp only
      go_upto_region 5 with fail
      have C4 := Cel.new w5 75 #[.int .i64 nn, .int .i64 NN]
      have O5 := O4.alloc (.cells #[.int .i64 nn, .int .i64 NN] 75)
      have C3' := C3.alloc (.cells #[.int .i64 nn, .int .i64 NN] 75)
      generalize hq4 : w5.heap.size = q4 at C4 ⊢
      generalize hw6 : w5.alloc (.cells #[.int .i64 nn, .int .i64 NN] 75) = w6 at C4 O5 C3' ⊢
      clear hw6 C3 O4 hq4
      obtain ⟨x0, x1, x2, x3, x4, x5, x6, x7⟩ := cel8 C3'
      obtain ⟨z0, z1⟩ := cel2 C4
      go_wp2_with fail
      clear x0 x1 x2 x3 x4 x5 x6 x7 z0 z1
      refine (fwith_any h nn NN _).mono ?_
      rintro e w7 ⟨rfl, o7⟩
      replace O5 := O5.trans o7 (fun _ _ h => h)
      replace C4 := C4.off o7 (fun h => h)
      obtain ⟨wv, hwv⟩ : ∃ wv, wv = withV h nn NN := ⟨_, rfl⟩
      rw [← hwv]
      have HWV : Hid _ := hwv
      clear hwv o7 C3'
      go_upto_region 8 with fail
      have C5 := Cel.new w7 26 #[.int .i64 (wv 0), .int .i64 (wv 1), .int .i64 (wv 2), .int .i64 (wv 3), .int .i64 (wv 4), .int .i64 (wv 5), .int .i64 (wv 6), .int .i64 (wv 7), .slice none 0 0]
      have O6 := O5.alloc (.cells #[.int .i64 (wv 0), .int .i64 (wv 1), .int .i64 (wv 2), .int .i64 (wv 3), .int .i64 (wv 4), .int .i64 (wv 5), .int .i64 (wv 6), .int .i64 (wv 7), .slice none 0 0] 26)
      have C4' := C4.alloc (.cells #[.int .i64 (wv 0), .int .i64 (wv 1), .int .i64 (wv 2), .int .i64 (wv 3), .int .i64 (wv 4), .int .i64 (wv 5), .int .i64 (wv 6), .int .i64 (wv 7), .slice none 0 0] 26)
      generalize hq5 : w7.heap.size = q5 at C5 ⊢
      have hw5 : W.heap.size ≤ q5 := by have := O5.size; omega
      generalize hw8 : w7.alloc (.cells #[.int .i64 (wv 0), .int .i64 (wv 1), .int .i64 (wv 2), .int .i64 (wv 3), .int .i64 (wv 4), .int .i64 (wv 5), .int .i64 (wv 6), .int .i64 (wv 7), .slice none 0 0] 26) = w8 at C5 O6 C4' ⊢
      clear hw8 C4 O5 hq5
      have HQ5 : Hid (w.heap.size ≤ q5 ∧ W.heap.size ≤ q5) := ⟨Nat.le_trans HO.out.size hw5, hw5⟩
      have HC5 : Hid _ := C5
      have HC4 : Hid _ := C4'
      have HO6 : Hid _ := O6
      have H08 : Hid _ := H0.out.off O6 (fun h => h)
      have H18 : Hid _ := H1.out.off O6 (fun h => h)
      have H28 : Hid _ := H2.out.off O6 (fun h => h)
      have HL5 : Hid (q5 < w8.heap.size) := C5.lt
      have HN5 : Hid (q4 ≠ q5 ∧ q2 ≠ q5 ∧ q1 ≠ q5) := ⟨by intro e; subst e; have h1 := C4'.is; rw [C5.is] at h1; simp at h1, by have := H2.out.lt; omega, by have := H1.out.lt; omega⟩
      clear C5 C4' O6 hw5 H0 H1 H2
      obtain ⟨x0, x1, x2, x3, x4, x5, x6, x7, x8⟩ := cel9 H08.out
      go_wp2_with fail
      clear x0 x1 x2 x3 x4 x5 x6 x7 x8
      go_loopw [69] (fun y wr => ∃ (i : Nat) (lo : List V) (ao : Option Addr) (co : Nat), y = .int .i64 (i : Int) ∧ i ≤ l.length ∧ Cel q5 26 #[.int .i64 (wv 0), .int .i64 (wv 1), .int .i64 (wv 2), .int .i64 (wv 3), .int .i64 (wv 4), .int .i64 (wv 5), .int .i64 (wv 6), .int .i64 (wv 7), .slice ao lo.length co] wr ∧ Mk w8.heap.size wr ao co lo ∧ cont lo = (cont (l.take i)).filter (nc g) ∧ Off (fun c => c = q5) w8 wr) (fun y _ => (l.length - intOf y).toNat)
      case atStart => exact ⟨0, [], none, 0, rfl, by omega, HC5.out, Mk.nil _ _, by simp [cont], Off.refl _ _⟩
      case round =>
        clear HC5
        obtain ⟨i, lo, ao, co, rfl, hi, bx, mk, hlo, po⟩ := hrel
        have HBX : Hid _ := bx
        have HMK : Hid _ := mk
        have HLO : Hid _ := hlo
        have HPO : Hid _ := po
        have HOW : Hid (Off (fun c => W.heap.size ≤ c) W wr) := (HO6.out.mono (fun _ _ h => h.elim)).trans po (fun k _ e => by rw [e]; exact HQ5.out.2)
        have hlol : lo.length ≤ 1000 := by
          have h1 := congrArg List.length hlo
          have h2 := List.length_filter_le (nc g) (cont (l.take i))
          simp only [cont_len] at h1 h2
          simp at h2
          omega
        clear bx mk hlo po
        by_cases hil : i < l.length
        · have i1 : decide ((i : Int) < (l.length : Int)) = true := decide_eq_true (by omega)
          have i2 : decide (i < l.length) = true := decide_eq_true hil
          obtain ⟨x, hx⟩ : ∃ x, l[i]? = some x := ⟨_, List.getElem?_eq_getElem hil⟩
          obtain ⟨ba, fa, hay, h4, hvx⟩ := HR.out.at_ i x hx
          have HX : Hid _ := hx
          have HVW : Hid _ := hvx
          obtain ⟨c0, c1, c2, c3⟩ := h4.off HOW.out (fun hb h => by omega)
          clear hx h4 hvx
          subst hay
          go_upto_region 11 with fail
          have CX := Cel.new wr 77 #[.int .i64 x.node, .int .i64 x.num, .slice x.ad x.data.length x.cap, .bool x.dead]
          have OA : Off (fun _ => False) wr (wr.alloc (.cells #[.int .i64 x.node, .int .i64 x.num, .slice x.ad x.data.length x.cap, .bool x.dead] 77)) := (Off.refl _ wr).alloc _
          have lbx := HBX.out.lt
          generalize hq : wr.heap.size = qx at CX lbx ⊢
          have hqx : wr.heap.size ≤ qx := by omega
          generalize hv : wr.alloc (.cells #[.int .i64 x.node, .int .i64 x.num, .slice x.ad x.data.length x.cap, .bool x.dead] 77) = vx at CX OA ⊢
          clear hv hq c0 c1 c2 c3
          have HQX : Hid (qx ≠ q5) := by show qx ≠ q5; omega
          have HLX : Hid (wr.heap.size ≤ qx) := hqx
          have hA0 : ∀ k, blk ao = some k → k ≠ qx := fun k hk => by have := HMK.out.own.lt k hk; omega
          have HA0 : Hid _ := hA0
          have HBX0 : Hid _ := HBX.out.off OA (fun h => h)
          have HMK0 : Hid _ := HMK.out.free OA
          have HPO0 : Hid _ := HPO.out.trans (OA.mono (fun _ _ h => h.elim)) (fun _ _ h => h)
          have HOW0 : Hid _ := HOW.out.trans (OA.mono (fun _ _ h => h.elim)) (fun _ _ h => h)
          have HSX : Hid _ := HMK.out.own.lt
          clear HBX HMK HPO HOW hA0 lbx hqx OA
          obtain ⟨x0, x1, x2, x3, x4, x5, x6, x7⟩ := cel8 (H18.out.off HPO0.out (fun e => HN5.out.2.2 e))
          obtain ⟨e0, e1, e2, e3⟩ := cel4 CX
          cases hcv : coversB g x.node x.num
          · have hnot := not_any
            go_wp2_with fail
            clear x0 x1 x2 x3 x4 x5 x6 x7 e0 e1 e2 e3
            refine (fcovers_any g x.node x.num _).mono ?_
            rw [hcv]
            rintro e v1 ⟨rfl, o1⟩
            have HBX : Hid _ := HBX0.out.off o1 (fun h => h)
            have HMK : Hid _ := HMK0.out.free o1
            have HPO : Hid _ := HPO0.out.trans (o1.mono (fun _ _ h => h.elim)) (fun _ _ h => h)
            have HVX : Hid (∀ w', Off (fun c => c = q5 ∨ blk ao = some c) v1 w' → VOk w' x) := fun w' o => HVW.out.off ((HOW0.out.trans (o1.mono (fun _ _ h => h.elim)) (fun _ _ h => h)).trans o (fun k _ h => h.elim (fun e => by rw [e]; exact HQ5.out.2) (fun e => Nat.le_trans HO6.out.size (HMK.out.lo k e)))) (fun c hc _ h => by omega)
            have HCX : Hid _ := CX.off o1 (fun h => h)
            have HNX : Hid (¬ (qx = q5 ∨ blk ao = some qx)) := fun e => e.elim HQX.out (fun e => HA0.out qx e rfl)
            clear CX o1 HBX0 HMK0 HPO0 HOW0
            go_upto_region 12 with fail
            have HSW : Hid (w8.heap.size ≤ v1.heap.size) := HPO.out.size
            have hS0 : Hid _ := Off.refl (fun c => c = q5 ∨ blk ao = some c) v1
            refine wp_region_held_drew (S := fun w' => Off (fun c => c = q5 ∨ blk ao = some c) v1 w') (by kernel_rfl) ((Off.refl _ v1).drew) (fun hS => ?_)
            have BX := HBX.out.drew
            have MK := HMK.out.free ((Off.refl _ v1).drew)
            have MKA : Hid (∀ k, blk ao = some k → w8.heap.size ≤ k) := HMK.out.lo
            have MKL : Hid (∀ k, blk ao = some k → k < v1.heap.size) := HMK.out.own.lt
            have hv1 : v1.drew.heap.size = v1.heap.size := rfl
            generalize hdr : v1.drew = va at BX MK hS hv1 ⊢
            clear hdr
            refine take_at (i := 0) 78 (v := .pointer (some ⟨q5, 8, none⟩)) rfl rfl (by kernel_rfl) (by kernel_rfl) (by kernel_rfl) (fun _ _ _ h => h) (Or.inl ⟨by rfl, fun w' hw' => by go_simp⟩) hS ?_
            simp only [Act.put, List.setIfInBounds_toArray, List.set_cons_zero, List.set_cons_succ]
            refine take_at (i := 2) 80 (v := .agg #[.int .i64 x.node, .int .i64 x.num, .slice x.ad x.data.length x.cap, .bool x.dead]) rfl rfl (by kernel_rfl) (by kernel_rfl) (by kernel_rfl) (fun _ _ _ h => h) (Or.inl ⟨by rfl, fun w' hw' => by obtain ⟨x0, x1, x2, x3⟩ := cel4 (HCX.out.off hw' (fun h => HNX.out h)); go_simp⟩) hS ?_
            simp only [Act.put, List.setIfInBounds_toArray, List.set_cons_zero, List.set_cons_succ]
            refine wpAnyH_ready (rs := [1, 3]) (by kernel_rfl) (by simp) ?_
            refine AllReadyH.cons rfl (fun K' hK' => ?_) (AllReadyH.cons rfl (fun K' hK' => ?_) AllReadyH.nil)
            · obtain ⟨x0, x1, x2, x3, x4, x5, x6, x7, x8⟩ := cel9 BX
              go_simp
              refine hK'.out _ _ hS (fun hS => ?_)
              clear hK' K' x0 x1 x2 x3 x4 x5 x6 x7 x8
              refine wpAnyH_ready (rs := [3]) (by kernel_rfl) (by simp) ?_
              refine AllReadyH.cons rfl (fun K' hK' => ?_) AllReadyH.nil
              go_simp
              refine (copied_any x _ (HVX.out _ hS)).mono ?_
              rintro e vb ⟨u, rfl, hu, uo, uk, un, o1⟩
              have hS1 := hS.trans (o1.mono (fun _ _ h => h.elim)) (fun _ _ h => h)
              refine hK'.out _ _ hS1 (fun hS => ?_)
              clear hK' K' hS1
              replace BX := BX.off o1 (fun h => h)
              replace MK := MK.free o1
              have UK : VOk vb u ∧ ∀ k, blk u.ad = some k → va.heap.size ≤ k ∧ k < vb.heap.size := ⟨uk, fun k hk => ⟨un k hk, uo.lt k hk⟩⟩
              have HU : Hid _ := hu
              have HSZ : Hid (va.heap.size ≤ vb.heap.size) := o1.size
              clear uo uk un hu o1
              refine wpAnyH_ready (rs := [4]) (by kernel_rfl) (by simp) ?_
              refine AllReadyH.cons rfl (fun K' hK' => ?_) AllReadyH.nil
              go_simp
              refine hK'.out _ _ (hS.alloc _) (fun hS => ?_)
              clear hK' K'
              have CB := Cel.new vb 77 #[.int .i64 u.node, .int .i64 u.num, .slice u.ad u.data.length u.cap, .bool u.dead]
              have OB : Off (fun _ => False) vb (vb.alloc (.cells #[.int .i64 u.node, .int .i64 u.num, .slice u.ad u.data.length u.cap, .bool u.dead] 77)) := (Off.refl _ vb).alloc _
              generalize hqb : vb.heap.size = qb at CB ⊢
              generalize hvb : vb.alloc (.cells #[.int .i64 u.node, .int .i64 u.num, .slice u.ad u.data.length u.cap, .bool u.dead] 77) = vc at CB OB hS ⊢
              clear hvb hqb
              replace BX := BX.off OB (fun h => h)
              replace MK := MK.free OB
              have RB := row_one CB (UK.1.off OB (fun _ _ _ h => h))
              obtain ⟨a2, c2, v2, hr, own2, o2, at2⟩ := app_runV MK.own RB (fun h => by simp at h) (by simp; omega) 24
              refine wpAnyH_ready (rs := [5]) (by kernel_rfl) (by simp) ?_
              refine AllReadyH.cons rfl (fun K' hK' => ?_) AllReadyH.nil
              refine wp_append_if rfl (.tmp 79) (.tmp 82) rfl rfl rfl hr 83 rfl ?_
              simp only [Act.put, List.setIfInBounds_toArray, List.set_cons_zero, List.set_cons_succ]
              have hS2 := hS.trans (o2.mono (E := fun c => c = q5 ∨ blk ao = some c) (fun _ _ h => .inr h)) (fun _ _ h => h)
              refine hK'.out _ _ hS2 (fun hS => ?_)
              clear hK' K' hr hS2
              refine take_at (i := 6) 84 (v := .pointer (some ⟨q5, 8, none⟩)) rfl rfl (by kernel_rfl) (by kernel_rfl) (by kernel_rfl) (fun _ _ _ h => h) (Or.inl ⟨by rfl, fun w' hw' => by go_simp⟩) hS ?_
              simp only [Act.put, List.setIfInBounds_toArray, List.set_cons_zero, List.set_cons_succ]
              have szb := HSZ.out
              have szc := OB.size
              have MK2 := MK.snoc (u := u) (by have := HSW.out; omega) (UK.1.off OB (fun _ _ _ h => h)) (fun k hk => ⟨by have := (UK.2 k hk).1; have := HSW.out; omega, by have := (UK.2 k hk).2; omega, fun e => by have := MKL.out k e; have := (UK.2 k hk).1; omega⟩) own2 o2 at2
              have BX2 := BX.off o2 (fun e => by have := MKA.out q5 e; have := HL5.out; omega)
              obtain ⟨x0, x1, x2, x3, x4, x5, x6, x7, x8⟩ := cel9 BX2
              have fz := BX2.free
              refine wpAnyH_ready (rs := [7]) (by kernel_rfl) (by simp) ?_
              refine AllReadyH.cons rfl (fun K' hK' => ?_) AllReadyH.nil
              go_simp
              have hS3 := hS.setCell (p := ⟨q5, 8, none⟩) (.inl (.inl rfl)) (.slice a2 (lo ++ [u]).length c2)
              simp only [List.length_append, List.length_cons, List.length_nil, Nat.zero_add] at hS3
              refine hK'.out _ _ hS3 (fun hS => ?_)
              clear hK' K' hS3
              refine wpAnyH_done (by kernel_rfl) ?_ _
              clear x0 x1 x2 x3 x4 x5 x6 x7 x8 fz
              have BX3 := BX2.set 8 (.slice a2 (lo ++ [u]).length c2)
              simp only [List.setIfInBounds_toArray, List.set_cons_zero, List.set_cons_succ] at BX3
              have MK3 := MK2.off ((Off.refl (fun c => c = q5) v2).setCell (p := ⟨q5, 8, none⟩) (.inl rfl) (.slice a2 (lo ++ [u]).length c2)) (fun k h1 _ h2 => by have := HL5.out; omega)
              have OF := (HPO.out.mono (E := fun c => c = q5 ∨ w8.heap.size ≤ c) (fun _ _ h => .inl h)).trans hS (fun k _ h => h.imp id (fun e => MKA.out k e))
              simp only [List.length_append, List.length_cons, List.length_nil, Nat.zero_add] at BX3 MK3
              have HB3 : Hid _ := BX3
              have HM3 : Hid _ := MK3
              have HOF : Hid _ := OF
              have hl2 : (lo ++ [u]).length = lo.length + 1 := by simp
              have HLC : Hid (cont (lo ++ [u]) = (cont (l.take (i + 1))).filter (nc g)) := by
                show _ = _
                rw [List.take_add_one, HX.out]
                simp only [cont, List.map_append, List.filter_append]
                have h1 := HLO.out
                have h2 := HU.out
                have h3 : nc g x.abs = true := by simp only [nc, V.abs, hcv]; rfl
                simp only [cont] at h1
                rw [← h1]
                simp [h2, h3]
              clear BX BX2 BX3 MK MK2 MK3 OF hS own2 o2 at2 CB OB UK szb szc RB
              go_wp2_with fail
              go_roundw
              case rel => exact ⟨i + 1, lo ++ [u], a2, c2, by go_num, by omega, by rw [hl2]; exact HB3.out, HM3.out, HLC.out, HOF.out.mono (fun k hk h => h.elim id (fun e => by omega))⟩
              case measure => simp [intOf]; omega
            · go_simp
              refine (copied_any x _ (HVX.out _ hS)).mono ?_
              rintro e vb ⟨u, rfl, hu, uo, uk, un, o1⟩
              have hS1 := hS.trans (o1.mono (fun _ _ h => h.elim)) (fun _ _ h => h)
              refine hK'.out _ _ hS1 (fun hS => ?_)
              clear hK' K' hS1
              replace BX := BX.off o1 (fun h => h)
              replace MK := MK.free o1
              have UK : VOk vb u ∧ ∀ k, blk u.ad = some k → va.heap.size ≤ k ∧ k < vb.heap.size := ⟨uk, fun k hk => ⟨un k hk, uo.lt k hk⟩⟩
              have HU : Hid _ := hu
              have HSZ : Hid (va.heap.size ≤ vb.heap.size) := o1.size
              clear uo uk un hu o1
              refine wpAnyH_ready (rs := [1, 4]) (by kernel_rfl) (by simp) ?_
              refine AllReadyH.cons rfl (fun K' hK' => ?_) (AllReadyH.cons rfl (fun K' hK' => ?_) AllReadyH.nil)
              · obtain ⟨x0, x1, x2, x3, x4, x5, x6, x7, x8⟩ := cel9 BX
                go_simp
                refine hK'.out _ _ hS (fun hS => ?_)
                clear hK' K' x0 x1 x2 x3 x4 x5 x6 x7 x8
                refine wpAnyH_ready (rs := [4]) (by kernel_rfl) (by simp) ?_
                refine AllReadyH.cons rfl (fun K' hK' => ?_) AllReadyH.nil
                go_simp
                refine hK'.out _ _ (hS.alloc _) (fun hS => ?_)
                clear hK' K'
                have CB := Cel.new vb 77 #[.int .i64 u.node, .int .i64 u.num, .slice u.ad u.data.length u.cap, .bool u.dead]
                have OB : Off (fun _ => False) vb (vb.alloc (.cells #[.int .i64 u.node, .int .i64 u.num, .slice u.ad u.data.length u.cap, .bool u.dead] 77)) := (Off.refl _ vb).alloc _
                generalize hqb : vb.heap.size = qb at CB ⊢
                generalize hvb : vb.alloc (.cells #[.int .i64 u.node, .int .i64 u.num, .slice u.ad u.data.length u.cap, .bool u.dead] 77) = vc at CB OB hS ⊢
                clear hvb hqb
                replace BX := BX.off OB (fun h => h)
                replace MK := MK.free OB
                have RB := row_one CB (UK.1.off OB (fun _ _ _ h => h))
                obtain ⟨a2, c2, v2, hr, own2, o2, at2⟩ := app_runV MK.own RB (fun h => by simp at h) (by simp; omega) 24
                refine wpAnyH_ready (rs := [5]) (by kernel_rfl) (by simp) ?_
                refine AllReadyH.cons rfl (fun K' hK' => ?_) AllReadyH.nil
                refine wp_append_if rfl (.tmp 79) (.tmp 82) rfl rfl rfl hr 83 rfl ?_
                simp only [Act.put, List.setIfInBounds_toArray, List.set_cons_zero, List.set_cons_succ]
                have hS2 := hS.trans (o2.mono (E := fun c => c = q5 ∨ blk ao = some c) (fun _ _ h => .inr h)) (fun _ _ h => h)
                refine hK'.out _ _ hS2 (fun hS => ?_)
                clear hK' K' hr hS2
                refine take_at (i := 6) 84 (v := .pointer (some ⟨q5, 8, none⟩)) rfl rfl (by kernel_rfl) (by kernel_rfl) (by kernel_rfl) (fun _ _ _ h => h) (Or.inl ⟨by rfl, fun w' hw' => by go_simp⟩) hS ?_
                simp only [Act.put, List.setIfInBounds_toArray, List.set_cons_zero, List.set_cons_succ]
                have szb := HSZ.out
                have szc := OB.size
                have MK2 := MK.snoc (u := u) (by have := HSW.out; omega) (UK.1.off OB (fun _ _ _ h => h)) (fun k hk => ⟨by have := (UK.2 k hk).1; have := HSW.out; omega, by have := (UK.2 k hk).2; omega, fun e => by have := MKL.out k e; have := (UK.2 k hk).1; omega⟩) own2 o2 at2
                have BX2 := BX.off o2 (fun e => by have := MKA.out q5 e; have := HL5.out; omega)
                obtain ⟨x0, x1, x2, x3, x4, x5, x6, x7, x8⟩ := cel9 BX2
                have fz := BX2.free
                refine wpAnyH_ready (rs := [7]) (by kernel_rfl) (by simp) ?_
                refine AllReadyH.cons rfl (fun K' hK' => ?_) AllReadyH.nil
                go_simp
                have hS3 := hS.setCell (p := ⟨q5, 8, none⟩) (.inl (.inl rfl)) (.slice a2 (lo ++ [u]).length c2)
                simp only [List.length_append, List.length_cons, List.length_nil, Nat.zero_add] at hS3
                refine hK'.out _ _ hS3 (fun hS => ?_)
                clear hK' K' hS3
                refine wpAnyH_done (by kernel_rfl) ?_ _
                clear x0 x1 x2 x3 x4 x5 x6 x7 x8 fz
                have BX3 := BX2.set 8 (.slice a2 (lo ++ [u]).length c2)
                simp only [List.setIfInBounds_toArray, List.set_cons_zero, List.set_cons_succ] at BX3
                have MK3 := MK2.off ((Off.refl (fun c => c = q5) v2).setCell (p := ⟨q5, 8, none⟩) (.inl rfl) (.slice a2 (lo ++ [u]).length c2)) (fun k h1 _ h2 => by have := HL5.out; omega)
                have OF := (HPO.out.mono (E := fun c => c = q5 ∨ w8.heap.size ≤ c) (fun _ _ h => .inl h)).trans hS (fun k _ h => h.imp id (fun e => MKA.out k e))
                simp only [List.length_append, List.length_cons, List.length_nil, Nat.zero_add] at BX3 MK3
                have HB3 : Hid _ := BX3
                have HM3 : Hid _ := MK3
                have HOF : Hid _ := OF
                have hl2 : (lo ++ [u]).length = lo.length + 1 := by simp
                have HLC : Hid (cont (lo ++ [u]) = (cont (l.take (i + 1))).filter (nc g)) := by
                  show _ = _
                  rw [List.take_add_one, HX.out]
                  simp only [cont, List.map_append, List.filter_append]
                  have h1 := HLO.out
                  have h2 := HU.out
                  have h3 : nc g x.abs = true := by simp only [nc, V.abs, hcv]; rfl
                  simp only [cont] at h1
                  rw [← h1]
                  simp [h2, h3]
                clear BX BX2 BX3 MK MK2 MK3 OF hS own2 o2 at2 CB OB UK szb szc RB
                go_wp2_with fail
                go_roundw
                case rel => exact ⟨i + 1, lo ++ [u], a2, c2, by go_num, by omega, by rw [hl2]; exact HB3.out, HM3.out, HLC.out, HOF.out.mono (fun k hk h => h.elim id (fun e => by omega))⟩
                case measure => simp [intOf]; omega
              · go_simp
                refine hK'.out _ _ (hS.alloc _) (fun hS => ?_)
                clear hK' K'
                have CB := Cel.new vb 77 #[.int .i64 u.node, .int .i64 u.num, .slice u.ad u.data.length u.cap, .bool u.dead]
                have OB : Off (fun _ => False) vb (vb.alloc (.cells #[.int .i64 u.node, .int .i64 u.num, .slice u.ad u.data.length u.cap, .bool u.dead] 77)) := (Off.refl _ vb).alloc _
                generalize hqb : vb.heap.size = qb at CB ⊢
                generalize hvb : vb.alloc (.cells #[.int .i64 u.node, .int .i64 u.num, .slice u.ad u.data.length u.cap, .bool u.dead] 77) = vc at CB OB hS ⊢
                clear hvb hqb
                replace BX := BX.off OB (fun h => h)
                replace MK := MK.free OB
                refine wpAnyH_ready (rs := [1]) (by kernel_rfl) (by simp) ?_
                refine AllReadyH.cons rfl (fun K' hK' => ?_) AllReadyH.nil
                obtain ⟨x0, x1, x2, x3, x4, x5, x6, x7, x8⟩ := cel9 BX
                go_simp
                refine hK'.out _ _ hS (fun hS => ?_)
                clear hK' K' x0 x1 x2 x3 x4 x5 x6 x7 x8
                have RB := row_one CB (UK.1.off OB (fun _ _ _ h => h))
                obtain ⟨a2, c2, v2, hr, own2, o2, at2⟩ := app_runV MK.own RB (fun h => by simp at h) (by simp; omega) 24
                refine wpAnyH_ready (rs := [5]) (by kernel_rfl) (by simp) ?_
                refine AllReadyH.cons rfl (fun K' hK' => ?_) AllReadyH.nil
                refine wp_append_if rfl (.tmp 79) (.tmp 82) rfl rfl rfl hr 83 rfl ?_
                simp only [Act.put, List.setIfInBounds_toArray, List.set_cons_zero, List.set_cons_succ]
                have hS2 := hS.trans (o2.mono (E := fun c => c = q5 ∨ blk ao = some c) (fun _ _ h => .inr h)) (fun _ _ h => h)
                refine hK'.out _ _ hS2 (fun hS => ?_)
                clear hK' K' hr hS2
                refine take_at (i := 6) 84 (v := .pointer (some ⟨q5, 8, none⟩)) rfl rfl (by kernel_rfl) (by kernel_rfl) (by kernel_rfl) (fun _ _ _ h => h) (Or.inl ⟨by rfl, fun w' hw' => by go_simp⟩) hS ?_
                simp only [Act.put, List.setIfInBounds_toArray, List.set_cons_zero, List.set_cons_succ]
                have szb := HSZ.out
                have szc := OB.size
                have MK2 := MK.snoc (u := u) (by have := HSW.out; omega) (UK.1.off OB (fun _ _ _ h => h)) (fun k hk => ⟨by have := (UK.2 k hk).1; have := HSW.out; omega, by have := (UK.2 k hk).2; omega, fun e => by have := MKL.out k e; have := (UK.2 k hk).1; omega⟩) own2 o2 at2
                have BX2 := BX.off o2 (fun e => by have := MKA.out q5 e; have := HL5.out; omega)
                obtain ⟨x0, x1, x2, x3, x4, x5, x6, x7, x8⟩ := cel9 BX2
                have fz := BX2.free
                refine wpAnyH_ready (rs := [7]) (by kernel_rfl) (by simp) ?_
                refine AllReadyH.cons rfl (fun K' hK' => ?_) AllReadyH.nil
                go_simp
                have hS3 := hS.setCell (p := ⟨q5, 8, none⟩) (.inl (.inl rfl)) (.slice a2 (lo ++ [u]).length c2)
                simp only [List.length_append, List.length_cons, List.length_nil, Nat.zero_add] at hS3
                refine hK'.out _ _ hS3 (fun hS => ?_)
                clear hK' K' hS3
                refine wpAnyH_done (by kernel_rfl) ?_ _
                clear x0 x1 x2 x3 x4 x5 x6 x7 x8 fz
                have BX3 := BX2.set 8 (.slice a2 (lo ++ [u]).length c2)
                simp only [List.setIfInBounds_toArray, List.set_cons_zero, List.set_cons_succ] at BX3
                have MK3 := MK2.off ((Off.refl (fun c => c = q5) v2).setCell (p := ⟨q5, 8, none⟩) (.inl rfl) (.slice a2 (lo ++ [u]).length c2)) (fun k h1 _ h2 => by have := HL5.out; omega)
                have OF := (HPO.out.mono (E := fun c => c = q5 ∨ w8.heap.size ≤ c) (fun _ _ h => .inl h)).trans hS (fun k _ h => h.imp id (fun e => MKA.out k e))
                simp only [List.length_append, List.length_cons, List.length_nil, Nat.zero_add] at BX3 MK3
                have HB3 : Hid _ := BX3
                have HM3 : Hid _ := MK3
                have HOF : Hid _ := OF
                have hl2 : (lo ++ [u]).length = lo.length + 1 := by simp
                have HLC : Hid (cont (lo ++ [u]) = (cont (l.take (i + 1))).filter (nc g)) := by
                  show _ = _
                  rw [List.take_add_one, HX.out]
                  simp only [cont, List.map_append, List.filter_append]
                  have h1 := HLO.out
                  have h2 := HU.out
                  have h3 : nc g x.abs = true := by simp only [nc, V.abs, hcv]; rfl
                  simp only [cont] at h1
                  rw [← h1]
                  simp [h2, h3]
                clear BX BX2 BX3 MK MK2 MK3 OF hS own2 o2 at2 CB OB UK szb szc RB
                go_wp2_with fail
                go_roundw
                case rel => exact ⟨i + 1, lo ++ [u], a2, c2, by go_num, by omega, by rw [hl2]; exact HB3.out, HM3.out, HLC.out, HOF.out.mono (fun k hk h => h.elim id (fun e => by omega))⟩
                case measure => simp [intOf]; omega
          · have hnot := not_any
            go_wp2_with fail
            clear x0 x1 x2 x3 x4 x5 x6 x7 e0 e1 e2 e3
            refine (fcovers_any g x.node x.num _).mono ?_
            rw [hcv]
            rintro e v1 ⟨rfl, o1⟩
            have HBX : Hid _ := HBX0.out.off o1 (fun h => h)
            have HMK : Hid _ := HMK0.out.free o1
            have HPO : Hid _ := HPO0.out.trans (o1.mono (fun _ _ h => h.elim)) (fun _ _ h => h)
            have HLC : Hid (cont lo = (cont (l.take (i + 1))).filter (nc g)) := by
              show _ = _
              rw [List.take_add_one, HX.out]
              simp only [cont, List.map_append, List.filter_append]
              have h1 := HLO.out
              have h3 : nc g x.abs = false := by simp only [nc, V.abs, hcv]; rfl
              simp only [cont] at h1
              rw [← h1]
              simp [h3]
            clear CX o1 HBX0 HMK0 HPO0 HOW0
            go_wp2_with fail
            go_roundw
            case rel => exact ⟨i + 1, lo, ao, co, by go_num, by omega, HBX.out, HMK.out, HLC.out, HPO.out⟩
            case measure => simp [intOf]; omega
        · have i1 : decide ((i : Int) < (l.length : Int)) = false := decide_eq_false (by omega)
          have i2 : decide (i < l.length) = false := decide_eq_false hil
          obtain rfl : i = l.length := by omega
          rw [List.take_length] at HLO
          clear i1 i2 hil hi
          have i1 : decide ((l.length : Int) < (l.length : Int)) = false := decide_eq_false (by omega)
          have i2 : decide (l.length < l.length) = false := decide_eq_false (by omega)
          go_upto_region 14 with fail
          clear i1 i2
          have HSW : Hid (w8.heap.size ≤ wr.heap.size) := HPO.out.size
          refine wp_region_held_drew (S := fun w' => Off (fun c => c = q5) wr w') (by kernel_rfl) ((Off.refl _ wr).drew) (fun hS => ?_)
          have BX := HBX.out.drew
          have MK := HMK.out.free ((Off.refl _ wr).drew)
          have hv1 : wr.heap.size ≤ wr.drew.heap.size := Nat.le_refl _
          generalize hdr : wr.drew = va at BX MK hS hv1 ⊢
          clear hdr
          refine take_at (i := 0) 86 (v := .pointer (some ⟨q5, 8, none⟩)) rfl rfl (by kernel_rfl) (by kernel_rfl) (by kernel_rfl) (fun _ _ _ h => h) (Or.inl ⟨by rfl, fun w' hw' => by go_simp⟩) hS ?_
          simp only [Act.put, List.setIfInBounds_toArray, List.set_cons_zero, List.set_cons_succ]
          refine take_at (i := 2) 88 (v := .agg #[.int .i64 nn, .int .i64 NN]) rfl rfl (by kernel_rfl) (by kernel_rfl) (by kernel_rfl) (fun _ _ _ h => h) (Or.inl ⟨by rfl, fun w' hw' => by obtain ⟨z0, z1⟩ := cel2 (HC4.out.off (HPO.out.trans hw' (fun k _ h => h)) (fun e => HN5.out.1 e)); go_simp⟩) hS ?_
          simp only [Act.put, List.setIfInBounds_toArray, List.set_cons_zero, List.set_cons_succ]
          refine take_at (i := 3) 89 (v := .slice da data.length dc) rfl rfl (by kernel_rfl) (by kernel_rfl) (by kernel_rfl) (fun _ _ _ h => h) (Or.inl ⟨by rfl, fun w' hw' => by go_simp⟩) hS ?_
          simp only [Act.put, List.setIfInBounds_toArray, List.set_cons_zero, List.set_cons_succ]
          refine take_at (i := 5) 91 (v := .bool true) rfl rfl (by kernel_rfl) (by kernel_rfl) (by kernel_rfl) (fun _ _ _ h => h) (Or.inl ⟨by rfl, fun w' hw' => by go_simp⟩) hS ?_
          simp only [Act.put, List.setIfInBounds_toArray, List.set_cons_zero, List.set_cons_succ]
          refine wpAnyH_ready (rs := [1, 4]) (by kernel_rfl) (by simp) ?_
          refine AllReadyH.cons rfl (fun K' hK' => ?_) (AllReadyH.cons rfl (fun K' hK' => ?_) AllReadyH.nil)
          · obtain ⟨x0, x1, x2, x3, x4, x5, x6, x7, x8⟩ := cel9 BX
            go_simp
            refine hK'.out _ _ hS (fun hS => ?_)
            clear hK' K' x0 x1 x2 x3 x4 x5 x6 x7 x8
            refine wpAnyH_ready (rs := [4]) (by kernel_rfl) (by simp) ?_
            refine AllReadyH.cons rfl (fun K' hK' => ?_) AllReadyH.nil
            obtain ⟨td, cd, vb, hr, ownd, od, atd⟩ := app_run (OwnR.nil va) (HDS.out.off (HOW.out.trans hS (fun k _ e => by rw [e]; exact HQ5.out.2)) (fun k hk _ h => by omega)) (by simp; omega) 43
            rw [List.nil_append] at hr ownd
            replace od : Off (fun _ => False) va vb := od.mono (fun _ _ h => by simp [blk] at h)
            have fd : ∀ c, blk td = some c → va.heap.size ≤ c ∧ c < vb.heap.size := fun c hc => ⟨by rcases atd with e | e <;> (rw [e] at hc; simp [blk] at hc; try omega), ownd.lt c hc⟩
            refine wp_append_if rfl (.const (.slice none 0 0)) (.tmp 89) rfl rfl rfl hr 90 rfl ?_
            simp only [Act.put, List.setIfInBounds_toArray, List.set_cons_zero, List.set_cons_succ]
            have hS1 := hS.trans (od.mono (fun _ _ h => h.elim)) (fun _ _ h => h)
            refine hK'.out _ _ hS1 (fun hS => ?_)
            clear hK' K' hr hS1 atd
            replace BX := BX.off od (fun h => h)
            replace MK := MK.free od
            have NK : VOk vb (⟨nn, NN, td, cd, data, true⟩ : V) := ⟨ownd.src, HDL.out, HRG.out.1, HRG.out.2.1, HRG.out.2.2.1, HRG.out.2.2.2, by simp only; omega⟩
            have szd := od.size
            clear ownd od
            refine take_at (i := 6) 92 (v := .agg #[.int .i64 nn, .int .i64 NN, .slice td data.length cd, .bool true]) rfl rfl (by kernel_rfl) (by kernel_rfl) (by kernel_rfl) (fun _ _ _ h => h) (Or.inl ⟨by rfl, fun w' hw' => by go_simp⟩) hS ?_
            simp only [Act.put, List.setIfInBounds_toArray, List.set_cons_zero, List.set_cons_succ]
            refine wpAnyH_ready (rs := [7]) (by kernel_rfl) (by simp) ?_
            refine AllReadyH.cons rfl (fun K' hK' => ?_) AllReadyH.nil
            go_simp
            refine (insert_any ao co lo (⟨nn, NN, td, cd, data, true⟩ : V) _ MK.row MK.own.zero NK (by omega)).mono ?_
            rintro e v7 ⟨k, a7, c7, rfl, hk, hk1, hk2, own7, at7, o7⟩
            have hS1 := hS.trans (o7.mono (fun _ _ h => h.elim)) (fun _ _ h => h)
            refine hK'.out _ _ hS1 (fun hS => ?_)
            clear hK' K' hS1
            refine take_at (i := 8) 94 (v := .pointer (some ⟨q5, 8, none⟩)) rfl rfl (by kernel_rfl) (by kernel_rfl) (by kernel_rfl) (fun _ _ _ h => h) (Or.inl ⟨by rfl, fun w' hw' => by go_simp⟩) hS ?_
            simp only [Act.put, List.setIfInBounds_toArray, List.set_cons_zero, List.set_cons_succ]
            have MK7 := MK.ins (u := (⟨nn, NN, td, cd, data, true⟩ : V)) (m := k) (by have := HSW.out; have := hv1; omega) NK (fun c hc => ⟨by have := (fd c hc).1; have := HSW.out; have := hv1; omega, (fd c hc).2⟩) own7 o7 at7
            have BX7 := BX.off o7 (fun h => h)
            have HLL : Hid (cont (lo.take k ++ (⟨nn, NN, td, cd, data, true⟩ : V) :: lo.drop k) = putR f g (cont l) node data true) := by
              show _ = _
              have e : cont (lo.take k ++ (⟨nn, NN, td, cd, data, true⟩ : V) :: lo.drop k) = (cont lo).take k ++ (⟨nn, NN, data, true⟩ : A) :: (cont lo).drop k := by simp [cont, V.abs, List.map_take, List.map_drop]
              rw [e, HLO.out]
              refine put_ins (may_iff.1 m1) en (fun z hz => ?_) (fun y hy => ?_)
              · rw [← HLO.out] at hz
                have : z ∈ cont (lo.take k) := by simpa [cont, List.map_take] using hz
                simp only [cont, List.mem_map] at this
                obtain ⟨z', hz', rfl⟩ := this
                exact less_iff.1 (hk1 z' hz')
              · rw [← HLO.out] at hy
                simp only [cont, List.getElem?_map, Option.map_eq_some_iff] at hy
                obtain ⟨y', hy', rfl⟩ := hy
                have := hk2 y' hy'
                intro hlt
                have h2 := less_iff.2 hlt
                simp only [lessA, V.abs] at h2
                rw [this] at h2
                cases h2
            generalize hz7 : lo.take k ++ (⟨nn, NN, td, cd, data, true⟩ : V) :: lo.drop k = l7 at MK7 HLL ⊢
            obtain ⟨x0, x1, x2, x3, x4, x5, x6, x7, x8⟩ := cel9 BX7
            have fz := BX7.free
            refine wpAnyH_ready (rs := [9]) (by kernel_rfl) (by simp) ?_
            refine AllReadyH.cons rfl (fun K' hK' => ?_) AllReadyH.nil
            go_simp
            have hS3 := hS.setCell (p := ⟨q5, 8, none⟩) (.inl rfl) (.slice a7 l7.length c7)
            refine hK'.out _ _ hS3 (fun hS => ?_)
            clear hK' K' hS3
            refine wpAnyH_done (by kernel_rfl) ?_ _
            clear x0 x1 x2 x3 x4 x5 x6 x7 x8 fz
            have BX8 := BX7.set 8 (.slice a7 l7.length c7)
            simp only [List.setIfInBounds_toArray, List.set_cons_zero, List.set_cons_succ] at BX8
            have MK8 := MK7.off ((Off.refl (fun c => c = q5) v7).setCell (p := ⟨q5, 8, none⟩) (.inl rfl) (.slice a7 l7.length c7)) (fun k h1 _ h2 => by have := HL5.out; omega)
            have OF := HPO.out.trans hS (fun k _ h => h)
            generalize hv9 : v7.setCell ⟨q5, 8, none⟩ (.slice a7 l7.length c7) = v9 at BX8 MK8 OF ⊢
            have HB8 : Hid _ := BX8
            have HM8 : Hid _ := MK8
            have HOF : Hid _ := OF
            clear BX7 BX8 MK7 MK8 OF hS hv9 own7 at7 o7 hk hk1 hk2 hz7 MK BX NK szd fd
            have H2F : Hid _ := H28.out.off HOF.out (fun e => HN5.out.2.1 e)
            have hlen : (putR f g (cont l) node data true).length = l7.length := by rw [← HLL.out, cont_len]
            obtain ⟨x0, x1, x2, x3, x4, x5, x6, x7, x8⟩ := cel9 HB8.out
            by_cases h16 : 16 < l7.length
            · have e1 : decide ((16 : Int) < (l7.length : Int)) = true := decide_eq_true (by omega)
              have e2 : decide (16 < l7.length) = true := decide_eq_true h16
              have HP : Hid _ := put_no (e := 11) (show putE f g (cont l) node data true = 11 by simp [putE, m1, m2, m3, en, hlen, h16]) (by decide)
              clear hlen
              go_upto_region 16 with fail
              clear x0 x1 x2 x3 x4 x5 x6 x7 x8
              have D2 := H2F.out
              obtain ⟨x0, x1, x2, x3, x4, x5, x6, x7, x8⟩ := cel9 D2
              have fz := D2.free
              go_wp2_with fail
              have E2 := D2.clr9
              have OE := (((HO.out.trans HO6.out (fun _ _ h => h)).mono (fun _ _ h => h.elim)).trans HOF.out (fun _ _ h => h)).mono (E := fun _ => False) (fun j hj e => by have := HQ5.out.1; omega)
              refine bodyPost_ret (results_err9 rfl rfl rfl E2) rfl ?_
              exact ⟨zer, none, 0, [], 11, rfl, HP.out.1, HP.out.2.1, HP.out.2.2, Row.nil _ _ _ (by omega), OE.clr9 (b := q2) (.inr HQ.out)⟩
            · have e1 : decide ((16 : Int) < (l7.length : Int)) = false := decide_eq_false (by omega)
              have e2 : decide (16 < l7.length) = false := decide_eq_false h16
              have hP : putE f g (cont l) node data true = 0 := by simp [putE, m1, m2, m3, en, hlen, h16]
              have HPE : Hid _ := hP
              clear hlen hP
              have D2 := H2F.out
              obtain ⟨u0, u1, u2, u3, u4, u5, u6, u7, u8⟩ := cel9 D2
              have fz := D2.free
              go_wp2_with fail
              have E2 := D2.st9 wv (.slice a7 l7.length c7)
              have OE := (((HO.out.trans HO6.out (fun _ _ h => h)).mono (fun _ _ h => h.elim)).trans HOF.out (fun _ _ h => h)).mono (E := fun _ => False) (fun j hj e => by have := HQ5.out.1; omega)
              refine bodyPost_ret (results_sibs2 rfl rfl rfl E2) rfl ?_
              have hx : ∀ j, j < 8 → wv j = putV f g (cont l) node data true j := by
                intro j hj
                rw [HWV.out]
                simp only [putV, HPE.out, if_true, en]
                exact with_ext HHE.out nn NN j hj
              refine ⟨putV f g (cont l) node data true, a7, c7, l7, 0, by rw [vec_ext hx]; rfl, HPE.out.symm, rfl, ?_, ?_, OE.st9 (b := q2) (.inr HQ.out) wv _⟩
              · rw [HLL.out]
                simp [putL, HPE.out]
              · refine (HM8.out.off ((Off.refl (fun c => c = q2) v9).st9 (.inl rfl) wv _) (fun k hk _ e => ?_)).row
                have := H28.out.lt
                omega
          · obtain ⟨td, cd, vb, hr, ownd, od, atd⟩ := app_run (OwnR.nil va) (HDS.out.off (HOW.out.trans hS (fun k _ e => by rw [e]; exact HQ5.out.2)) (fun k hk _ h => by omega)) (by simp; omega) 43
            rw [List.nil_append] at hr ownd
            replace od : Off (fun _ => False) va vb := od.mono (fun _ _ h => by simp [blk] at h)
            have fd : ∀ c, blk td = some c → va.heap.size ≤ c ∧ c < vb.heap.size := fun c hc => ⟨by rcases atd with e | e <;> (rw [e] at hc; simp [blk] at hc; try omega), ownd.lt c hc⟩
            refine wp_append_if rfl (.const (.slice none 0 0)) (.tmp 89) rfl rfl rfl hr 90 rfl ?_
            simp only [Act.put, List.setIfInBounds_toArray, List.set_cons_zero, List.set_cons_succ]
            have hS1 := hS.trans (od.mono (fun _ _ h => h.elim)) (fun _ _ h => h)
            refine hK'.out _ _ hS1 (fun hS => ?_)
            clear hK' K' hr hS1 atd
            replace BX := BX.off od (fun h => h)
            replace MK := MK.free od
            have NK : VOk vb (⟨nn, NN, td, cd, data, true⟩ : V) := ⟨ownd.src, HDL.out, HRG.out.1, HRG.out.2.1, HRG.out.2.2.1, HRG.out.2.2.2, by simp only; omega⟩
            have szd := od.size
            clear ownd od
            refine take_at (i := 6) 92 (v := .agg #[.int .i64 nn, .int .i64 NN, .slice td data.length cd, .bool true]) rfl rfl (by kernel_rfl) (by kernel_rfl) (by kernel_rfl) (fun _ _ _ h => h) (Or.inl ⟨by rfl, fun w' hw' => by go_simp⟩) hS ?_
            simp only [Act.put, List.setIfInBounds_toArray, List.set_cons_zero, List.set_cons_succ]
            refine wpAnyH_ready (rs := [1]) (by kernel_rfl) (by simp) ?_
            refine AllReadyH.cons rfl (fun K' hK' => ?_) AllReadyH.nil
            obtain ⟨x0, x1, x2, x3, x4, x5, x6, x7, x8⟩ := cel9 BX
            go_simp
            refine hK'.out _ _ hS (fun hS => ?_)
            clear hK' K' x0 x1 x2 x3 x4 x5 x6 x7 x8
            refine wpAnyH_ready (rs := [7]) (by kernel_rfl) (by simp) ?_
            refine AllReadyH.cons rfl (fun K' hK' => ?_) AllReadyH.nil
            go_simp
            refine (insert_any ao co lo (⟨nn, NN, td, cd, data, true⟩ : V) _ MK.row MK.own.zero NK (by omega)).mono ?_
            rintro e v7 ⟨k, a7, c7, rfl, hk, hk1, hk2, own7, at7, o7⟩
            have hS1 := hS.trans (o7.mono (fun _ _ h => h.elim)) (fun _ _ h => h)
            refine hK'.out _ _ hS1 (fun hS => ?_)
            clear hK' K' hS1
            refine take_at (i := 8) 94 (v := .pointer (some ⟨q5, 8, none⟩)) rfl rfl (by kernel_rfl) (by kernel_rfl) (by kernel_rfl) (fun _ _ _ h => h) (Or.inl ⟨by rfl, fun w' hw' => by go_simp⟩) hS ?_
            simp only [Act.put, List.setIfInBounds_toArray, List.set_cons_zero, List.set_cons_succ]
            have MK7 := MK.ins (u := (⟨nn, NN, td, cd, data, true⟩ : V)) (m := k) (by have := HSW.out; have := hv1; omega) NK (fun c hc => ⟨by have := (fd c hc).1; have := HSW.out; have := hv1; omega, (fd c hc).2⟩) own7 o7 at7
            have BX7 := BX.off o7 (fun h => h)
            have HLL : Hid (cont (lo.take k ++ (⟨nn, NN, td, cd, data, true⟩ : V) :: lo.drop k) = putR f g (cont l) node data true) := by
              show _ = _
              have e : cont (lo.take k ++ (⟨nn, NN, td, cd, data, true⟩ : V) :: lo.drop k) = (cont lo).take k ++ (⟨nn, NN, data, true⟩ : A) :: (cont lo).drop k := by simp [cont, V.abs, List.map_take, List.map_drop]
              rw [e, HLO.out]
              refine put_ins (may_iff.1 m1) en (fun z hz => ?_) (fun y hy => ?_)
              · rw [← HLO.out] at hz
                have : z ∈ cont (lo.take k) := by simpa [cont, List.map_take] using hz
                simp only [cont, List.mem_map] at this
                obtain ⟨z', hz', rfl⟩ := this
                exact less_iff.1 (hk1 z' hz')
              · rw [← HLO.out] at hy
                simp only [cont, List.getElem?_map, Option.map_eq_some_iff] at hy
                obtain ⟨y', hy', rfl⟩ := hy
                have := hk2 y' hy'
                intro hlt
                have h2 := less_iff.2 hlt
                simp only [lessA, V.abs] at h2
                rw [this] at h2
                cases h2
            generalize hz7 : lo.take k ++ (⟨nn, NN, td, cd, data, true⟩ : V) :: lo.drop k = l7 at MK7 HLL ⊢
            obtain ⟨x0, x1, x2, x3, x4, x5, x6, x7, x8⟩ := cel9 BX7
            have fz := BX7.free
            refine wpAnyH_ready (rs := [9]) (by kernel_rfl) (by simp) ?_
            refine AllReadyH.cons rfl (fun K' hK' => ?_) AllReadyH.nil
            go_simp
            have hS3 := hS.setCell (p := ⟨q5, 8, none⟩) (.inl rfl) (.slice a7 l7.length c7)
            refine hK'.out _ _ hS3 (fun hS => ?_)
            clear hK' K' hS3
            refine wpAnyH_done (by kernel_rfl) ?_ _
            clear x0 x1 x2 x3 x4 x5 x6 x7 x8 fz
            have BX8 := BX7.set 8 (.slice a7 l7.length c7)
            simp only [List.setIfInBounds_toArray, List.set_cons_zero, List.set_cons_succ] at BX8
            have MK8 := MK7.off ((Off.refl (fun c => c = q5) v7).setCell (p := ⟨q5, 8, none⟩) (.inl rfl) (.slice a7 l7.length c7)) (fun k h1 _ h2 => by have := HL5.out; omega)
            have OF := HPO.out.trans hS (fun k _ h => h)
            generalize hv9 : v7.setCell ⟨q5, 8, none⟩ (.slice a7 l7.length c7) = v9 at BX8 MK8 OF ⊢
            have HB8 : Hid _ := BX8
            have HM8 : Hid _ := MK8
            have HOF : Hid _ := OF
            clear BX7 BX8 MK7 MK8 OF hS hv9 own7 at7 o7 hk hk1 hk2 hz7 MK BX NK szd fd
            have H2F : Hid _ := H28.out.off HOF.out (fun e => HN5.out.2.1 e)
            have hlen : (putR f g (cont l) node data true).length = l7.length := by rw [← HLL.out, cont_len]
            obtain ⟨x0, x1, x2, x3, x4, x5, x6, x7, x8⟩ := cel9 HB8.out
            by_cases h16 : 16 < l7.length
            · have e1 : decide ((16 : Int) < (l7.length : Int)) = true := decide_eq_true (by omega)
              have e2 : decide (16 < l7.length) = true := decide_eq_true h16
              have HP : Hid _ := put_no (e := 11) (show putE f g (cont l) node data true = 11 by simp [putE, m1, m2, m3, en, hlen, h16]) (by decide)
              clear hlen
              go_upto_region 16 with fail
              clear x0 x1 x2 x3 x4 x5 x6 x7 x8
              have D2 := H2F.out
              obtain ⟨x0, x1, x2, x3, x4, x5, x6, x7, x8⟩ := cel9 D2
              have fz := D2.free
              go_wp2_with fail
              have E2 := D2.clr9
              have OE := (((HO.out.trans HO6.out (fun _ _ h => h)).mono (fun _ _ h => h.elim)).trans HOF.out (fun _ _ h => h)).mono (E := fun _ => False) (fun j hj e => by have := HQ5.out.1; omega)
              refine bodyPost_ret (results_err9 rfl rfl rfl E2) rfl ?_
              exact ⟨zer, none, 0, [], 11, rfl, HP.out.1, HP.out.2.1, HP.out.2.2, Row.nil _ _ _ (by omega), OE.clr9 (b := q2) (.inr HQ.out)⟩
            · have e1 : decide ((16 : Int) < (l7.length : Int)) = false := decide_eq_false (by omega)
              have e2 : decide (16 < l7.length) = false := decide_eq_false h16
              have hP : putE f g (cont l) node data true = 0 := by simp [putE, m1, m2, m3, en, hlen, h16]
              have HPE : Hid _ := hP
              clear hlen hP
              have D2 := H2F.out
              obtain ⟨u0, u1, u2, u3, u4, u5, u6, u7, u8⟩ := cel9 D2
              have fz := D2.free
              go_wp2_with fail
              have E2 := D2.st9 wv (.slice a7 l7.length c7)
              have OE := (((HO.out.trans HO6.out (fun _ _ h => h)).mono (fun _ _ h => h.elim)).trans HOF.out (fun _ _ h => h)).mono (E := fun _ => False) (fun j hj e => by have := HQ5.out.1; omega)
              refine bodyPost_ret (results_sibs2 rfl rfl rfl E2) rfl ?_
              have hx : ∀ j, j < 8 → wv j = putV f g (cont l) node data true j := by
                intro j hj
                rw [HWV.out]
                simp only [putV, HPE.out, if_true, en]
                exact with_ext HHE.out nn NN j hj
              refine ⟨putV f g (cont l) node data true, a7, c7, l7, 0, by rw [vec_ext hx]; rfl, HPE.out.symm, rfl, ?_, ?_, OE.st9 (b := q2) (.inr HQ.out) wv _⟩
              · rw [HLL.out]
                simp [putL, HPE.out]
              · refine (HM8.out.off ((Off.refl (fun c => c = q2) v9).st9 (.inl rfl) wv _) (fun k hk _ e => ?_)).row
                have := H28.out.lt
                omega
  · have h0' : (ne != 0) = true := by simpa using h0
    have HP : Hid _ := put_no (e := ne) (show putE f g (cont l) node data dead = ne by simp [putE, m1, m2, m3, en, h0]) h0
    clear hne h0 t5
    cases dead
    · clear t4
      go_enter Try.func30, Try.ntmps30
      go_upto_region 1 with fail
      rw [HW.out]
      generalize hq2 : w.heap.size + 1 + 1 = q2 at ⊢
      rw [show w.heap.size + 2 = q2 by omega] at H2
      generalize hq1 : w.heap.size + 1 = q1 at H1 ⊢
      generalize hq0 : w.heap.size = q0 at H0 ⊢
      have HQ : Hid (w.heap.size ≤ q2) := by show w.heap.size ≤ q2; omega
      clear hq0 hq1 hq2
      obtain ⟨x0, x1, x2, x3, x4, x5, x6, x7, x8⟩ := cel9 H0.out
      go_wp2_with fail
      clear x0 x1 x2 x3 x4 x5 x6 x7 x8
      refine (gmay_any f a ca l W HR.out).mono ?_
      rw [m1]
      rintro e w1 ⟨rfl, o1⟩
      obtain ⟨x0, x1, x2, x3, x4, x5, x6, x7⟩ := cel8 (H1.out.off o1 (fun h => h))
      go_wp2_with fail
      refine (fmay_any g _).mono ?_
      rw [m2]
      rintro e w2 ⟨rfl, o2⟩
      replace o2 := o1.trans o2 (fun _ _ h => h)
      clear x0 x1 x2 x3 x4 x5 x6 x7 o1
      obtain ⟨x0, x1, x2, x3, x4, x5, x6, x7, x8⟩ := cel9 (H0.out.off o2 (fun h => h))
      obtain ⟨y0, y1, y2, y3, y4, y5, y6, y7⟩ := cel8 (H1.out.off o2 (fun h => h))
      go_wp2_with fail
      refine (fjoin_any f g _).mono ?_
      rintro e w4 ⟨h, rfl, hh, o4⟩
      replace o4 := o2.trans o4 (fun _ _ h => h)
      have HHE : Hid (∀ j, j < 8 → h j = maxV f g j) := hh
      clear hh o2 x0 x1 x2 x3 x4 x5 x6 x7 x8 y0 y1 y2 y3 y4 y5 y6 y7
      go_upto_region 4 with fail
      have C3 := Cel.new w4 23 #[.int .i64 (h 0), .int .i64 (h 1), .int .i64 (h 2), .int .i64 (h 3), .int .i64 (h 4), .int .i64 (h 5), .int .i64 (h 6), .int .i64 (h 7)]
      have O4 := o4.alloc (.cells #[.int .i64 (h 0), .int .i64 (h 1), .int .i64 (h 2), .int .i64 (h 3), .int .i64 (h 4), .int .i64 (h 5), .int .i64 (h 6), .int .i64 (h 7)] 23)
      generalize hq3 : w4.heap.size = q3 at C3 ⊢
      generalize hw4 : w4.alloc (.cells #[.int .i64 (h 0), .int .i64 (h 1), .int .i64 (h 2), .int .i64 (h 3), .int .i64 (h 4), .int .i64 (h 5), .int .i64 (h 6), .int .i64 (h 7)] 23) = v4 at C3 O4 ⊢
      clear hq3 hw4 o4
      obtain ⟨x0, x1, x2, x3, x4, x5, x6, x7⟩ := cel8 C3
      go_wp2_with fail
      clear x0 x1 x2 x3 x4 x5 x6 x7
      have hnx : nextV h node = nextV (maxV f g) node := next_ext HHE.out node
      refine (fnext_any h (fun j hj => by have h1 := HHE.out j hj; have h2 := HSN.out j hj; rw [h1]; simp only [maxV]; omega) node _).mono ?_
      rw [hnx]
      rintro e w5 ⟨rfl, o5⟩
      replace C3 := C3.off o5 (fun h => h)
      replace O4 := O4.trans o5 (fun _ _ h => h)
      clear o5 hnx
      rw [en]
      simp only
      go_upto_region 5 with fail
      have C4 := Cel.new w5 75 #[.int .i64 nn, .int .i64 NN]
      have O5 := O4.alloc (.cells #[.int .i64 nn, .int .i64 NN] 75)
      have C3' := C3.alloc (.cells #[.int .i64 nn, .int .i64 NN] 75)
      generalize hq4 : w5.heap.size = q4 at C4 ⊢
      generalize hw6 : w5.alloc (.cells #[.int .i64 nn, .int .i64 NN] 75) = w6 at C4 O5 C3' ⊢
      clear hw6 C3 O4 hq4
      have D2 := H2.out.off O5 (fun h => h)
      obtain ⟨x0, x1, x2, x3, x4, x5, x6, x7, x8⟩ := cel9 D2
      have fz := D2.free
      go_wp2_with fail
      have E2 := D2.clr9
      have OE := (HO.out.trans O5 (fun _ _ h => h)).clr9 (b := q2) (.inr HQ.out)
      refine bodyPost_ret (results_err9 rfl rfl rfl E2) rfl ?_
      exact ⟨zer, none, 0, [], ne, rfl, HP.out.1, HP.out.2.1, HP.out.2.2, Row.nil _ _ _ (by omega), OE⟩
    · have hdz : data = [] := by simpa [okData] using m3
      have t4a : decide (0 < data.length) = false := by rw [hdz]; rfl
      have t4b : decide (data = []) = true := decide_eq_true hdz
      replace t4 := t4 rfl
      clear hdz
      go_enter Try.func30, Try.ntmps30
      go_upto_region 1 with fail
      rw [HW.out]
      generalize hq2 : w.heap.size + 1 + 1 = q2 at ⊢
      rw [show w.heap.size + 2 = q2 by omega] at H2
      generalize hq1 : w.heap.size + 1 = q1 at H1 ⊢
      generalize hq0 : w.heap.size = q0 at H0 ⊢
      have HQ : Hid (w.heap.size ≤ q2) := by show w.heap.size ≤ q2; omega
      clear hq0 hq1 hq2
      obtain ⟨x0, x1, x2, x3, x4, x5, x6, x7, x8⟩ := cel9 H0.out
      go_wp2_with fail
      clear x0 x1 x2 x3 x4 x5 x6 x7 x8
      refine (gmay_any f a ca l W HR.out).mono ?_
      rw [m1]
      rintro e w1 ⟨rfl, o1⟩
      obtain ⟨x0, x1, x2, x3, x4, x5, x6, x7⟩ := cel8 (H1.out.off o1 (fun h => h))
      go_wp2_with fail
      refine (fmay_any g _).mono ?_
      rw [m2]
      rintro e w2 ⟨rfl, o2⟩
      replace o2 := o1.trans o2 (fun _ _ h => h)
      clear x0 x1 x2 x3 x4 x5 x6 x7 o1
      obtain ⟨x0, x1, x2, x3, x4, x5, x6, x7, x8⟩ := cel9 (H0.out.off o2 (fun h => h))
      obtain ⟨y0, y1, y2, y3, y4, y5, y6, y7⟩ := cel8 (H1.out.off o2 (fun h => h))
      go_wp2_with fail
      refine (fjoin_any f g _).mono ?_
      rintro e w4 ⟨h, rfl, hh, o4⟩
      replace o4 := o2.trans o4 (fun _ _ h => h)
      have HHE : Hid (∀ j, j < 8 → h j = maxV f g j) := hh
      clear hh o2 x0 x1 x2 x3 x4 x5 x6 x7 x8 y0 y1 y2 y3 y4 y5 y6 y7
      go_upto_region 4 with fail
      have C3 := Cel.new w4 23 #[.int .i64 (h 0), .int .i64 (h 1), .int .i64 (h 2), .int .i64 (h 3), .int .i64 (h 4), .int .i64 (h 5), .int .i64 (h 6), .int .i64 (h 7)]
      have O4 := o4.alloc (.cells #[.int .i64 (h 0), .int .i64 (h 1), .int .i64 (h 2), .int .i64 (h 3), .int .i64 (h 4), .int .i64 (h 5), .int .i64 (h 6), .int .i64 (h 7)] 23)
      generalize hq3 : w4.heap.size = q3 at C3 ⊢
      generalize hw4 : w4.alloc (.cells #[.int .i64 (h 0), .int .i64 (h 1), .int .i64 (h 2), .int .i64 (h 3), .int .i64 (h 4), .int .i64 (h 5), .int .i64 (h 6), .int .i64 (h 7)] 23) = v4 at C3 O4 ⊢
      clear hq3 hw4 o4
      obtain ⟨x0, x1, x2, x3, x4, x5, x6, x7⟩ := cel8 C3
      go_wp2_with fail
      clear x0 x1 x2 x3 x4 x5 x6 x7
      have hnx : nextV h node = nextV (maxV f g) node := next_ext HHE.out node
      refine (fnext_any h (fun j hj => by have h1 := HHE.out j hj; have h2 := HSN.out j hj; rw [h1]; simp only [maxV]; omega) node _).mono ?_
      rw [hnx]
      rintro e w5 ⟨rfl, o5⟩
      replace C3 := C3.off o5 (fun h => h)
      replace O4 := O4.trans o5 (fun _ _ h => h)
      clear o5 hnx
      rw [en]
      simp only
      go_upto_region 5 with fail
      have C4 := Cel.new w5 75 #[.int .i64 nn, .int .i64 NN]
      have O5 := O4.alloc (.cells #[.int .i64 nn, .int .i64 NN] 75)
      have C3' := C3.alloc (.cells #[.int .i64 nn, .int .i64 NN] 75)
      generalize hq4 : w5.heap.size = q4 at C4 ⊢
      generalize hw6 : w5.alloc (.cells #[.int .i64 nn, .int .i64 NN] 75) = w6 at C4 O5 C3' ⊢
      clear hw6 C3 O4 hq4
      have D2 := H2.out.off O5 (fun h => h)
      obtain ⟨x0, x1, x2, x3, x4, x5, x6, x7, x8⟩ := cel9 D2
      have fz := D2.free
      go_wp2_with fail
      have E2 := D2.clr9
      have OE := (HO.out.trans O5 (fun _ _ h => h)).clr9 (b := q2) (.inr HQ.out)
      refine bodyPost_ret (results_err9 rfl rfl rfl E2) rfl ?_
      exact ⟨zer, none, 0, [], ne, rfl, HP.out.1, HP.out.2.1, HP.out.2.2, Row.nil _ _ _ (by omega), OE⟩
end Go.Proofs.Ytfkpnmmcdhibbaa
