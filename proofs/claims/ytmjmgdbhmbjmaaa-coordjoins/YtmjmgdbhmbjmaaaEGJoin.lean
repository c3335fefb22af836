/- Items of several texts. -/
import Derived.Test.YtmjmgdbhmbjmaaaEGMay
import Derived.Test.YtmjmgdbhmbjmaaaEGIns
import Derived.Test.YtmjmgdbhmbjmaaaEJoiQ
import Derived.Test.YtmjmgdbhmbjmaaaEGCop
import Derived.Test.YtmjmgdbhmbjmaaaEGFst
namespace Go.Proofs.Ytmjmgdbhmbjmaaa
open Go.RowKit
set_option maxRecDepth 100000 in
set_option maxHeartbeats 8000000 in
theorem gjoinN_any (f g : Nat → Int) (a b : Option Addr) (ca cb : Nat) (l k : List V) (w : World) (h1 : Row w a ca l) (h2 : Row w b cb k) :
  Calls Try.prog 29 #[.agg #[.int .i64 (f 0), .int .i64 (f 1), .int .i64 (f 2), .int .i64 (f 3), .int .i64 (f 4), .int .i64 (f 5), .int .i64 (f 6), .int .i64 (f 7), .slice a l.length ca], .agg #[.int .i64 (g 0), .int .i64 (g 1), .int .i64 (g 2), .int .i64 (g 3), .int .i64 (g 4), .int .i64 (g 5), .int .i64 (g 6), .int .i64 (g 7), .slice b k.length cb]] w fun e w' => ∃ (h : Nat → Int) (a' : Option Addr) (c' : Nat) (l' : List V), e = .returned (.agg #[.int .i64 (h 0), .int .i64 (h 1), .int .i64 (h 2), .int .i64 (h 3), .int .i64 (h 4), .int .i64 (h 5), .int .i64 (h 6), .int .i64 (h 7), .slice a' l'.length c']) ∧ h = joinV f g (cont l) (cont k) ∧ cont l' = joinL f g (cont l) (cont k) ∧ Row w' a' c' l' ∧ Off (fun _ => False) w w' ∧ (∀ c, blk a' = some c → w.heap.size ≤ c) ∧ (∀ v ∈ l', ∀ c, blk v.ad = some c → w.heap.size ≤ c) := by
 have hnot := not_any
 obtain ⟨W, hW⟩ : ∃ W, W = (((w.alloc (.cells #[.int .i64 (f 0), .int .i64 (f 1), .int .i64 (f 2), .int .i64 (f 3), .int .i64 (f 4), .int .i64 (f 5), .int .i64 (f 6), .int .i64 (f 7), .slice a l.length ca] 33)).alloc (.cells #[.int .i64 (g 0), .int .i64 (g 1), .int .i64 (g 2), .int .i64 (g 3), .int .i64 (g 4), .int .i64 (g 5), .int .i64 (g 6), .int .i64 (g 7), .slice b k.length cb] 33)).alloc (.cells #[.int .i64 (zer 0), .int .i64 (zer 1), .int .i64 (zer 2), .int .i64 (zer 3), .int .i64 (zer 4), .int .i64 (zer 5), .int .i64 (zer 6), .int .i64 (zer 7), .slice none 0 0] 33)) := ⟨_, rfl⟩
 have O : Off (fun _ => False) w W := by rw [hW]; exact (((Off.refl _ w).alloc _).alloc _).alloc _
 have C0 : Cel w.heap.size 33 #[.int .i64 (f 0), .int .i64 (f 1), .int .i64 (f 2), .int .i64 (f 3), .int .i64 (f 4), .int .i64 (f 5), .int .i64 (f 6), .int .i64 (f 7), .slice a l.length ca] W := by rw [hW]; exact ((Cel.new w _ _).alloc _).alloc _
 have C1 : Cel (w.heap.size + 1) 33 #[.int .i64 (g 0), .int .i64 (g 1), .int .i64 (g 2), .int .i64 (g 3), .int .i64 (g 4), .int .i64 (g 5), .int .i64 (g 6), .int .i64 (g 7), .slice b k.length cb] W := by rw [hW]; exact (Cel.new1 w _ _ _).alloc _
 have C2 : Cel (w.heap.size + 2) 33 #[.int .i64 (zer 0), .int .i64 (zer 1), .int .i64 (zer 2), .int .i64 (zer 3), .int .i64 (zer 4), .int .i64 (zer 5), .int .i64 (zer 6), .int .i64 (zer 7), .slice none 0 0] W := by rw [hW]; exact Cel.new2 w _ _ _ _
 have HW : Hid ((((w.alloc (.cells #[.int .i64 (f 0), .int .i64 (f 1), .int .i64 (f 2), .int .i64 (f 3), .int .i64 (f 4), .int .i64 (f 5), .int .i64 (f 6), .int .i64 (f 7), .slice a l.length ca] 33)).alloc (.cells #[.int .i64 (g 0), .int .i64 (g 1), .int .i64 (g 2), .int .i64 (g 3), .int .i64 (g 4), .int .i64 (g 5), .int .i64 (g 6), .int .i64 (g 7), .slice b k.length cb] 33)).alloc (.cells #[.int .i64 0, .int .i64 0, .int .i64 0, .int .i64 0, .int .i64 0, .int .i64 0, .int .i64 0, .int .i64 0, .slice none 0 0] 33)) = W) := hW.symm
 have H0 : Hid _ := C0
 have H1 : Hid _ := C1
 have H2 : Hid _ := C2
 have HO : Hid _ := O
 have HRA : Hid _ := h1.off O
 have HRB : Hid _ := h2.off O
 clear hW C0 C1 C2 O h1 h2
 cases m1 : mayS f (cont l)
 ·have HP : Hid (zer = joinV f g (cont l) (cont k) ∧ cont [] = joinL f g (cont l) (cont k)) := ⟨by simp [joinV, m1], (show joinL f g (cont l) (cont k) = [] by simp [joinL, m1]).symm⟩
  go_enter Try.func29, Try.ntmps29
  go_upto_region 1 with fail
  rw [HW.out]
  generalize hq2 : w.heap.size + 1 + 1 = q2 at ⊢
  rw [show w.heap.size + 2 = q2 by omega] at H2
  generalize hq1 : w.heap.size + 1 = q1 at H1 ⊢
  generalize hq0 : w.heap.size = q0 at H0 ⊢
  have HQ : Hid (w.heap.size ≤ q2) := by show w.heap.size ≤ q2; omega
  clear hq0 hq1 hq2
  obtain ⟨x0, x1, x2, x3, x4, x5, x6, x7, x8⟩ := cel9 H0.out
  go_wp2_with fail
  clear x0 x1 x2 x3 x4 x5 x6 x7 x8
  refine (gmay_any f a ca l W HRA.out).mono ?_
  rw [m1]
  rintro e w1 ⟨rfl, o1⟩
  have D2 := H2.out.off o1 (fun h => h)
  obtain ⟨x0, x1, x2, x3, x4, x5, x6, x7, x8⟩ := cel9 D2
  have fz := D2.free
  go_wp2_with fail
  have E2 := D2.clr9
  have OE := (HO.out.trans o1 (fun _ _ h => h)).clr9 (b := q2) (.inr HQ.out)
  refine bodyPost_ret (results_none9 rfl rfl E2) rfl ?_
  exact ⟨zer, none, 0, [], rfl, HP.out.1, HP.out.2, Row.nil _ _ _ (by omega), OE, fun c hc => by simp [blk] at hc, fun v hv => by simp at hv⟩
 cases m2 : mayS g (cont k)
 ·have HP : Hid (zer = joinV f g (cont l) (cont k) ∧ cont [] = joinL f g (cont l) (cont k)) := ⟨by simp [joinV, m2], (show joinL f g (cont l) (cont k) = [] by simp [joinL, m2]).symm⟩
  go_enter Try.func29, Try.ntmps29
  go_upto_region 1 with fail
  rw [HW.out]
  generalize hq2 : w.heap.size + 1 + 1 = q2 at ⊢
  rw [show w.heap.size + 2 = q2 by omega] at H2
  generalize hq1 : w.heap.size + 1 = q1 at H1 ⊢
  generalize hq0 : w.heap.size = q0 at H0 ⊢
  have HQ : Hid (w.heap.size ≤ q2) := by show w.heap.size ≤ q2; omega
  clear hq0 hq1 hq2
  obtain ⟨x0, x1, x2, x3, x4, x5, x6, x7, x8⟩ := cel9 H0.out
  go_wp2_with fail
  clear x0 x1 x2 x3 x4 x5 x6 x7 x8
  refine (gmay_any f a ca l W HRA.out).mono ?_
  rw [m1]
  rintro e w1 ⟨rfl, o1⟩
  obtain ⟨x0, x1, x2, x3, x4, x5, x6, x7, x8⟩ := cel9 (H1.out.off o1 (fun h => h))
  go_wp2_with fail
  clear x0 x1 x2 x3 x4 x5 x6 x7 x8
  refine (gmay_any g b cb k _ (HRB.out.off o1)).mono ?_
  rw [m2]
  rintro e w2 ⟨rfl, o2⟩
  replace o2 := o1.trans o2 (fun _ _ h => h)
  clear o1
  have D2 := H2.out.off o2 (fun h => h)
  obtain ⟨x0, x1, x2, x3, x4, x5, x6, x7, x8⟩ := cel9 D2
  have fz := D2.free
  go_wp2_with fail
  have E2 := D2.clr9
  have OE := (HO.out.trans o2 (fun _ _ h => h)).clr9 (b := q2) (.inr HQ.out)
  refine bodyPost_ret (results_none9 rfl rfl E2) rfl ?_
  exact ⟨zer, none, 0, [], rfl, HP.out.1, HP.out.2, Row.nil _ _ _ (by omega), OE, fun c hc => by simp [blk] at hc, fun v hv => by simp at hv⟩
 have HSL : Hid _ := may_srt (may_iff.1 m1)
 have HSK : Hid _ := may_srt (may_iff.1 m2)
 have hl16 : l.length ≤ 16 := by have := (may_iff.1 m1).few; rwa [cont_len] at this
 have hk16 : k.length ≤ 16 := by have := (may_iff.1 m2).few; rwa [cont_len] at this
 go_enter Try.func29, Try.ntmps29
 go_upto_region 1 with fail
 rw [HW.out]
 generalize hq2 : w.heap.size + 1 + 1 = q2 at ⊢
 rw [show w.heap.size + 2 = q2 by omega] at H2
 generalize hq1 : w.heap.size + 1 = q1 at H1 ⊢
 generalize hq0 : w.heap.size = q0 at H0 ⊢
 have HQ : Hid (w.heap.size ≤ q2) := by show w.heap.size ≤ q2; omega
 clear hq0 hq1 hq2
 obtain ⟨x0, x1, x2, x3, x4, x5, x6, x7, x8⟩ := cel9 H0.out
 go_wp2_with fail
 clear x0 x1 x2 x3 x4 x5 x6 x7 x8
 refine (gmay_any f a ca l W HRA.out).mono ?_
 rw [m1]
 rintro e w1 ⟨rfl, o1⟩
 obtain ⟨x0, x1, x2, x3, x4, x5, x6, x7, x8⟩ := cel9 (H1.out.off o1 (fun h => h))
 go_wp2_with fail
 clear x0 x1 x2 x3 x4 x5 x6 x7 x8
 refine (gmay_any g b cb k _ (HRB.out.off o1)).mono ?_
 rw [m2]
 rintro e w2 ⟨rfl, o2⟩
 replace o2 := o1.trans o2 (fun _ _ h => h)
 clear o1
 obtain ⟨x0, x1, x2, x3, x4, x5, x6, x7, x8⟩ := cel9 (H0.out.off o2 (fun h => h))
 obtain ⟨y0, y1, y2, y3, y4, y5, y6, y7, y8⟩ := cel9 (H1.out.off o2 (fun h => h))
 go_wp2_with fail
 refine (fjoin_any f g _).mono ?_
 rintro e w4 ⟨h, rfl, hh, o4⟩
 replace o4 := o2.trans o4 (fun _ _ h => h)
 have HHE : Hid (∀ j, j < 8 → h j = maxV f g j) := hh
 clear hh o2 x0 x1 x2 x3 x4 x5 x6 x7 x8 y0 y1 y2 y3 y4 y5 y6 y7 y8
 go_upto_region 4 with fail
 have C5 := Cel.new w4 33 #[.int .i64 (h 0), .int .i64 (h 1), .int .i64 (h 2), .int .i64 (h 3), .int .i64 (h 4), .int .i64 (h 5), .int .i64 (h 6), .int .i64 (h 7), .slice none 0 0]
 have O6 := o4.alloc (.cells #[.int .i64 (h 0), .int .i64 (h 1), .int .i64 (h 2), .int .i64 (h 3), .int .i64 (h 4), .int .i64 (h 5), .int .i64 (h 6), .int .i64 (h 7), .slice none 0 0] 33)
 generalize hq5 : w4.heap.size = q5 at C5 ⊢
 have hw5 : W.heap.size ≤ q5 := by have := o4.size; omega
 generalize hw8 : w4.alloc (.cells #[.int .i64 (h 0), .int .i64 (h 1), .int .i64 (h 2), .int .i64 (h 3), .int .i64 (h 4), .int .i64 (h 5), .int .i64 (h 6), .int .i64 (h 7), .slice none 0 0] 33) = w8 at C5 O6 ⊢
 clear hw8 hq5 o4
 have HQ5 : Hid (w.heap.size ≤ q5 ∧ W.heap.size ≤ q5) := ⟨Nat.le_trans HO.out.size hw5, hw5⟩
 have HC5 : Hid _ := C5
 have HO6 : Hid _ := O6
 have H08 : Hid _ := H0.out.off O6 (fun h => h)
 have H18 : Hid _ := H1.out.off O6 (fun h => h)
 have H28 : Hid _ := H2.out.off O6 (fun h => h)
 have HL5 : Hid (q5 < w8.heap.size) := C5.lt
 have HN5 : Hid (q0 ≠ q5 ∧ q2 ≠ q5 ∧ q1 ≠ q5) := ⟨by have := H0.out.lt; omega, by have := H2.out.lt; omega, by have := H1.out.lt; omega⟩
 clear C5 O6 hw5 H0 H1 H2
 obtain ⟨x0, x1, x2, x3, x4, x5, x6, x7, x8⟩ := cel9 H08.out
 go_wp2_with fail
 clear x0 x1 x2 x3 x4 x5 x6 x7 x8
 go_loopw [29] (fun y wr => ∃ (i : Nat) (lo : List V) (ao : Option Addr) (co : Nat), y = .int .i64 (i : Int) ∧ i ≤ l.length ∧ Cel q5 33 #[.int .i64 (h 0), .int .i64 (h 1), .int .i64 (h 2), .int .i64 (h 3), .int .i64 (h 4), .int .i64 (h 5), .int .i64 (h 6), .int .i64 (h 7), .slice ao lo.length co] wr ∧ Mk w8.heap.size wr ao co lo ∧ lo.length ≤ i ∧ St1 g (cont l) (cont k) i (cont lo) ∧ Off (fun c => c = q5) w8 wr) (fun y _ => (l.length - intOf y).toNat)
 case atStart => exact ⟨0, [], none, 0, rfl, by omega, HC5.out, Mk.nil _ _, by simp, st1_zero _ _ _, Off.refl _ _⟩
 case round =>
  clear HC5
  obtain ⟨i, lo, ao, co, rfl, hi, bx, mk, hlol, hst, po⟩ := hrel
  have HBX : Hid _ := bx
  have HMK : Hid _ := mk
  have HST : Hid _ := hst
  have HPO : Hid (Off (fun c => c = q5) w8 wr) := po
  have HOW : Hid (Off (fun c => W.heap.size ≤ c) W wr) := (HO6.out.mono (fun _ _ h => h.elim)).trans po (fun k _ e => by rw [e]; exact HQ5.out.2)
  clear bx mk hst po
  by_cases hil : i < l.length
  ·have i1 : decide ((i : Int) < (l.length : Int)) = true := decide_eq_true (by omega)
   have i2 : decide (i < l.length) = true := decide_eq_true hil
   obtain ⟨x, hx⟩ : ∃ x, l[i]? = some x := ⟨_, List.getElem?_eq_getElem hil⟩
   obtain ⟨ba, fa, hay, h4, hvx⟩ := HRA.out.at_ i x hx
   have HX : Hid _ := hx
   have HVW : Hid _ := hvx
   obtain ⟨c0, c1, c2, c3⟩ := h4.off HOW.out (fun hb h => by omega)
   clear hx h4 hvx
   have HAY : Hid _ := hay
   subst hay
   go_upto_region 7 with fail
   have CX := Cel.new wr 92 #[.int .i64 x.node, .int .i64 x.num, .slice x.ad x.data.length x.cap, .bool x.dead]
   have OA : Off (fun _ => False) wr (wr.alloc (.cells #[.int .i64 x.node, .int .i64 x.num, .slice x.ad x.data.length x.cap, .bool x.dead] 92)) := (Off.refl _ wr).alloc _
   have lbx := HBX.out.lt
   generalize hq : wr.heap.size = qx at CX lbx ⊢
   generalize hv : wr.alloc (.cells #[.int .i64 x.node, .int .i64 x.num, .slice x.ad x.data.length x.cap, .bool x.dead] 92) = vx at CX OA ⊢
   have HQX : Hid (¬ qx = q5) := by show ¬ qx = q5; omega
   clear hv hq c0 c1 c2 c3
   have HBX0 : Hid _ := HBX.out.off OA (fun h => h)
   have HMK0 : Hid _ := HMK.out.free OA
   have HPO0 : Hid (Off (fun c => c = q5) w8 vx) := HPO.out.trans (OA.mono (fun _ _ h => h.elim)) (fun _ _ h => h)
   have HOW0 : Hid (Off (fun c => W.heap.size ≤ c) W vx) := HOW.out.trans (OA.mono (fun _ _ h => h.elim)) (fun _ _ h => h)
   clear HBX HMK HPO HOW lbx OA
   obtain ⟨x0, x1, x2, x3, x4, x5, x6, x7, x8⟩ := cel9 (H18.out.off HPO0.out (fun e => HN5.out.2.2 e))
   obtain ⟨e0, e1, e2, e3⟩ := cel4 CX
   have HCX0 : Hid _ := CX
   go_wp2_with fail
   clear x0 x1 x2 x3 x4 x5 x6 x7 x8 e0 e1 e2 e3 CX
   refine (find_any g b cb k x.node x.num _ (HRB.out.offD HOW0.out (fun c hc _ h => by omega) (fun v hv c hc _ h => by omega))).mono ?_
   rintro e w9 ⟨r, rfl, hr, o9⟩
   have HBX1 : Hid _ := HBX0.out.off o9 (fun h => h)
   have HMK1 : Hid _ := HMK0.out.free o9
   have HPO1 : Hid (Off (fun c => c = q5) w8 w9) := HPO0.out.trans (o9.mono (fun _ _ h => h.elim)) (fun _ _ h => h)
   have HOW1 : Hid (Off (fun c => W.heap.size ≤ c) W w9) := HOW0.out.trans (o9.mono (fun _ _ h => h.elim)) (fun _ _ h => h)
   have HCX1 : Hid _ := HCX0.out.off o9 (fun h => h)
   clear o9 HBX0 HMK0 HPO0 HOW0 HCX0
   rcases hr with ⟨rfl, hno⟩ | ⟨j, y, rfl, hy, hyn, hyN⟩
   ·have HNO : Hid (∀ y ∈ cont k, ¬ EQ x.abs y) := fun y hy e => abs_none hno y hy e.symm
    clear hno
    obtain ⟨x0, x1, x2, x3, x4, x5, x6, x7, x8⟩ := cel9 (H18.out.off HPO1.out (fun e => HN5.out.2.2 e))
    obtain ⟨e0, e1, e2, e3⟩ := cel4 HCX1.out
    cases hcv : coversB g x.node x.num
    ·go_wp2_with fail
     clear x0 x1 x2 x3 x4 x5 x6 x7 x8 e0 e1 e2 e3
     refine (fcovers_any g x.node x.num _).mono ?_
     rw [hcv]
     rintro e v1 ⟨rfl, o1⟩
     have HBX : Hid _ := HBX1.out.off o1 (fun h => h)
     have HMK : Hid _ := HMK1.out.free o1
     have HPO : Hid (Off (fun c => c = q5) w8 v1) := HPO1.out.trans (o1.mono (fun _ _ h => h.elim)) (fun _ _ h => h)
     have HOW : Hid (Off (fun c => W.heap.size ≤ c) W v1) := HOW1.out.trans (o1.mono (fun _ _ h => h.elim)) (fun _ _ h => h)
     have HCX : Hid _ := HCX1.out.off o1 (fun h => h)
     have HVX : Hid (∀ w', Off (fun c => c = q5) v1 w' → VOk w' x) := fun w' o => HVW.out.off (HOW.out.trans o (fun k _ e => by rw [e]; exact HQ5.out.2)) (fun c hc _ h => by omega)
     clear o1 HBX1 HMK1 HPO1 HOW1 HCX1
     go_upto_region 11 with fail
     have HSW : Hid (w8.heap.size ≤ v1.heap.size) := HPO.out.size
     refine wp_region_held_drew (S := fun w' => Off (fun c => c = q5) v1 w') (by kernel_rfl) ((Off.refl _ v1).drew) (fun hS => ?_)
     have BX := HBX.out.drew
     have MK := HMK.out.free ((Off.refl _ v1).drew)
     have hv1 : v1.heap.size ≤ v1.drew.heap.size := Nat.le_refl _
     generalize hdr : v1.drew = va at BX MK hS hv1 ⊢
     clear hdr
     refine take_at (i := 0) 57 (v := .pointer (some ⟨q5, 8, none⟩)) rfl rfl (by kernel_rfl) (by kernel_rfl) (by kernel_rfl) (fun _ _ _ h => h) (Or.inl ⟨by rfl, fun w' hw' => by go_simp⟩) hS ?_
     simp only [Act.put, lsA, lsZ, lsS]
     refine take_at (i := 2) 59 (v := .agg #[.int .i64 x.node, .int .i64 x.num, .slice x.ad x.data.length x.cap, .bool x.dead]) rfl rfl (by kernel_rfl) (by kernel_rfl) (by kernel_rfl) (fun _ _ _ h => h) (Or.inl ⟨by rfl, fun w' hw' => by obtain ⟨x0, x1, x2, x3⟩ := cel4 (HCX.out.off hw' (fun h => HQX.out h)); go_simp⟩) hS ?_
     simp only [Act.put, lsA, lsZ, lsS]
     refine wpAnyH_ready (rs := [1, 3]) (by kernel_rfl) (by simp) ?_
     refine AllReadyH.cons rfl (fun K' hK' => ?_) (AllReadyH.cons rfl (fun K' hK' => ?_) AllReadyH.nil)
     ·obtain ⟨x0, x1, x2, x3, x4, x5, x6, x7, x8⟩ := cel9 BX
      go_simp
      refine hK'.out _ _ hS (fun hS => ?_)
      clear hK' K' x0 x1 x2 x3 x4 x5 x6 x7 x8
      refine wpAnyH_ready (rs := [3]) (by kernel_rfl) (by simp) ?_
      refine AllReadyH.cons rfl (fun K' hK' => ?_) AllReadyH.nil
      go_simp
      refine (copied_any x _ (HVX.out _ hS)).mono ?_
      rintro e vb ⟨u, rfl, hu, uo, uk, un, o1⟩
      have hS1 := hS.trans (o1.mono (fun _ _ h => h.elim)) (fun _ _ h => h)
      refine hK'.out _ _ hS1 (fun hS => ?_)
      clear hK' K' hS1
      replace BX := BX.off o1 (fun h => h)
      replace MK := MK.free o1
      have UK : VOk vb u ∧ ∀ k, blk u.ad = some k → va.heap.size ≤ k ∧ k < vb.heap.size := ⟨uk, fun k hk => ⟨un k hk, uo.lt k hk⟩⟩
      have HU : Hid (u.abs = x.abs) := hu
      have szo := o1.size
      clear uo uk un hu o1
      refine wpAnyH_ready (rs := [4]) (by kernel_rfl) (by simp) ?_
      refine AllReadyH.cons rfl (fun K' hK' => ?_) AllReadyH.nil
      go_simp
      refine (insert_any ao co lo u _ MK.row MK.own.zero UK.1 (by omega)).mono ?_
      rintro e v7 ⟨kk, a7, c7, rfl, hk, hk1, hk2, own7, at7, o7⟩
      have hS1 := hS.trans (o7.mono (fun _ _ h => h.elim)) (fun _ _ h => h)
      refine hK'.out _ _ hS1 (fun hS => ?_)
      clear hK' K' hS1
      refine take_at (i := 5) 62 (v := .pointer (some ⟨q5, 8, none⟩)) rfl rfl (by kernel_rfl) (by kernel_rfl) (by kernel_rfl) (fun _ _ _ h => h) (Or.inl ⟨by rfl, fun w' hw' => by go_simp⟩) hS ?_
      simp only [Act.put, lsA, lsZ, lsS]
      have MK7 := MK.ins (u := u) (m := kk) (by have := HSW.out; have := szo; omega) UK.1 (fun c hc => ⟨by have := (UK.2 c hc).1; have := HSW.out; omega, (UK.2 c hc).2⟩) own7 o7 at7
      have BX7 := BX.off o7 (fun h => h)
      obtain ⟨hc7, hc8, hc9⟩ := ins_cont hk1 hk2
      have HST7 : Hid (St1 g (cont l) (cont k) (i + 1) ((cont lo).take kk ++ u.abs :: (cont lo).drop kk)) := st1_ins HST.out HSL.out (cont_get HX.out) (fun z => by rw [HU.out]; exact j0_new HNO.out (by simp only [nc, V.abs, hcv]; rfl) z) hc8 hc9
      have hlen7 : (lo.take kk ++ u :: lo.drop kk).length = lo.length + 1 := by simp; omega
      rw [← hc7] at HST7
      generalize hz7 : lo.take kk ++ u :: lo.drop kk = l7 at MK7 HST7 hlen7 ⊢
      obtain ⟨x0, x1, x2, x3, x4, x5, x6, x7, x8⟩ := cel9 BX7
      have fz := BX7.free
      have HLEN : Hid _ := hlen7
      clear hlen7
      refine wpAnyH_ready (rs := [6]) (by kernel_rfl) (by simp) ?_
      refine AllReadyH.cons rfl (fun K' hK' => ?_) AllReadyH.nil
      go_simp
      have hS3 := hS.setCell (p := ⟨q5, 8, none⟩) (.inl rfl) (.slice a7 l7.length c7)
      refine hK'.out _ _ hS3 (fun hS => ?_)
      clear hK' K' hS3
      refine wpAnyH_done (by kernel_rfl) ?_ _
      clear x0 x1 x2 x3 x4 x5 x6 x7 x8 fz
      have BX8 := BX7.set 8 (.slice a7 l7.length c7)
      simp only [lsA, lsZ, lsS] at BX8
      have MK8 := MK7.off ((Off.refl (fun c => c = q5) v7).setCell (p := ⟨q5, 8, none⟩) (.inl rfl) (.slice a7 l7.length c7)) (fun k h1 _ h2 => by have := HL5.out; omega)
      have OF := HPO.out.trans hS (fun k _ h => h)
      generalize hv9 : v7.setCell ⟨q5, 8, none⟩ (.slice a7 l7.length c7) = v9 at BX8 MK8 OF ⊢
      have HB8 : Hid _ := BX8
      have HM8 : Hid _ := MK8
      have HOF : Hid _ := OF
      clear BX7 BX8 MK7 MK8 OF hS hv9 own7 at7 o7 hk hk1 hk2 hz7 MK BX UK szo hc7 hc8 hc9
      go_wp2_with fail
      go_roundw
      case rel => exact ⟨i + 1, l7, a7, c7, by go_num, by omega, HB8.out, HM8.out, by have := HLEN.out; omega, HST7.out, HOF.out⟩
      case measure => simp [intOf]; omega
     ·go_simp
      refine (copied_any x _ (HVX.out _ hS)).mono ?_
      rintro e vb ⟨u, rfl, hu, uo, uk, un, o1⟩
      have hS1 := hS.trans (o1.mono (fun _ _ h => h.elim)) (fun _ _ h => h)
      refine hK'.out _ _ hS1 (fun hS => ?_)
      clear hK' K' hS1
      replace BX := BX.off o1 (fun h => h)
      replace MK := MK.free o1
      have UK : VOk vb u ∧ ∀ k, blk u.ad = some k → va.heap.size ≤ k ∧ k < vb.heap.size := ⟨uk, fun k hk => ⟨un k hk, uo.lt k hk⟩⟩
      have HU : Hid (u.abs = x.abs) := hu
      have szo := o1.size
      clear uo uk un hu o1
      refine wpAnyH_ready (rs := [1]) (by kernel_rfl) (by simp) ?_
      refine AllReadyH.cons rfl (fun K' hK' => ?_) AllReadyH.nil
      obtain ⟨x0, x1, x2, x3, x4, x5, x6, x7, x8⟩ := cel9 BX
      go_simp
      refine hK'.out _ _ hS (fun hS => ?_)
      clear hK' K' x0 x1 x2 x3 x4 x5 x6 x7 x8
      refine wpAnyH_ready (rs := [4]) (by kernel_rfl) (by simp) ?_
      refine AllReadyH.cons rfl (fun K' hK' => ?_) AllReadyH.nil
      go_simp
      refine (insert_any ao co lo u _ MK.row MK.own.zero UK.1 (by omega)).mono ?_
      rintro e v7 ⟨kk, a7, c7, rfl, hk, hk1, hk2, own7, at7, o7⟩
      have hS1 := hS.trans (o7.mono (fun _ _ h => h.elim)) (fun _ _ h => h)
      refine hK'.out _ _ hS1 (fun hS => ?_)
      clear hK' K' hS1
      refine take_at (i := 5) 62 (v := .pointer (some ⟨q5, 8, none⟩)) rfl rfl (by kernel_rfl) (by kernel_rfl) (by kernel_rfl) (fun _ _ _ h => h) (Or.inl ⟨by rfl, fun w' hw' => by go_simp⟩) hS ?_
      simp only [Act.put, lsA, lsZ, lsS]
      have MK7 := MK.ins (u := u) (m := kk) (by have := HSW.out; have := szo; omega) UK.1 (fun c hc => ⟨by have := (UK.2 c hc).1; have := HSW.out; omega, (UK.2 c hc).2⟩) own7 o7 at7
      have BX7 := BX.off o7 (fun h => h)
      obtain ⟨hc7, hc8, hc9⟩ := ins_cont hk1 hk2
      have HST7 : Hid (St1 g (cont l) (cont k) (i + 1) ((cont lo).take kk ++ u.abs :: (cont lo).drop kk)) := st1_ins HST.out HSL.out (cont_get HX.out) (fun z => by rw [HU.out]; exact j0_new HNO.out (by simp only [nc, V.abs, hcv]; rfl) z) hc8 hc9
      have hlen7 : (lo.take kk ++ u :: lo.drop kk).length = lo.length + 1 := by simp; omega
      rw [← hc7] at HST7
      generalize hz7 : lo.take kk ++ u :: lo.drop kk = l7 at MK7 HST7 hlen7 ⊢
      obtain ⟨x0, x1, x2, x3, x4, x5, x6, x7, x8⟩ := cel9 BX7
      have fz := BX7.free
      have HLEN : Hid _ := hlen7
      clear hlen7
      refine wpAnyH_ready (rs := [6]) (by kernel_rfl) (by simp) ?_
      refine AllReadyH.cons rfl (fun K' hK' => ?_) AllReadyH.nil
      go_simp
      have hS3 := hS.setCell (p := ⟨q5, 8, none⟩) (.inl rfl) (.slice a7 l7.length c7)
      refine hK'.out _ _ hS3 (fun hS => ?_)
      clear hK' K' hS3
      refine wpAnyH_done (by kernel_rfl) ?_ _
      clear x0 x1 x2 x3 x4 x5 x6 x7 x8 fz
      have BX8 := BX7.set 8 (.slice a7 l7.length c7)
      simp only [lsA, lsZ, lsS] at BX8
      have MK8 := MK7.off ((Off.refl (fun c => c = q5) v7).setCell (p := ⟨q5, 8, none⟩) (.inl rfl) (.slice a7 l7.length c7)) (fun k h1 _ h2 => by have := HL5.out; omega)
      have OF := HPO.out.trans hS (fun k _ h => h)
      generalize hv9 : v7.setCell ⟨q5, 8, none⟩ (.slice a7 l7.length c7) = v9 at BX8 MK8 OF ⊢
      have HB8 : Hid _ := BX8
      have HM8 : Hid _ := MK8
      have HOF : Hid _ := OF
      clear BX7 BX8 MK7 MK8 OF hS hv9 own7 at7 o7 hk hk1 hk2 hz7 MK BX UK szo hc7 hc8 hc9
      go_wp2_with fail
      go_roundw
      case rel => exact ⟨i + 1, l7, a7, c7, by go_num, by omega, HB8.out, HM8.out, by have := HLEN.out; omega, HST7.out, HOF.out⟩
      case measure => simp [intOf]; omega
    ·go_wp2_with fail
     clear x0 x1 x2 x3 x4 x5 x6 x7 x8 e0 e1 e2 e3
     refine (fcovers_any g x.node x.num _).mono ?_
     rw [hcv]
     rintro e v1 ⟨rfl, o1⟩
     have HBX : Hid _ := HBX1.out.off o1 (fun h => h)
     have HMK : Hid _ := HMK1.out.free o1
     have HPO : Hid (Off (fun c => c = q5) w8 v1) := HPO1.out.trans (o1.mono (fun _ _ h => h.elim)) (fun _ _ h => h)
     have HOW : Hid (Off (fun c => W.heap.size ≤ c) W v1) := HOW1.out.trans (o1.mono (fun _ _ h => h.elim)) (fun _ _ h => h)
     have HCX : Hid _ := HCX1.out.off o1 (fun h => h)
     have HST7 : Hid (St1 g (cont l) (cont k) (i + 1) (cont lo)) := st1_skip HST.out (cont_get HX.out) HNO.out (by simp only [nc, V.abs, hcv]; rfl)
     clear o1 HBX1 HMK1 HPO1 HOW1 HCX1
     go_wp2_with fail
     go_roundw
     case rel => exact ⟨i + 1, lo, ao, co, by go_num, by omega, HBX.out, HMK.out, by omega, HST7.out, HPO.out⟩
     case measure => simp [intOf]; omega
   ·have HXY : Hid (EQ x.abs y.abs) := ⟨hyn.symm, hyN.symm⟩
    have HY : Hid _ := hy
    obtain ⟨hjl, -⟩ := List.getElem?_eq_some_iff.1 hy
    obtain ⟨bb, fb, hbb, hy4, hvy⟩ := HRB.out.at_ j y hy
    have HVYW : Hid _ := hvy
    have HY4 : Hid _ := hy4
    have j1 : decide ((j : Int) < (k.length : Int)) = true := decide_eq_true (by omega)
    have j2 : decide (j < k.length) = true := decide_eq_true hjl
    have j3 : decide ((0 : Int) ≤ (j : Int)) = true := decide_eq_true (by omega)
    clear hyn hyN hy hy4 hvy
    subst hbb
    obtain ⟨v1, hv1⟩ : ∃ v1, v1 = w9 := ⟨_, rfl⟩
    rw [← hv1] at HBX1 HMK1 HPO1 HOW1 HCX1 ⊢
    have HBX : Hid _ := HBX1.out
    have HMK : Hid _ := HMK1.out
    have HPO : Hid (Off (fun c => c = q5) w8 v1) := HPO1.out
    have HOW : Hid (Off (fun c => W.heap.size ≤ c) W v1) := HOW1.out
    have HCX : Hid _ := HCX1.out
    have HVX : Hid (∀ w', Off (fun c => c = q5) v1 w' → VOk w' x) := fun w' o => HVW.out.off (HOW.out.trans o (fun k _ e => by rw [e]; exact HQ5.out.2)) (fun c hc _ h => by omega)
    have HVY : Hid (∀ w', Off (fun c => c = q5) v1 w' → VOk w' y) := fun w' o => HVYW.out.off (HOW.out.trans o (fun k _ e => by rw [e]; exact HQ5.out.2)) (fun c hc _ h => by omega)
    clear hv1 HBX1 HMK1 HPO1 HOW1 HCX1
    go_upto_region 9 with fail
    have HSW : Hid (w8.heap.size ≤ v1.heap.size) := HPO.out.size
    refine wp_region_held_drew (S := fun w' => Off (fun c => c = q5) v1 w') (by kernel_rfl) ((Off.refl _ v1).drew) (fun hS => ?_)
    have BX := HBX.out.drew
    have MK := HMK.out.free ((Off.refl _ v1).drew)
    have hv1 : v1.heap.size ≤ v1.drew.heap.size := Nat.le_refl _
    generalize hdr : v1.drew = va at BX MK hS hv1 ⊢
    clear hdr
    refine take_at (i := 0) 39 (v := .pointer (some ⟨q5, 8, none⟩)) rfl rfl (by kernel_rfl) (by kernel_rfl) (by kernel_rfl) (fun _ _ _ h => h) (Or.inl ⟨by rfl, fun w' hw' => by go_simp⟩) hS ?_
    simp only [Act.put, lsA, lsZ, lsS]
    refine take_at (i := 2) 41 (v := .agg #[.int .i64 x.node, .int .i64 x.num, .slice x.ad x.data.length x.cap, .bool x.dead]) rfl rfl (by kernel_rfl) (by kernel_rfl) (by kernel_rfl) (fun _ _ _ h => h) (Or.inl ⟨by rfl, fun w' hw' => by obtain ⟨x0, x1, x2, x3⟩ := cel4 (HCX.out.off hw' (fun h => HQX.out h)); go_simp⟩) hS ?_
    simp only [Act.put, lsA, lsZ, lsS]
    refine take_at (i := 3) 42 (v := .pointer (some ⟨q1, 8, none⟩)) rfl rfl (by kernel_rfl) (by kernel_rfl) (by kernel_rfl) (fun _ _ _ h => h) (Or.inl ⟨by rfl, fun w' hw' => by go_simp⟩) hS ?_
    simp only [Act.put, lsA, lsZ, lsS]
    refine take_at (i := 4) 43 (v := .slice (some ⟨bb, fb, none⟩) k.length cb) rfl rfl (by kernel_rfl) (by kernel_rfl) (by kernel_rfl) (fun _ _ _ h => h) (Or.inl ⟨by rfl, fun w' hw' => by obtain ⟨x0, x1, x2, x3, x4, x5, x6, x7, x8⟩ := cel9 (H18.out.off (HPO.out.trans hw' (fun _ _ h => h)) (fun e => HN5.out.2.2 e)); go_simp⟩) hS ?_
    simp only [Act.put, lsA, lsZ, lsS]
    refine take_at (i := 5) 44 (v := .int .i64 (j : Int)) rfl rfl (by kernel_rfl) (by kernel_rfl) (by kernel_rfl) (fun _ _ _ h => h) (Or.inl ⟨by rfl, fun w' hw' => by go_simp⟩) hS ?_
    simp only [Act.put, lsA, lsZ, lsS]
    refine take_at (i := 6) 45 (v := .pointer (some ⟨bb, fb + j * 4, none⟩)) rfl rfl (by kernel_rfl) (by kernel_rfl) (by kernel_rfl) (fun _ _ _ h => h) (Or.inl ⟨by rfl, fun w' hw' => by go_simp⟩) hS ?_
    simp only [Act.put, lsA, lsZ, lsS]
    refine take_at (i := 7) 46 (v := .agg #[.int .i64 y.node, .int .i64 y.num, .slice y.ad y.data.length y.cap, .bool y.dead]) rfl rfl (by kernel_rfl) (by kernel_rfl) (by kernel_rfl) (fun _ _ _ h => h) (Or.inl ⟨by rfl, fun w' hw' => by obtain ⟨c0, c1, c2, c3⟩ := HY4.out.off (HOW.out.trans hw' (fun k _ e => by rw [e]; exact HQ5.out.2)) (fun hb h => by omega); go_simp⟩) hS ?_
    simp only [Act.put, lsA, lsZ, lsS]
    refine wpAnyH_ready (rs := [1, 8]) (by kernel_rfl) (by simp) ?_
    refine AllReadyH.cons rfl (fun K' hK' => ?_) (AllReadyH.cons rfl (fun K' hK' => ?_) AllReadyH.nil)
    ·obtain ⟨x0, x1, x2, x3, x4, x5, x6, x7, x8⟩ := cel9 BX
     go_simp
     refine hK'.out _ _ hS (fun hS => ?_)
     clear hK' K' x0 x1 x2 x3 x4 x5 x6 x7 x8
     refine wpAnyH_ready (rs := [8]) (by kernel_rfl) (by simp) ?_
     refine AllReadyH.cons rfl (fun K' hK' => ?_) AllReadyH.nil
     go_simp
     refine (gfirst_any x y _ (HVX.out _ hS) (HVY.out _ hS)).mono ?_
     rintro e vf ⟨rfl, o0⟩
     have hS1 := hS.trans (o0.mono (fun _ _ h => h.elim)) (fun _ _ h => h)
     refine hK'.out _ _ hS1 (fun hS => ?_)
     clear hK' K' hS1
     replace BX := BX.off o0 (fun h => h)
     replace MK := MK.free o0
     have szf := o0.size
     have FK := firstV_ok (HVX.out _ hS) (HVY.out _ hS)
     have HFA : Hid ((firstV x y).abs = firstA x.abs y.abs) := firstV_abs x y
     generalize hfv : firstV x y = fv at FK HFA ⊢
     clear hfv o0
     refine wpAnyH_ready (rs := [9]) (by kernel_rfl) (by simp) ?_
     refine AllReadyH.cons rfl (fun K' hK' => ?_) AllReadyH.nil
     go_simp
     refine (copied_any fv _ FK).mono ?_
     rintro e vb ⟨u, rfl, hu, uo, uk, un, o1⟩
     have hS1 := hS.trans (o1.mono (fun _ _ h => h.elim)) (fun _ _ h => h)
     refine hK'.out _ _ hS1 (fun hS => ?_)
     clear hK' K' hS1
     replace BX := BX.off o1 (fun h => h)
     replace MK := MK.free o1
     have UK : VOk vb u ∧ ∀ k, blk u.ad = some k → vf.heap.size ≤ k ∧ k < vb.heap.size := ⟨uk, fun k hk => ⟨un k hk, uo.lt k hk⟩⟩
     have HU : Hid (u.abs = fv.abs) := hu
     have szo := o1.size
     clear uo uk un hu o1
     refine wpAnyH_ready (rs := [10]) (by kernel_rfl) (by simp) ?_
     refine AllReadyH.cons rfl (fun K' hK' => ?_) AllReadyH.nil
     go_simp
     refine (insert_any ao co lo u _ MK.row MK.own.zero UK.1 (by omega)).mono ?_
     rintro e v7 ⟨kk, a7, c7, rfl, hk, hk1, hk2, own7, at7, o7⟩
     have hS1 := hS.trans (o7.mono (fun _ _ h => h.elim)) (fun _ _ h => h)
     refine hK'.out _ _ hS1 (fun hS => ?_)
     clear hK' K' hS1
     refine take_at (i := 11) 50 (v := .pointer (some ⟨q5, 8, none⟩)) rfl rfl (by kernel_rfl) (by kernel_rfl) (by kernel_rfl) (fun _ _ _ h => h) (Or.inl ⟨by rfl, fun w' hw' => by go_simp⟩) hS ?_
     simp only [Act.put, lsA, lsZ, lsS]
     have MK7 := MK.ins (u := u) (m := kk) (by have := HSW.out; have := szo; have := szf; omega) UK.1 (fun c hc => ⟨by have := (UK.2 c hc).1; have := HSW.out; have := szf; omega, (UK.2 c hc).2⟩) own7 o7 at7
     have BX7 := BX.off o7 (fun h => h)
     obtain ⟨hc7, hc8, hc9⟩ := ins_cont hk1 hk2
     have HST7 : Hid (St1 g (cont l) (cont k) (i + 1) ((cont lo).take kk ++ u.abs :: (cont lo).drop kk)) := st1_ins HST.out HSL.out (cont_get HX.out) (fun z => by rw [HU.out, HFA.out]; exact j0_found HSK.out (List.mem_of_getElem? (cont_get HY.out)) HXY.out z) hc8 hc9
     have hlen7 : (lo.take kk ++ u :: lo.drop kk).length = lo.length + 1 := by simp; omega
     rw [← hc7] at HST7
     generalize hz7 : lo.take kk ++ u :: lo.drop kk = l7 at MK7 HST7 hlen7 ⊢
     obtain ⟨x0, x1, x2, x3, x4, x5, x6, x7, x8⟩ := cel9 BX7
     have fz := BX7.free
     have HLEN : Hid _ := hlen7
     clear hlen7
     refine wpAnyH_ready (rs := [12]) (by kernel_rfl) (by simp) ?_
     refine AllReadyH.cons rfl (fun K' hK' => ?_) AllReadyH.nil
     go_simp
     have hS3 := hS.setCell (p := ⟨q5, 8, none⟩) (.inl rfl) (.slice a7 l7.length c7)
     refine hK'.out _ _ hS3 (fun hS => ?_)
     clear hK' K' hS3
     refine wpAnyH_done (by kernel_rfl) ?_ _
     clear x0 x1 x2 x3 x4 x5 x6 x7 x8 fz
     have BX8 := BX7.set 8 (.slice a7 l7.length c7)
     simp only [lsA, lsZ, lsS] at BX8
     have MK8 := MK7.off ((Off.refl (fun c => c = q5) v7).setCell (p := ⟨q5, 8, none⟩) (.inl rfl) (.slice a7 l7.length c7)) (fun k h1 _ h2 => by have := HL5.out; omega)
     have OF := HPO.out.trans hS (fun k _ h => h)
     generalize hv9 : v7.setCell ⟨q5, 8, none⟩ (.slice a7 l7.length c7) = v9 at BX8 MK8 OF ⊢
     have HB8 : Hid _ := BX8
     have HM8 : Hid _ := MK8
     have HOF : Hid _ := OF
     clear BX7 BX8 MK7 MK8 OF hS hv9 own7 at7 o7 hk hk1 hk2 hz7 MK BX UK szo hc7 hc8 hc9
     go_wp2_with fail
     go_roundw
     case rel => exact ⟨i + 1, l7, a7, c7, by go_num, by omega, HB8.out, HM8.out, by have := HLEN.out; omega, HST7.out, HOF.out⟩
     case measure => simp [intOf]; omega
    ·go_simp
     refine (gfirst_any x y _ (HVX.out _ hS) (HVY.out _ hS)).mono ?_
     rintro e vf ⟨rfl, o0⟩
     have hS1 := hS.trans (o0.mono (fun _ _ h => h.elim)) (fun _ _ h => h)
     refine hK'.out _ _ hS1 (fun hS => ?_)
     clear hK' K' hS1
     replace BX := BX.off o0 (fun h => h)
     replace MK := MK.free o0
     have szf := o0.size
     have FK := firstV_ok (HVX.out _ hS) (HVY.out _ hS)
     have HFA : Hid ((firstV x y).abs = firstA x.abs y.abs) := firstV_abs x y
     generalize hfv : firstV x y = fv at FK HFA ⊢
     clear hfv o0
     refine wpAnyH_ready (rs := [1, 9]) (by kernel_rfl) (by simp) ?_
     refine AllReadyH.cons rfl (fun K' hK' => ?_) (AllReadyH.cons rfl (fun K' hK' => ?_) AllReadyH.nil)
     ·obtain ⟨x0, x1, x2, x3, x4, x5, x6, x7, x8⟩ := cel9 BX
      go_simp
      refine hK'.out _ _ hS (fun hS => ?_)
      clear hK' K' x0 x1 x2 x3 x4 x5 x6 x7 x8
      refine wpAnyH_ready (rs := [9]) (by kernel_rfl) (by simp) ?_
      refine AllReadyH.cons rfl (fun K' hK' => ?_) AllReadyH.nil
      go_simp
      refine (copied_any fv _ FK).mono ?_
      rintro e vb ⟨u, rfl, hu, uo, uk, un, o1⟩
      have hS1 := hS.trans (o1.mono (fun _ _ h => h.elim)) (fun _ _ h => h)
      refine hK'.out _ _ hS1 (fun hS => ?_)
      clear hK' K' hS1
      replace BX := BX.off o1 (fun h => h)
      replace MK := MK.free o1
      have UK : VOk vb u ∧ ∀ k, blk u.ad = some k → vf.heap.size ≤ k ∧ k < vb.heap.size := ⟨uk, fun k hk => ⟨un k hk, uo.lt k hk⟩⟩
      have HU : Hid (u.abs = fv.abs) := hu
      have szo := o1.size
      clear uo uk un hu o1
      refine wpAnyH_ready (rs := [10]) (by kernel_rfl) (by simp) ?_
      refine AllReadyH.cons rfl (fun K' hK' => ?_) AllReadyH.nil
      go_simp
      refine (insert_any ao co lo u _ MK.row MK.own.zero UK.1 (by omega)).mono ?_
      rintro e v7 ⟨kk, a7, c7, rfl, hk, hk1, hk2, own7, at7, o7⟩
      have hS1 := hS.trans (o7.mono (fun _ _ h => h.elim)) (fun _ _ h => h)
      refine hK'.out _ _ hS1 (fun hS => ?_)
      clear hK' K' hS1
      refine take_at (i := 11) 50 (v := .pointer (some ⟨q5, 8, none⟩)) rfl rfl (by kernel_rfl) (by kernel_rfl) (by kernel_rfl) (fun _ _ _ h => h) (Or.inl ⟨by rfl, fun w' hw' => by go_simp⟩) hS ?_
      simp only [Act.put, lsA, lsZ, lsS]
      have MK7 := MK.ins (u := u) (m := kk) (by have := HSW.out; have := szo; have := szf; omega) UK.1 (fun c hc => ⟨by have := (UK.2 c hc).1; have := HSW.out; have := szf; omega, (UK.2 c hc).2⟩) own7 o7 at7
      have BX7 := BX.off o7 (fun h => h)
      obtain ⟨hc7, hc8, hc9⟩ := ins_cont hk1 hk2
      have HST7 : Hid (St1 g (cont l) (cont k) (i + 1) ((cont lo).take kk ++ u.abs :: (cont lo).drop kk)) := st1_ins HST.out HSL.out (cont_get HX.out) (fun z => by rw [HU.out, HFA.out]; exact j0_found HSK.out (List.mem_of_getElem? (cont_get HY.out)) HXY.out z) hc8 hc9
      have hlen7 : (lo.take kk ++ u :: lo.drop kk).length = lo.length + 1 := by simp; omega
      rw [← hc7] at HST7
      generalize hz7 : lo.take kk ++ u :: lo.drop kk = l7 at MK7 HST7 hlen7 ⊢
      obtain ⟨x0, x1, x2, x3, x4, x5, x6, x7, x8⟩ := cel9 BX7
      have fz := BX7.free
      have HLEN : Hid _ := hlen7
      clear hlen7
      refine wpAnyH_ready (rs := [12]) (by kernel_rfl) (by simp) ?_
      refine AllReadyH.cons rfl (fun K' hK' => ?_) AllReadyH.nil
      go_simp
      have hS3 := hS.setCell (p := ⟨q5, 8, none⟩) (.inl rfl) (.slice a7 l7.length c7)
      refine hK'.out _ _ hS3 (fun hS => ?_)
      clear hK' K' hS3
      refine wpAnyH_done (by kernel_rfl) ?_ _
      clear x0 x1 x2 x3 x4 x5 x6 x7 x8 fz
      have BX8 := BX7.set 8 (.slice a7 l7.length c7)
      simp only [lsA, lsZ, lsS] at BX8
      have MK8 := MK7.off ((Off.refl (fun c => c = q5) v7).setCell (p := ⟨q5, 8, none⟩) (.inl rfl) (.slice a7 l7.length c7)) (fun k h1 _ h2 => by have := HL5.out; omega)
      have OF := HPO.out.trans hS (fun k _ h => h)
      generalize hv9 : v7.setCell ⟨q5, 8, none⟩ (.slice a7 l7.length c7) = v9 at BX8 MK8 OF ⊢
      have HB8 : Hid _ := BX8
      have HM8 : Hid _ := MK8
      have HOF : Hid _ := OF
      clear BX7 BX8 MK7 MK8 OF hS hv9 own7 at7 o7 hk hk1 hk2 hz7 MK BX UK szo hc7 hc8 hc9
      go_wp2_with fail
      go_roundw
      case rel => exact ⟨i + 1, l7, a7, c7, by go_num, by omega, HB8.out, HM8.out, by have := HLEN.out; omega, HST7.out, HOF.out⟩
      case measure => simp [intOf]; omega
     ·go_simp
      refine (copied_any fv _ FK).mono ?_
      rintro e vb ⟨u, rfl, hu, uo, uk, un, o1⟩
      have hS1 := hS.trans (o1.mono (fun _ _ h => h.elim)) (fun _ _ h => h)
      refine hK'.out _ _ hS1 (fun hS => ?_)
      clear hK' K' hS1
      replace BX := BX.off o1 (fun h => h)
      replace MK := MK.free o1
      have UK : VOk vb u ∧ ∀ k, blk u.ad = some k → vf.heap.size ≤ k ∧ k < vb.heap.size := ⟨uk, fun k hk => ⟨un k hk, uo.lt k hk⟩⟩
      have HU : Hid (u.abs = fv.abs) := hu
      have szo := o1.size
      clear uo uk un hu o1
      refine wpAnyH_ready (rs := [1]) (by kernel_rfl) (by simp) ?_
      refine AllReadyH.cons rfl (fun K' hK' => ?_) AllReadyH.nil
      obtain ⟨x0, x1, x2, x3, x4, x5, x6, x7, x8⟩ := cel9 BX
      go_simp
      refine hK'.out _ _ hS (fun hS => ?_)
      clear hK' K' x0 x1 x2 x3 x4 x5 x6 x7 x8
      refine wpAnyH_ready (rs := [10]) (by kernel_rfl) (by simp) ?_
      refine AllReadyH.cons rfl (fun K' hK' => ?_) AllReadyH.nil
      go_simp
      refine (insert_any ao co lo u _ MK.row MK.own.zero UK.1 (by omega)).mono ?_
      rintro e v7 ⟨kk, a7, c7, rfl, hk, hk1, hk2, own7, at7, o7⟩
      have hS1 := hS.trans (o7.mono (fun _ _ h => h.elim)) (fun _ _ h => h)
      refine hK'.out _ _ hS1 (fun hS => ?_)
      clear hK' K' hS1
      refine take_at (i := 11) 50 (v := .pointer (some ⟨q5, 8, none⟩)) rfl rfl (by kernel_rfl) (by kernel_rfl) (by kernel_rfl) (fun _ _ _ h => h) (Or.inl ⟨by rfl, fun w' hw' => by go_simp⟩) hS ?_
      simp only [Act.put, lsA, lsZ, lsS]
      have MK7 := MK.ins (u := u) (m := kk) (by have := HSW.out; have := szo; have := szf; omega) UK.1 (fun c hc => ⟨by have := (UK.2 c hc).1; have := HSW.out; have := szf; omega, (UK.2 c hc).2⟩) own7 o7 at7
      have BX7 := BX.off o7 (fun h => h)
      obtain ⟨hc7, hc8, hc9⟩ := ins_cont hk1 hk2
      have HST7 : Hid (St1 g (cont l) (cont k) (i + 1) ((cont lo).take kk ++ u.abs :: (cont lo).drop kk)) := st1_ins HST.out HSL.out (cont_get HX.out) (fun z => by rw [HU.out, HFA.out]; exact j0_found HSK.out (List.mem_of_getElem? (cont_get HY.out)) HXY.out z) hc8 hc9
      have hlen7 : (lo.take kk ++ u :: lo.drop kk).length = lo.length + 1 := by simp; omega
      rw [← hc7] at HST7
      generalize hz7 : lo.take kk ++ u :: lo.drop kk = l7 at MK7 HST7 hlen7 ⊢
      obtain ⟨x0, x1, x2, x3, x4, x5, x6, x7, x8⟩ := cel9 BX7
      have fz := BX7.free
      have HLEN : Hid _ := hlen7
      clear hlen7
      refine wpAnyH_ready (rs := [12]) (by kernel_rfl) (by simp) ?_
      refine AllReadyH.cons rfl (fun K' hK' => ?_) AllReadyH.nil
      go_simp
      have hS3 := hS.setCell (p := ⟨q5, 8, none⟩) (.inl rfl) (.slice a7 l7.length c7)
      refine hK'.out _ _ hS3 (fun hS => ?_)
      clear hK' K' hS3
      refine wpAnyH_done (by kernel_rfl) ?_ _
      clear x0 x1 x2 x3 x4 x5 x6 x7 x8 fz
      have BX8 := BX7.set 8 (.slice a7 l7.length c7)
      simp only [lsA, lsZ, lsS] at BX8
      have MK8 := MK7.off ((Off.refl (fun c => c = q5) v7).setCell (p := ⟨q5, 8, none⟩) (.inl rfl) (.slice a7 l7.length c7)) (fun k h1 _ h2 => by have := HL5.out; omega)
      have OF := HPO.out.trans hS (fun k _ h => h)
      generalize hv9 : v7.setCell ⟨q5, 8, none⟩ (.slice a7 l7.length c7) = v9 at BX8 MK8 OF ⊢
      have HB8 : Hid _ := BX8
      have HM8 : Hid _ := MK8
      have HOF : Hid _ := OF
      clear BX7 BX8 MK7 MK8 OF hS hv9 own7 at7 o7 hk hk1 hk2 hz7 MK BX UK szo hc7 hc8 hc9
      go_wp2_with fail
      go_roundw
      case rel => exact ⟨i + 1, l7, a7, c7, by go_num, by omega, HB8.out, HM8.out, by have := HLEN.out; omega, HST7.out, HOF.out⟩
      case measure => simp [intOf]; omega
  ·have i1 : decide ((i : Int) < (l.length : Int)) = false := decide_eq_false (by omega)
   have i2 : decide (i < l.length) = false := decide_eq_false hil
   have HST2 : Hid (St2 f g (cont l) (cont k) 0 (cont lo)) := st2_zero HST.out (by rw [cont_len]; omega)
   clear HST
   obtain ⟨x0, x1, x2, x3, x4, x5, x6, x7, x8⟩ := cel9 (H18.out.off HPO.out (fun e => HN5.out.2.2 e))
   go_wp2_with fail
   clear x0 x1 x2 x3 x4 x5 x6 x7 x8 i1 i2
   go_loopw [67] (fun y wr => ∃ (i : Nat) (lo : List V) (ao : Option Addr) (co : Nat), y = .int .i64 (i : Int) ∧ i ≤ k.length ∧ Cel q5 33 #[.int .i64 (h 0), .int .i64 (h 1), .int .i64 (h 2), .int .i64 (h 3), .int .i64 (h 4), .int .i64 (h 5), .int .i64 (h 6), .int .i64 (h 7), .slice ao lo.length co] wr ∧ Mk w8.heap.size wr ao co lo ∧ lo.length ≤ l.length + i ∧ St2 f g (cont l) (cont k) i (cont lo) ∧ Off (fun c => c = q5) w8 wr) (fun y _ => (k.length - intOf y).toNat)
   case atStart => exact ⟨0, lo, ao, co, rfl, by omega, HBX.out, HMK.out, by omega, HST2.out, HPO.out⟩
   case round =>
    clear HBX HMK HPO HST2 HOW
    obtain ⟨i, lo, ao, co, rfl, hi, bx, mk, hlol, hst, po⟩ := hrel
    have HBX : Hid _ := bx
    have HMK : Hid _ := mk
    have HST : Hid _ := hst
    have HPO : Hid (Off (fun c => c = q5) w8 wr) := po
    have HOW : Hid (Off (fun c => W.heap.size ≤ c) W wr) := (HO6.out.mono (fun _ _ h => h.elim)).trans po (fun k _ e => by rw [e]; exact HQ5.out.2)
    clear bx mk hst po
    by_cases hil : i < k.length
    ·have i1 : decide ((i : Int) < (k.length : Int)) = true := decide_eq_true (by omega)
     have i2 : decide (i < k.length) = true := decide_eq_true hil
     obtain ⟨x, hx⟩ : ∃ x, k[i]? = some x := ⟨_, List.getElem?_eq_getElem hil⟩
     obtain ⟨ba, fa, hay, h4, hvx⟩ := HRB.out.at_ i x hx
     have HX : Hid _ := hx
     have HVW : Hid _ := hvx
     obtain ⟨c0, c1, c2, c3⟩ := h4.off HOW.out (fun hb h => by omega)
     clear hx h4 hvx
     have HAY : Hid _ := hay
     subst hay
     go_upto_region 16 with fail
     have CX := Cel.new wr 92 #[.int .i64 x.node, .int .i64 x.num, .slice x.ad x.data.length x.cap, .bool x.dead]
     have OA : Off (fun _ => False) wr (wr.alloc (.cells #[.int .i64 x.node, .int .i64 x.num, .slice x.ad x.data.length x.cap, .bool x.dead] 92)) := (Off.refl _ wr).alloc _
     have lbx := HBX.out.lt
     generalize hq : wr.heap.size = qx at CX lbx ⊢
     generalize hv : wr.alloc (.cells #[.int .i64 x.node, .int .i64 x.num, .slice x.ad x.data.length x.cap, .bool x.dead] 92) = vx at CX OA ⊢
     have HQX : Hid (¬ qx = q5) := by show ¬ qx = q5; omega
     clear hv hq c0 c1 c2 c3
     have HBX0 : Hid _ := HBX.out.off OA (fun h => h)
     have HMK0 : Hid _ := HMK.out.free OA
     have HPO0 : Hid (Off (fun c => c = q5) w8 vx) := HPO.out.trans (OA.mono (fun _ _ h => h.elim)) (fun _ _ h => h)
     have HOW0 : Hid (Off (fun c => W.heap.size ≤ c) W vx) := HOW.out.trans (OA.mono (fun _ _ h => h.elim)) (fun _ _ h => h)
     clear HBX HMK HPO HOW lbx OA
     obtain ⟨x0, x1, x2, x3, x4, x5, x6, x7, x8⟩ := cel9 (H08.out.off HPO0.out (fun e => HN5.out.1 e))
     obtain ⟨e0, e1, e2, e3⟩ := cel4 CX
     have HCX0 : Hid _ := CX
     go_wp2_with fail
     clear x0 x1 x2 x3 x4 x5 x6 x7 x8 e0 e1 e2 e3 CX
     refine (find_any f a ca l x.node x.num _ (HRA.out.offD HOW0.out (fun c hc _ h => by omega) (fun v hv c hc _ h => by omega))).mono ?_
     rintro e w9 ⟨r, rfl, hr, o9⟩
     have HBX1 : Hid _ := HBX0.out.off o9 (fun h => h)
     have HMK1 : Hid _ := HMK0.out.free o9
     have HPO1 : Hid (Off (fun c => c = q5) w8 w9) := HPO0.out.trans (o9.mono (fun _ _ h => h.elim)) (fun _ _ h => h)
     have HOW1 : Hid (Off (fun c => W.heap.size ≤ c) W w9) := HOW0.out.trans (o9.mono (fun _ _ h => h.elim)) (fun _ _ h => h)
     have HCX1 : Hid _ := HCX0.out.off o9 (fun h => h)
     clear o9 HBX0 HMK0 HPO0 HOW0 HCX0
     rcases hr with ⟨rfl, hno⟩ | ⟨j, y, rfl, hy, hyn, hyN⟩
     ·have HNO : Hid (∀ y ∈ cont l, ¬ EQ y x.abs) := abs_none hno
      clear hno
      obtain ⟨x0, x1, x2, x3, x4, x5, x6, x7, x8⟩ := cel9 (H08.out.off HPO1.out (fun e => HN5.out.1 e))
      obtain ⟨e0, e1, e2, e3⟩ := cel4 HCX1.out
      cases hcv : coversB f x.node x.num
      ·go_wp2_with fail
       clear x0 x1 x2 x3 x4 x5 x6 x7 x8 e0 e1 e2 e3
       refine (fcovers_any f x.node x.num _).mono ?_
       rw [hcv]
       rintro e v1 ⟨rfl, o1⟩
       have HBX : Hid _ := HBX1.out.off o1 (fun h => h)
       have HMK : Hid _ := HMK1.out.free o1
       have HPO : Hid (Off (fun c => c = q5) w8 v1) := HPO1.out.trans (o1.mono (fun _ _ h => h.elim)) (fun _ _ h => h)
       have HOW : Hid (Off (fun c => W.heap.size ≤ c) W v1) := HOW1.out.trans (o1.mono (fun _ _ h => h.elim)) (fun _ _ h => h)
       have HCX : Hid _ := HCX1.out.off o1 (fun h => h)
       have HVX : Hid (∀ w', Off (fun c => c = q5) v1 w' → VOk w' x) := fun w' o => HVW.out.off (HOW.out.trans o (fun k _ e => by rw [e]; exact HQ5.out.2)) (fun c hc _ h => by omega)
       clear o1 HBX1 HMK1 HPO1 HOW1 HCX1
       go_upto_region 17 with fail
       have HSW : Hid (w8.heap.size ≤ v1.heap.size) := HPO.out.size
       refine wp_region_held_drew (S := fun w' => Off (fun c => c = q5) v1 w') (by kernel_rfl) ((Off.refl _ v1).drew) (fun hS => ?_)
       have BX := HBX.out.drew
       have MK := HMK.out.free ((Off.refl _ v1).drew)
       have hv1 : v1.heap.size ≤ v1.drew.heap.size := Nat.le_refl _
       generalize hdr : v1.drew = va at BX MK hS hv1 ⊢
       clear hdr
       refine take_at (i := 0) 84 (v := .pointer (some ⟨q5, 8, none⟩)) rfl rfl (by kernel_rfl) (by kernel_rfl) (by kernel_rfl) (fun _ _ _ h => h) (Or.inl ⟨by rfl, fun w' hw' => by go_simp⟩) hS ?_
       simp only [Act.put, lsA, lsZ, lsS]
       refine take_at (i := 2) 86 (v := .agg #[.int .i64 x.node, .int .i64 x.num, .slice x.ad x.data.length x.cap, .bool x.dead]) rfl rfl (by kernel_rfl) (by kernel_rfl) (by kernel_rfl) (fun _ _ _ h => h) (Or.inl ⟨by rfl, fun w' hw' => by obtain ⟨x0, x1, x2, x3⟩ := cel4 (HCX.out.off hw' (fun h => HQX.out h)); go_simp⟩) hS ?_
       simp only [Act.put, lsA, lsZ, lsS]
       refine wpAnyH_ready (rs := [1, 3]) (by kernel_rfl) (by simp) ?_
       refine AllReadyH.cons rfl (fun K' hK' => ?_) (AllReadyH.cons rfl (fun K' hK' => ?_) AllReadyH.nil)
       ·obtain ⟨x0, x1, x2, x3, x4, x5, x6, x7, x8⟩ := cel9 BX
        go_simp
        refine hK'.out _ _ hS (fun hS => ?_)
        clear hK' K' x0 x1 x2 x3 x4 x5 x6 x7 x8
        refine wpAnyH_ready (rs := [3]) (by kernel_rfl) (by simp) ?_
        refine AllReadyH.cons rfl (fun K' hK' => ?_) AllReadyH.nil
        go_simp
        refine (copied_any x _ (HVX.out _ hS)).mono ?_
        rintro e vb ⟨u, rfl, hu, uo, uk, un, o1⟩
        have hS1 := hS.trans (o1.mono (fun _ _ h => h.elim)) (fun _ _ h => h)
        refine hK'.out _ _ hS1 (fun hS => ?_)
        clear hK' K' hS1
        replace BX := BX.off o1 (fun h => h)
        replace MK := MK.free o1
        have UK : VOk vb u ∧ ∀ k, blk u.ad = some k → va.heap.size ≤ k ∧ k < vb.heap.size := ⟨uk, fun k hk => ⟨un k hk, uo.lt k hk⟩⟩
        have HU : Hid (u.abs = x.abs) := hu
        have szo := o1.size
        clear uo uk un hu o1
        refine wpAnyH_ready (rs := [4]) (by kernel_rfl) (by simp) ?_
        refine AllReadyH.cons rfl (fun K' hK' => ?_) AllReadyH.nil
        go_simp
        refine (insert_any ao co lo u _ MK.row MK.own.zero UK.1 (by omega)).mono ?_
        rintro e v7 ⟨kk, a7, c7, rfl, hk, hk1, hk2, own7, at7, o7⟩
        have hS1 := hS.trans (o7.mono (fun _ _ h => h.elim)) (fun _ _ h => h)
        refine hK'.out _ _ hS1 (fun hS => ?_)
        clear hK' K' hS1
        refine take_at (i := 5) 89 (v := .pointer (some ⟨q5, 8, none⟩)) rfl rfl (by kernel_rfl) (by kernel_rfl) (by kernel_rfl) (fun _ _ _ h => h) (Or.inl ⟨by rfl, fun w' hw' => by go_simp⟩) hS ?_
        simp only [Act.put, lsA, lsZ, lsS]
        have MK7 := MK.ins (u := u) (m := kk) (by have := HSW.out; have := szo; omega) UK.1 (fun c hc => ⟨by have := (UK.2 c hc).1; have := HSW.out; omega, (UK.2 c hc).2⟩) own7 o7 at7
        have BX7 := BX.off o7 (fun h => h)
        obtain ⟨hc7, hc8, hc9⟩ := ins_cont hk1 hk2
        have HST7 : Hid (St2 f g (cont l) (cont k) (i + 1) ((cont lo).take kk ++ u.abs :: (cont lo).drop kk)) := by
         have hu := HU.out
         rw [hu] at hc8 hc9 ⊢
         exact st2_ins HST.out HSK.out (cont_get HX.out) HNO.out (by simp only [nc, V.abs, hcv]; rfl) hc8 hc9
        have hlen7 : (lo.take kk ++ u :: lo.drop kk).length = lo.length + 1 := by simp; omega
        rw [← hc7] at HST7
        generalize hz7 : lo.take kk ++ u :: lo.drop kk = l7 at MK7 HST7 hlen7 ⊢
        obtain ⟨x0, x1, x2, x3, x4, x5, x6, x7, x8⟩ := cel9 BX7
        have fz := BX7.free
        have HLEN : Hid _ := hlen7
        clear hlen7
        refine wpAnyH_ready (rs := [6]) (by kernel_rfl) (by simp) ?_
        refine AllReadyH.cons rfl (fun K' hK' => ?_) AllReadyH.nil
        go_simp
        have hS3 := hS.setCell (p := ⟨q5, 8, none⟩) (.inl rfl) (.slice a7 l7.length c7)
        refine hK'.out _ _ hS3 (fun hS => ?_)
        clear hK' K' hS3
        refine wpAnyH_done (by kernel_rfl) ?_ _
        clear x0 x1 x2 x3 x4 x5 x6 x7 x8 fz
        have BX8 := BX7.set 8 (.slice a7 l7.length c7)
        simp only [lsA, lsZ, lsS] at BX8
        have MK8 := MK7.off ((Off.refl (fun c => c = q5) v7).setCell (p := ⟨q5, 8, none⟩) (.inl rfl) (.slice a7 l7.length c7)) (fun k h1 _ h2 => by have := HL5.out; omega)
        have OF := HPO.out.trans hS (fun k _ h => h)
        generalize hv9 : v7.setCell ⟨q5, 8, none⟩ (.slice a7 l7.length c7) = v9 at BX8 MK8 OF ⊢
        have HB8 : Hid _ := BX8
        have HM8 : Hid _ := MK8
        have HOF : Hid _ := OF
        clear BX7 BX8 MK7 MK8 OF hS hv9 own7 at7 o7 hk hk1 hk2 hz7 MK BX UK szo hc7 hc8 hc9
        go_wp2_with fail
        go_roundw
        case rel => exact ⟨i + 1, l7, a7, c7, by go_num, by omega, HB8.out, HM8.out, by have := HLEN.out; omega, HST7.out, HOF.out⟩
        case measure => simp [intOf]; omega
       ·go_simp
        refine (copied_any x _ (HVX.out _ hS)).mono ?_
        rintro e vb ⟨u, rfl, hu, uo, uk, un, o1⟩
        have hS1 := hS.trans (o1.mono (fun _ _ h => h.elim)) (fun _ _ h => h)
        refine hK'.out _ _ hS1 (fun hS => ?_)
        clear hK' K' hS1
        replace BX := BX.off o1 (fun h => h)
        replace MK := MK.free o1
        have UK : VOk vb u ∧ ∀ k, blk u.ad = some k → va.heap.size ≤ k ∧ k < vb.heap.size := ⟨uk, fun k hk => ⟨un k hk, uo.lt k hk⟩⟩
        have HU : Hid (u.abs = x.abs) := hu
        have szo := o1.size
        clear uo uk un hu o1
        refine wpAnyH_ready (rs := [1]) (by kernel_rfl) (by simp) ?_
        refine AllReadyH.cons rfl (fun K' hK' => ?_) AllReadyH.nil
        obtain ⟨x0, x1, x2, x3, x4, x5, x6, x7, x8⟩ := cel9 BX
        go_simp
        refine hK'.out _ _ hS (fun hS => ?_)
        clear hK' K' x0 x1 x2 x3 x4 x5 x6 x7 x8
        refine wpAnyH_ready (rs := [4]) (by kernel_rfl) (by simp) ?_
        refine AllReadyH.cons rfl (fun K' hK' => ?_) AllReadyH.nil
        go_simp
        refine (insert_any ao co lo u _ MK.row MK.own.zero UK.1 (by omega)).mono ?_
        rintro e v7 ⟨kk, a7, c7, rfl, hk, hk1, hk2, own7, at7, o7⟩
        have hS1 := hS.trans (o7.mono (fun _ _ h => h.elim)) (fun _ _ h => h)
        refine hK'.out _ _ hS1 (fun hS => ?_)
        clear hK' K' hS1
        refine take_at (i := 5) 89 (v := .pointer (some ⟨q5, 8, none⟩)) rfl rfl (by kernel_rfl) (by kernel_rfl) (by kernel_rfl) (fun _ _ _ h => h) (Or.inl ⟨by rfl, fun w' hw' => by go_simp⟩) hS ?_
        simp only [Act.put, lsA, lsZ, lsS]
        have MK7 := MK.ins (u := u) (m := kk) (by have := HSW.out; have := szo; omega) UK.1 (fun c hc => ⟨by have := (UK.2 c hc).1; have := HSW.out; omega, (UK.2 c hc).2⟩) own7 o7 at7
        have BX7 := BX.off o7 (fun h => h)
        obtain ⟨hc7, hc8, hc9⟩ := ins_cont hk1 hk2
        have HST7 : Hid (St2 f g (cont l) (cont k) (i + 1) ((cont lo).take kk ++ u.abs :: (cont lo).drop kk)) := by
         have hu := HU.out
         rw [hu] at hc8 hc9 ⊢
         exact st2_ins HST.out HSK.out (cont_get HX.out) HNO.out (by simp only [nc, V.abs, hcv]; rfl) hc8 hc9
        have hlen7 : (lo.take kk ++ u :: lo.drop kk).length = lo.length + 1 := by simp; omega
        rw [← hc7] at HST7
        generalize hz7 : lo.take kk ++ u :: lo.drop kk = l7 at MK7 HST7 hlen7 ⊢
        obtain ⟨x0, x1, x2, x3, x4, x5, x6, x7, x8⟩ := cel9 BX7
        have fz := BX7.free
        have HLEN : Hid _ := hlen7
        clear hlen7
        refine wpAnyH_ready (rs := [6]) (by kernel_rfl) (by simp) ?_
        refine AllReadyH.cons rfl (fun K' hK' => ?_) AllReadyH.nil
        go_simp
        have hS3 := hS.setCell (p := ⟨q5, 8, none⟩) (.inl rfl) (.slice a7 l7.length c7)
        refine hK'.out _ _ hS3 (fun hS => ?_)
        clear hK' K' hS3
        refine wpAnyH_done (by kernel_rfl) ?_ _
        clear x0 x1 x2 x3 x4 x5 x6 x7 x8 fz
        have BX8 := BX7.set 8 (.slice a7 l7.length c7)
        simp only [lsA, lsZ, lsS] at BX8
        have MK8 := MK7.off ((Off.refl (fun c => c = q5) v7).setCell (p := ⟨q5, 8, none⟩) (.inl rfl) (.slice a7 l7.length c7)) (fun k h1 _ h2 => by have := HL5.out; omega)
        have OF := HPO.out.trans hS (fun k _ h => h)
        generalize hv9 : v7.setCell ⟨q5, 8, none⟩ (.slice a7 l7.length c7) = v9 at BX8 MK8 OF ⊢
        have HB8 : Hid _ := BX8
        have HM8 : Hid _ := MK8
        have HOF : Hid _ := OF
        clear BX7 BX8 MK7 MK8 OF hS hv9 own7 at7 o7 hk hk1 hk2 hz7 MK BX UK szo hc7 hc8 hc9
        go_wp2_with fail
        go_roundw
        case rel => exact ⟨i + 1, l7, a7, c7, by go_num, by omega, HB8.out, HM8.out, by have := HLEN.out; omega, HST7.out, HOF.out⟩
        case measure => simp [intOf]; omega
      ·go_wp2_with fail
       clear x0 x1 x2 x3 x4 x5 x6 x7 x8 e0 e1 e2 e3
       refine (fcovers_any f x.node x.num _).mono ?_
       rw [hcv]
       rintro e v1 ⟨rfl, o1⟩
       have HBX : Hid _ := HBX1.out.off o1 (fun h => h)
       have HMK : Hid _ := HMK1.out.free o1
       have HPO : Hid (Off (fun c => c = q5) w8 v1) := HPO1.out.trans (o1.mono (fun _ _ h => h.elim)) (fun _ _ h => h)
       have HOW : Hid (Off (fun c => W.heap.size ≤ c) W v1) := HOW1.out.trans (o1.mono (fun _ _ h => h.elim)) (fun _ _ h => h)
       have HCX : Hid _ := HCX1.out.off o1 (fun h => h)
       have HST7 : Hid (St2 f g (cont l) (cont k) (i + 1) (cont lo)) := st2_skip HST.out (cont_get HX.out) (.inr (by simp only [nc, V.abs, hcv]; rfl))
       clear o1 HBX1 HMK1 HPO1 HOW1 HCX1
       go_wp2_with fail
       go_roundw
       case rel => exact ⟨i + 1, lo, ao, co, by go_num, by omega, HBX.out, HMK.out, by omega, HST7.out, HPO.out⟩
       case measure => simp [intOf]; omega
     ·have HST7 : Hid (St2 f g (cont l) (cont k) (i + 1) (cont lo)) := st2_skip HST.out (cont_get HX.out) (.inl ⟨y.abs, List.mem_of_getElem? (cont_get hy), hyn, hyN⟩)
      have j3 : decide ((j : Int) < 0) = false := decide_eq_false (by omega)
      have HBX : Hid _ := HBX1.out
      have HMK : Hid _ := HMK1.out
      have HPO : Hid (Off (fun c => c = q5) w8 w9) := HPO1.out
      clear HBX1 HMK1 HPO1 HOW1 HCX1 hy hyn hyN
      go_wp2_with fail
      go_roundw
      case rel => exact ⟨i + 1, lo, ao, co, by go_num, by omega, HBX.out, HMK.out, by omega, HST7.out, HPO.out⟩
      case measure => simp [intOf]; omega
    ·have i1 : decide ((i : Int) < (k.length : Int)) = false := decide_eq_false (by omega)
     have i2 : decide (i < k.length) = false := decide_eq_false hil
     have HVN : Hid (∀ v ∈ lo, ∀ c, blk v.ad = some c → w8.heap.size ≤ c) := fun v hv c hc => ((HMK.out.val v hv).2 c hc).1
     rw [show i = k.length by omega] at HST
     have HM : Hid (cont lo = mergeA (nc g) (nc f) (cont l) (cont k)) := st2_done HST.out (by rw [cont_len]) HSL.out HSK.out
     obtain ⟨x0, x1, x2, x3, x4, x5, x6, x7, x8⟩ := cel9 HBX.out
     have H2F : Hid _ := H28.out.off HPO.out (fun e => HN5.out.2.1 e)
     by_cases h16 : 16 < lo.length
     ·have e1 : decide ((16 : Int) < (lo.length : Int)) = true := decide_eq_true (by omega)
      have e2 : decide (16 < lo.length) = true := decide_eq_true h16
      obtain ⟨hsl, -⟩ := HMK.out.row.slh (k := 16) (by omega)
      have fq := HBX.out.free
      have hlt : (lo.take 16).length ≤ 16 := by simp; omega
      have HL7 : Hid (cont (lo.take 16) = joinL f g (cont l) (cont k)) := by
       show _ = _
       simp only [joinL, m1, m2, and_self, if_true]
       rw [← HM.out]
       simp [cont, List.map_take]
      have HSUB : Hid (∀ v ∈ lo.take 16, v ∈ lo) := fun v hv => List.mem_of_mem_take hv
      have HR7 : Hid (Row wr ao co (lo.take 16)) := (HMK.out.row.slh (k := 16) (by omega)).2
      have hsl : ∀ W, (Instr.slice 31 (.slice ao lo.length co) none (some (.int .i64 16)) none).run Try.prog W = .ok (.slice ao (lo.take 16).length co) W := hsl
      generalize hl7 : lo.take 16 = l7 at hsl HL7 HR7 hlt HSUB
      clear hl7
      go_upto_region 21 with fail
      clear x0 x1 x2 x3 x4 x5 x6 x7 x8 fq hsl
      have BX8 := HBX.out.set 8 (.slice ao l7.length co)
      simp only [lsA, lsZ, lsS] at BX8
      have OS : Off (fun c => c = q5) wr (wr.setCell ⟨q5, 8, none⟩ (.slice ao l7.length co)) := (Off.refl (fun c => c = q5) wr).setCell (p := ⟨q5, 8, none⟩) (.inl rfl) _
      have hrow : Row (wr.setCell ⟨q5, 8, none⟩ (.slice ao l7.length co)) ao co l7 := HR7.out.offD OS (fun c _ hc e => by have := HMK.out.lo c hc; have := HL5.out; omega) (fun v hv c _ hc e => by have := HVN.out v (HSUB.out v hv) c hc; have := HL5.out; omega)
      generalize hv9 : wr.setCell ⟨q5, 8, none⟩ (.slice ao l7.length co) = v9 at BX8 OS hrow ⊢
      clear hv9
      have HR9 : Hid _ := hrow
      have D2 := H2F.out.off OS (fun e => HN5.out.2.1 e)
      have HOF : Hid _ := HPO.out.trans OS (fun _ _ h => h)
      clear OS hrow
      obtain ⟨x0, x1, x2, x3, x4, x5, x6, x7, x8⟩ := cel9 BX8
      obtain ⟨y0, y1, y2, y3, y4, y5, y6, y7, y8⟩ := cel9 D2
      have fz := D2.free
      go_wp2_with fail
      have E2 := D2.st9 h (.slice ao l7.length co)
      have OE := (((HO.out.trans HO6.out (fun _ _ h => h)).mono (fun _ _ h => h.elim)).trans HOF.out (fun _ _ h => h)).mono (E := fun _ => False) (fun j hj e => by have := HQ5.out.1; omega)
      refine bodyPost_ret (results_sibs rfl rfl E2) rfl ?_
      have hx : ∀ j, j < 8 → h j = joinV f g (cont l) (cont k) j := by
       intro j hj
       rw [HHE.out j hj]
       simp [joinV, m1, m2]
      have hsz := (HO.out.trans HO6.out (fun _ _ h => h)).size
      refine ⟨joinV f g (cont l) (cont k), ao, co, l7, by rw [vec_ext hx], rfl, HL7.out, ?_, OE.st9 (b := q2) (.inr HQ.out) h _, fun c hc => Nat.le_trans hsz (HMK.out.lo c hc), fun v hv c hc => Nat.le_trans hsz (HVN.out v (HSUB.out v hv) c hc)⟩
      refine HR9.out.offD ((Off.refl (fun c => c = q2) v9).st9 (.inl rfl) h _) (fun c _ hc e => ?_) (fun v hv c _ hc e => ?_)
      ·have := HMK.out.lo c hc
       have := H28.out.lt
       omega
      ·have := HVN.out v (HSUB.out v hv) c hc
       have := H28.out.lt
       omega
     ·have e1 : decide ((16 : Int) < (lo.length : Int)) = false := decide_eq_false (by omega)
      have e2 : decide (16 < lo.length) = false := decide_eq_false h16
      have HL7 : Hid (cont lo = joinL f g (cont l) (cont k)) := by
       show _ = _
       simp only [joinL, m1, m2, and_self, if_true]
       rw [← HM.out, List.take_of_length_le (by rw [cont_len]; omega)]
      have HR9 : Hid _ := HMK.out.row
      have D2 := H2F.out
      have HOF : Hid _ := HPO.out
      go_upto_region 21 with fail
      clear x0 x1 x2 x3 x4 x5 x6 x7 x8
      have BX8 := HBX.out
      obtain ⟨x0, x1, x2, x3, x4, x5, x6, x7, x8⟩ := cel9 BX8
      obtain ⟨y0, y1, y2, y3, y4, y5, y6, y7, y8⟩ := cel9 D2
      have fz := D2.free
      go_wp2_with fail
      have E2 := D2.st9 h (.slice ao lo.length co)
      have OE := (((HO.out.trans HO6.out (fun _ _ h => h)).mono (fun _ _ h => h.elim)).trans HOF.out (fun _ _ h => h)).mono (E := fun _ => False) (fun j hj e => by have := HQ5.out.1; omega)
      refine bodyPost_ret (results_sibs rfl rfl E2) rfl ?_
      have hx : ∀ j, j < 8 → h j = joinV f g (cont l) (cont k) j := by
       intro j hj
       rw [HHE.out j hj]
       simp [joinV, m1, m2]
      have hsz := (HO.out.trans HO6.out (fun _ _ h => h)).size
      refine ⟨joinV f g (cont l) (cont k), ao, co, lo, by rw [vec_ext hx], rfl, HL7.out, ?_, OE.st9 (b := q2) (.inr HQ.out) h _, fun c hc => Nat.le_trans hsz (HMK.out.lo c hc), fun v hv c hc => Nat.le_trans hsz (HVN.out v hv c hc)⟩
      refine HR9.out.offD ((Off.refl (fun c => c = q2) wr).st9 (.inl rfl) h _) (fun c _ hc e => ?_) (fun v hv c _ hc e => ?_)
      ·have := HMK.out.lo c hc
       have := H28.out.lt
       omega
      ·have := HVN.out v hv c hc
       have := H28.out.lt
       omega
end Go.Proofs.Ytmjmgdbhmbjmaaa
