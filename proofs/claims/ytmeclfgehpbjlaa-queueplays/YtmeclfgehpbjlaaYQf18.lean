/- Items of several texts. -/
import Derived.Test.YtmeclfgehpbjlaaYQi18
namespace Go.Proofs.Ytmeclfgehpbjlaa
set_option maxRecDepth 100000
open Go.RowKit
theorem cmpint_any (x y : Int) (w : World) : Calls Try.prog 43 #[.int .i64 x, .int .i64 y] w fun e w' => ∃ r : Int, e = .returned (.int .i64 r) ∧ (r < 0 ↔ x < y) ∧ (r = 0 ↔ x = y) ∧ -1 ≤ r ∧ r ≤ 1 ∧ w' = w := by
 rcases Int.lt_trichotomy x y with h | h | h
 ·have d1 : decide (x < y) = true := decide_eq_true h
  go_enter Try.func43, Try.ntmps43
  go_wp2
  go_ret
  exact ⟨-1, rfl, by omega, by omega, by omega, by omega, rfl⟩
 ·subst h
  have d1 : decide (x < x) = false := decide_eq_false (by omega)
  go_enter Try.func43, Try.ntmps43
  go_wp2
  go_ret
  exact ⟨0, rfl, by simp, by simp, by omega, by omega, rfl⟩
 ·have d1 : decide (x < y) = false := decide_eq_false (by omega)
  have d2 : decide (y < x) = true := decide_eq_true h
  go_enter Try.func43, Try.ntmps43
  go_wp2
  go_ret
  exact ⟨1, rfl, by omega, by omega, by omega, by omega, rfl⟩
set_option maxHeartbeats 1000000 in
theorem byBase_any (x y : Wt) (w : World) :
  Calls Try.prog 28 #[(.agg #[.int .i64 x.m.k, .int .i64 x.m.fr, .int .i64 x.m.tn, .int .i64 x.m.op, .int .i64 x.m.fo, .string x.m.key, .int .i64 x.m.bk, .slice x.m.ea x.m.el x.m.ec, .slice x.m.da x.m.dl x.m.dc, .slice x.m.ma x.m.ml x.m.mc, .int .i64 x.base]), (.agg #[.int .i64 y.m.k, .int .i64 y.m.fr, .int .i64 y.m.tn, .int .i64 y.m.op, .int .i64 y.m.fo, .string y.m.key, .int .i64 y.m.bk, .slice y.m.ea y.m.el y.m.ec, .slice y.m.da y.m.dl y.m.dc, .slice y.m.ma y.m.ml y.m.mc, .int .i64 y.base])] w fun e w' => ∃ r : Int, e = .returned (.int .i64 r) ∧ (r < 0 ↔ x.base < y.base) ∧ (r = 0 ↔ x.base = y.base) ∧ -1 ≤ r ∧ r ≤ 1 ∧ Off (fun _ => False) w w' := by
 have C0 : Cel w.heap.size 68 #[.int .i64 x.m.k, .int .i64 x.m.fr, .int .i64 x.m.tn, .int .i64 x.m.op, .int .i64 x.m.fo, .string x.m.key, .int .i64 x.m.bk, .slice x.m.ea x.m.el x.m.ec, .slice x.m.da x.m.dl x.m.dc, .slice x.m.ma x.m.ml x.m.mc, .int .i64 x.base] ((w.alloc (.cells #[.int .i64 x.m.k, .int .i64 x.m.fr, .int .i64 x.m.tn, .int .i64 x.m.op, .int .i64 x.m.fo, .string x.m.key, .int .i64 x.m.bk, .slice x.m.ea x.m.el x.m.ec, .slice x.m.da x.m.dl x.m.dc, .slice x.m.ma x.m.ml x.m.mc, .int .i64 x.base] 68)).alloc (.cells #[.int .i64 y.m.k, .int .i64 y.m.fr, .int .i64 y.m.tn, .int .i64 y.m.op, .int .i64 y.m.fo, .string y.m.key, .int .i64 y.m.bk, .slice y.m.ea y.m.el y.m.ec, .slice y.m.da y.m.dl y.m.dc, .slice y.m.ma y.m.ml y.m.mc, .int .i64 y.base] 68)) := (Cel.new w _ _).alloc _
 have C1 : Cel (w.heap.size + 1) 68 #[.int .i64 y.m.k, .int .i64 y.m.fr, .int .i64 y.m.tn, .int .i64 y.m.op, .int .i64 y.m.fo, .string y.m.key, .int .i64 y.m.bk, .slice y.m.ea y.m.el y.m.ec, .slice y.m.da y.m.dl y.m.dc, .slice y.m.ma y.m.ml y.m.mc, .int .i64 y.base] ((w.alloc (.cells #[.int .i64 x.m.k, .int .i64 x.m.fr, .int .i64 x.m.tn, .int .i64 x.m.op, .int .i64 x.m.fo, .string x.m.key, .int .i64 x.m.bk, .slice x.m.ea x.m.el x.m.ec, .slice x.m.da x.m.dl x.m.dc, .slice x.m.ma x.m.ml x.m.mc, .int .i64 x.base] 68)).alloc (.cells #[.int .i64 y.m.k, .int .i64 y.m.fr, .int .i64 y.m.tn, .int .i64 y.m.op, .int .i64 y.m.fo, .string y.m.key, .int .i64 y.m.bk, .slice y.m.ea y.m.el y.m.ec, .slice y.m.da y.m.dl y.m.dc, .slice y.m.ma y.m.ml y.m.mc, .int .i64 y.base] 68)) := by
  have := Cel.new (w.alloc (.cells #[.int .i64 x.m.k, .int .i64 x.m.fr, .int .i64 x.m.tn, .int .i64 x.m.op, .int .i64 x.m.fo, .string x.m.key, .int .i64 x.m.bk, .slice x.m.ea x.m.el x.m.ec, .slice x.m.da x.m.dl x.m.dc, .slice x.m.ma x.m.ml x.m.mc, .int .i64 x.base] 68)) 68 #[.int .i64 y.m.k, .int .i64 y.m.fr, .int .i64 y.m.tn, .int .i64 y.m.op, .int .i64 y.m.fo, .string y.m.key, .int .i64 y.m.bk, .slice y.m.ea y.m.el y.m.ec, .slice y.m.da y.m.dl y.m.dc, .slice y.m.ma y.m.ml y.m.mc, .int .i64 y.base]
  rwa [World.size_alloc] at this
 have O : Off (fun _ => False) w ((w.alloc (.cells #[.int .i64 x.m.k, .int .i64 x.m.fr, .int .i64 x.m.tn, .int .i64 x.m.op, .int .i64 x.m.fo, .string x.m.key, .int .i64 x.m.bk, .slice x.m.ea x.m.el x.m.ec, .slice x.m.da x.m.dl x.m.dc, .slice x.m.ma x.m.ml x.m.mc, .int .i64 x.base] 68)).alloc (.cells #[.int .i64 y.m.k, .int .i64 y.m.fr, .int .i64 y.m.tn, .int .i64 y.m.op, .int .i64 y.m.fo, .string y.m.key, .int .i64 y.m.bk, .slice y.m.ea y.m.el y.m.ec, .slice y.m.da y.m.dl y.m.dc, .slice y.m.ma y.m.ml y.m.mc, .int .i64 y.base] 68)) := ((Off.refl _ w).alloc _).alloc _
 have c0 := C0.cell 10
 have c1 := C1.cell 10
 clear C0 C1
 have c0' : _ = some (Value.int .i64 x.base) := c0
 have c1' : _ = some (Value.int .i64 y.base) := c1
 clear c0 c1
 go_enter Try.func28, Try.ntmps28
 go_upto_region 1 with fail
 generalize hv : (w.alloc (.cells #[.int .i64 x.m.k, .int .i64 x.m.fr, .int .i64 x.m.tn, .int .i64 x.m.op, .int .i64 x.m.fo, .string x.m.key, .int .i64 x.m.bk, .slice x.m.ea x.m.el x.m.ec, .slice x.m.da x.m.dl x.m.dc, .slice x.m.ma x.m.ml x.m.mc, .int .i64 x.base] 68)).alloc (.cells #[.int .i64 y.m.k, .int .i64 y.m.fr, .int .i64 y.m.tn, .int .i64 y.m.op, .int .i64 y.m.fo, .string y.m.key, .int .i64 y.m.bk, .slice y.m.ea y.m.el y.m.ec, .slice y.m.da y.m.dl y.m.dc, .slice y.m.ma y.m.ml y.m.mc, .int .i64 y.base] 68) = V at *
 clear hv
 have HO : Hid _ := O
 clear O
 go_wp2_with fail
 refine (cmpint_any x.base y.base _).mono ?_
 rintro e w1 ⟨r, rfl, h1, h2, h3, h4, hw⟩
 rw [hw]
 clear hw w1
 have HR : Hid ((r < 0 ↔ x.base < y.base) ∧ (r = 0 ↔ x.base = y.base) ∧ -1 ≤ r ∧ r ≤ 1) := ⟨h1, h2, h3, h4⟩
 clear h1 h2 h3 h4
 go_wp2_with fail
 go_ret
 obtain ⟨h1, h2, h3, h4⟩ := HR.out
 exact ⟨r, rfl, h1, h2, h3, h4, HO.out⟩
def Srd (xs : List Wt) : Prop := xs.Pairwise (fun x y => x.base ≤ y.base)
structure Fdw (xs : List Wt) (k : Int) (n : Nat) : Prop where
 le : n ≤ xs.length
 lo : ∀ i x, i < n → xs[i]? = some x → x.base < k
 hi : ∀ i x, n ≤ i → xs[i]? = some x → k ≤ x.base
set_option maxHeartbeats 2000000 in
theorem qsf_any (a : Option Addr) (cap : Nat) (xs : List Wt) (y : Wt) (w : World) (own : OwnG 68 11 wcs w a cap xs) (hs : Srd xs) (hf : xs.length ≤ 1000) :
  Calls Try.prog 27 #[.slice a xs.length cap, (.agg #[.int .i64 y.m.k, .int .i64 y.m.fr, .int .i64 y.m.tn, .int .i64 y.m.op, .int .i64 y.m.fo, .string y.m.key, .int .i64 y.m.bk, .slice y.m.ea y.m.el y.m.ec, .slice y.m.da y.m.dl y.m.dc, .slice y.m.ma y.m.ml y.m.mc, .int .i64 y.base]), .func (.func 28) #[] #[]] w fun e w' => ∃ (n : Nat) (b : Bool), e = .returned (.tuple #[.int .i64 (n : Int), .bool b]) ∧ Fdw xs y.base n ∧ Off (fun _ => False) w w' := by
 have C := Cel.new w 68 #[.int .i64 y.m.k, .int .i64 y.m.fr, .int .i64 y.m.tn, .int .i64 y.m.op, .int .i64 y.m.fo, .string y.m.key, .int .i64 y.m.bk, .slice y.m.ea y.m.el y.m.ec, .slice y.m.da y.m.dl y.m.dc, .slice y.m.ma y.m.ml y.m.mc, .int .i64 y.base]
 have O : Off (fun _ => False) w (w.alloc (.cells #[.int .i64 y.m.k, .int .i64 y.m.fr, .int .i64 y.m.tn, .int .i64 y.m.op, .int .i64 y.m.fo, .string y.m.key, .int .i64 y.m.bk, .slice y.m.ea y.m.el y.m.ec, .slice y.m.da y.m.dl y.m.dc, .slice y.m.ma y.m.ml y.m.mc, .int .i64 y.base] 68)) := (Off.refl _ w).alloc _
 go_enter Try.func27, Try.ntmps27
 go_upto_region 1 with fail
 have own1 := own.off O (fun _ _ _ h => h)
 generalize hqq : w.heap.size = q at C ⊢
 generalize hv : w.alloc (.cells #[.int .i64 y.m.k, .int .i64 y.m.fr, .int .i64 y.m.tn, .int .i64 y.m.op, .int .i64 y.m.fo, .string y.m.key, .int .i64 y.m.bk, .slice y.m.ea y.m.el y.m.ec, .slice y.m.da y.m.dl y.m.dc, .slice y.m.ma y.m.ml y.m.mc, .int .i64 y.base] 68) = V at C O own1 ⊢
 clear hqq hv own
 have HOW : Hid _ := own1
 have HC : Hid _ := C
 have HO0 : Hid _ := O
 have HS : Hid _ := hs
 clear own1 hs C O
 go_wp2_with fail
 go_loopw [9, 10] (fun y' z wr => ∃ i j : Nat, y' = .int .i64 (i : Int) ∧ z = .int .i64 (j : Int) ∧ i ≤ j ∧ j ≤ xs.length ∧ (∀ n x, n < i → xs[n]? = some x → x.base < y.base) ∧ (∀ n x, j ≤ n → xs[n]? = some x → y.base ≤ x.base) ∧ Off (fun _ => False) V wr) (fun y z _ => (intOf z - intOf y).toNat)
 case atStart => exact ⟨0, xs.length, rfl, rfl, by omega, by omega, fun n x hn => by omega, fun n x hn hx => by
  obtain ⟨h, -⟩ := List.getElem?_eq_some_iff.1 hx
  omega, Off.refl _ V⟩
 case round =>
  obtain ⟨i, j, rfl, rfl, hij, hjl, hlo, hhi, O⟩ := hrel
  have HLO : Hid _ := hlo
  have HHI : Hid _ := hhi
  have HO : Hid _ := O
  clear hlo hhi O
  by_cases hlt : i < j
  ·have e1 : decide ((i : Int) < (j : Int)) = true := decide_eq_true (by omega)
   have e2 : decide (i < j) = true := decide_eq_true hlt
   obtain ⟨h, hh⟩ : ∃ h : Nat, h = (i + j) / 2 := ⟨_, rfl⟩
   have hhi : ((i : Int) + (j : Int)) / 2 = (h : Int) := by omega
   have hh1 : i ≤ h := by omega
   have hh2 : h < j := by omega
   clear hh
   have hhl : h < xs.length := by omega
   obtain ⟨x, hx⟩ : ∃ x, xs[h]? = some x := ⟨_, List.getElem?_eq_getElem hhl⟩
   obtain ⟨g, rfl, hat⟩ := (HOW.out.off HO.out (fun _ _ _ h => h)).atW hx
   have HAT : Hid _ := hat
   have HCY : Hid _ := HC.out.off HO.out (fun h => h)
   have hix := idx_win hhl
   have HX : Hid _ := hx
   clear hat hx
   go_upto_region 5 with fail
   clear hhi
   refine wp_region_held_drew (S := Off (fun _ => False) wr) (by kernel_rfl) ((Off.refl (fun _ => False) wr).drew) (fun hS => ?_)
   refine take_at (i := 0) 24 (v := .func (.func 28) #[] #[]) rfl rfl (by kernel_rfl) (by kernel_rfl) (by kernel_rfl) (fun _ _ _ h => h) (Or.inl ⟨by rfl, fun w' hw' => by go_simp⟩) hS ?_
   simp only [Act.put, lsA, lsZ, lsS]
   refine take_at (i := 1) 25 (v := .slice (some ⟨g, 0, none⟩) xs.length cap) rfl rfl (by kernel_rfl) (by kernel_rfl) (by kernel_rfl) (fun _ _ _ h => h) (Or.inl ⟨by rfl, fun w' hw' => by go_simp⟩) hS ?_
   simp only [Act.put, lsA, lsZ, lsS]
   refine take_at (i := 2) 26 (v := .int .i64 (h : Int)) rfl rfl (by kernel_rfl) (by kernel_rfl) (by kernel_rfl) (fun _ _ _ h => h) (Or.inl ⟨by rfl, fun w' hw' => by go_simp⟩) hS ?_
   simp only [Act.put, lsA, lsZ, lsS]
   refine take_at (i := 3) 27 (v := .pointer (some ⟨g, h * 11, none⟩)) rfl rfl (by kernel_rfl) (by kernel_rfl) (by kernel_rfl) (fun _ _ _ h => h) (Or.inl ⟨by rfl, fun w' hw' => by have := hix cap g w'; go_simp⟩) hS ?_
   simp only [Act.put, lsA, lsZ, lsS]
   refine take_at (i := 4) 28 (v := (.agg #[.int .i64 x.m.k, .int .i64 x.m.fr, .int .i64 x.m.tn, .int .i64 x.m.op, .int .i64 x.m.fo, .string x.m.key, .int .i64 x.m.bk, .slice x.m.ea x.m.el x.m.ec, .slice x.m.da x.m.dl x.m.dc, .slice x.m.ma x.m.ml x.m.mc, .int .i64 x.base])) rfl rfl (by kernel_rfl) (by kernel_rfl) (by kernel_rfl) (fun _ _ _ h => h) (Or.inl ⟨by rfl, fun w' hw' => by obtain ⟨x0, x1, x2, x3, x4, x5, x6, x7, x8, x9, x10⟩ := (HAT.out.off hw' (fun _ h => h)).cells; go_simp⟩) hS ?_
   simp only [Act.put, lsA, lsZ, lsS]
   refine take_at (i := 5) 29 (v := (.agg #[.int .i64 y.m.k, .int .i64 y.m.fr, .int .i64 y.m.tn, .int .i64 y.m.op, .int .i64 y.m.fo, .string y.m.key, .int .i64 y.m.bk, .slice y.m.ea y.m.el y.m.ec, .slice y.m.da y.m.dl y.m.dc, .slice y.m.ma y.m.ml y.m.mc, .int .i64 y.base])) rfl rfl (by kernel_rfl) (by kernel_rfl) (by kernel_rfl) (fun _ _ _ h => h) (Or.inl ⟨by rfl, fun w' hw' => by obtain ⟨y0, y1, y2, y3, y4, y5, y6, y7, y8, y9, y10⟩ := celw11 (HCY.out.off hw' (fun h => h)); go_simp⟩) hS ?_
   simp only [Act.put, lsA, lsZ, lsS]
   refine wpAnyH_ready (rs := [6]) (by kernel_rfl) (by simp) ?_
   refine AllReadyH.cons rfl (fun K' hK' => ?_) AllReadyH.nil
   go_simp
   refine (byBase_any x y _).mono ?_
   rintro e0 W5 ⟨r, rfl, h1, h2, h3, h4, ox⟩
   have HR : Hid (r < 0 ↔ x.base < y.base) := h1
   refine hK'.out _ _ (hS.trans ox (fun _ _ h => h)) (fun hS => ?_)
   clear hK' K' ox h1 h2
   refine take_at (i := 7) 31 (v := .bool (decide (r < 0))) rfl rfl (by kernel_rfl) (by kernel_rfl) (by kernel_rfl) (fun _ _ _ h => h) (Or.inl ⟨by rfl, fun w' hw' => by go_simp⟩) hS ?_
   simp only [Act.put, lsA, lsZ, lsS]
   refine wpAnyH_done (by kernel_rfl) ?_ _
   rename_i w1
   have HO1 : Hid _ := HO.out.trans hS (fun _ _ h => h)
   clear hS hix
   by_cases hr0 : r < 0
   ·have d1 : decide (r < 0) = true := decide_eq_true hr0
    have HP : Hid (x.base < y.base) := HR.out.1 hr0
    go_wp2_with fail
    go_roundw
    case rel =>
     refine ⟨h + 1, j, by go_num, rfl, by omega, by omega, fun n z hn hz => ?_, HHI.out, HO1.out⟩
     by_cases e : n = h
     ·subst e
      rw [HX.out] at hz
      cases hz
      exact HP.out
     ·obtain ⟨l1, e1⟩ := List.getElem?_eq_some_iff.1 hz
      obtain ⟨l2, e2⟩ := List.getElem?_eq_some_iff.1 HX.out
      have := List.pairwise_iff_getElem.1 HS.out n h l1 l2 (by omega)
      rw [e1, e2] at this
      exact Int.lt_of_le_of_lt this HP.out
    case measure => simp [intOf]; omega
   ·have d1 : decide (r < 0) = false := decide_eq_false hr0
    have HP : Hid (y.base ≤ x.base) := by
     show _ ≤ _
     have := HR.out
     omega
    go_wp2_with fail
    go_roundw
    case rel =>
     refine ⟨i, h, rfl, rfl, by omega, by omega, HLO.out, fun n z hn hz => ?_, HO1.out⟩
     by_cases e : n = h
     ·subst e
      rw [HX.out] at hz
      cases hz
      exact HP.out
     ·obtain ⟨l1, e1⟩ := List.getElem?_eq_some_iff.1 hz
      obtain ⟨l2, e2⟩ := List.getElem?_eq_some_iff.1 HX.out
      have := List.pairwise_iff_getElem.1 HS.out h n l2 l1 (by omega)
      rw [e1, e2] at this
      exact Int.le_trans HP.out this
    case measure => simp [intOf]; omega
  ·obtain rfl : i = j := by omega
   have e1 : decide ((i : Int) < (i : Int)) = false := decide_eq_false (by omega)
   have e2 : decide (i < i) = false := decide_eq_false (by omega)
   by_cases hil : i < xs.length
   ·have i1 : decide ((i : Int) < (xs.length : Int)) = true := decide_eq_true (by omega)
    have i2 : decide (i < xs.length) = true := decide_eq_true hil
    obtain ⟨x, hx⟩ : ∃ x, xs[i]? = some x := ⟨_, List.getElem?_eq_getElem hil⟩
    obtain ⟨g, rfl, hat⟩ := (HOW.out.off HO.out (fun _ _ _ h => h)).atW hx
    have HAT : Hid _ := hat
    have HCY : Hid _ := HC.out.off HO.out (fun h => h)
    have hix := idx_win hil
    clear hat hx
    go_upto_region 8 with fail
    refine wp_region_held_drew (S := Off (fun _ => False) wr) (by kernel_rfl) ((Off.refl (fun _ => False) wr).drew) (fun hS => ?_)
    refine take_at (i := 0) 35 (v := .int .i64 (i : Int)) rfl rfl (by kernel_rfl) (by kernel_rfl) (by kernel_rfl) (fun _ _ _ h => h) (Or.inl ⟨by rfl, fun w' hw' => by go_simp⟩) hS ?_
    simp only [Act.put, lsA, lsZ, lsS]
    refine take_at (i := 1) 36 (v := .int .i64 (i : Int)) rfl rfl (by kernel_rfl) (by kernel_rfl) (by kernel_rfl) (fun _ _ _ h => h) (Or.inl ⟨by rfl, fun w' hw' => by go_simp⟩) hS ?_
    simp only [Act.put, lsA, lsZ, lsS]
    refine take_at (i := 2) 37 (v := .int .i64 (xs.length : Int)) rfl rfl (by kernel_rfl) (by kernel_rfl) (by kernel_rfl) (fun _ _ _ h => h) (Or.inl ⟨by rfl, fun w' hw' => by go_simp⟩) hS ?_
    simp only [Act.put, lsA, lsZ, lsS]
    refine take_at (i := 3) 38 (v := .bool true) rfl rfl (by kernel_rfl) (by kernel_rfl) (by kernel_rfl) (fun _ _ _ h => h) (Or.inl ⟨by rfl, fun w' hw' => by go_simp⟩) hS ?_
    simp only [Act.put, lsA, lsZ, lsS]
    refine take_at (i := 4) 39 (v := .bool true) rfl rfl (by kernel_rfl) (by kernel_rfl) (by kernel_rfl) (fun _ _ _ h => h) (Or.inl ⟨by rfl, fun w' hw' => by go_simp⟩) hS ?_
    simp only [Act.put, lsA, lsZ, lsS]
    refine take_at (i := 5) 40 (v := .func (.func 28) #[] #[]) rfl rfl (by kernel_rfl) (by kernel_rfl) (by kernel_rfl) (fun _ _ _ h => h) (Or.inl ⟨by rfl, fun w' hw' => by go_simp⟩) hS ?_
    simp only [Act.put, lsA, lsZ, lsS]
    refine take_at (i := 6) 41 (v := .slice (some ⟨g, 0, none⟩) xs.length cap) rfl rfl (by kernel_rfl) (by kernel_rfl) (by kernel_rfl) (fun _ _ _ h => h) (Or.inl ⟨by rfl, fun w' hw' => by go_simp⟩) hS ?_
    simp only [Act.put, lsA, lsZ, lsS]
    refine take_at (i := 7) 42 (v := .int .i64 (i : Int)) rfl rfl (by kernel_rfl) (by kernel_rfl) (by kernel_rfl) (fun _ _ _ h => h) (Or.inl ⟨by rfl, fun w' hw' => by go_simp⟩) hS ?_
    simp only [Act.put, lsA, lsZ, lsS]
    refine take_at (i := 8) 43 (v := .pointer (some ⟨g, i * 11, none⟩)) rfl rfl (by kernel_rfl) (by kernel_rfl) (by kernel_rfl) (fun _ _ _ h => h) (Or.inl ⟨by rfl, fun w' hw' => by have := hix cap g w'; go_simp⟩) hS ?_
    simp only [Act.put, lsA, lsZ, lsS]
    refine take_at (i := 9) 44 (v := (.agg #[.int .i64 x.m.k, .int .i64 x.m.fr, .int .i64 x.m.tn, .int .i64 x.m.op, .int .i64 x.m.fo, .string x.m.key, .int .i64 x.m.bk, .slice x.m.ea x.m.el x.m.ec, .slice x.m.da x.m.dl x.m.dc, .slice x.m.ma x.m.ml x.m.mc, .int .i64 x.base])) rfl rfl (by kernel_rfl) (by kernel_rfl) (by kernel_rfl) (fun _ _ _ h => h) (Or.inl ⟨by rfl, fun w' hw' => by obtain ⟨x0, x1, x2, x3, x4, x5, x6, x7, x8, x9, x10⟩ := (HAT.out.off hw' (fun _ h => h)).cells; go_simp⟩) hS ?_
    simp only [Act.put, lsA, lsZ, lsS]
    refine take_at (i := 10) 45 (v := (.agg #[.int .i64 y.m.k, .int .i64 y.m.fr, .int .i64 y.m.tn, .int .i64 y.m.op, .int .i64 y.m.fo, .string y.m.key, .int .i64 y.m.bk, .slice y.m.ea y.m.el y.m.ec, .slice y.m.da y.m.dl y.m.dc, .slice y.m.ma y.m.ml y.m.mc, .int .i64 y.base])) rfl rfl (by kernel_rfl) (by kernel_rfl) (by kernel_rfl) (fun _ _ _ h => h) (Or.inl ⟨by rfl, fun w' hw' => by obtain ⟨y0, y1, y2, y3, y4, y5, y6, y7, y8, y9, y10⟩ := celw11 (HCY.out.off hw' (fun h => h)); go_simp⟩) hS ?_
    simp only [Act.put, lsA, lsZ, lsS]
    refine wpAnyH_ready (rs := [11]) (by kernel_rfl) (by simp) ?_
    refine AllReadyH.cons rfl (fun K' hK' => ?_) AllReadyH.nil
    go_simp
    refine (byBase_any x y _).mono ?_
    rintro e0 W5 ⟨r, rfl, h1, h2, h3, h4, ox⟩
    have HR : Hid (r < 0 ↔ x.base < y.base) := h1
    refine hK'.out _ _ (hS.trans ox (fun _ _ h => h)) (fun hS => ?_)
    clear hK' K' ox h1 h2
    refine take_at (i := 12) 47 (v := .bool (r == 0)) rfl rfl (by kernel_rfl) (by kernel_rfl) (by kernel_rfl) (fun _ _ _ h => h) (Or.inl ⟨by rfl, fun w' hw' => by go_simp⟩) hS ?_
    simp only [Act.put, lsA, lsZ, lsS]
    refine take_at (i := 13) 48 (v := .bool (r == 0)) rfl rfl (by kernel_rfl) (by kernel_rfl) (by kernel_rfl) (fun _ _ _ h => h) (Or.inl ⟨by rfl, fun w' hw' => by go_simp⟩) hS ?_
    simp only [Act.put, lsA, lsZ, lsS]
    refine take_at (i := 14) 6 (v := .int .i64 (i : Int)) rfl rfl (by kernel_rfl) (by kernel_rfl) (by kernel_rfl) (fun _ _ _ h => h) (Or.inl ⟨by rfl, fun w' hw' => by go_simp⟩) hS ?_
    simp only [Act.put, lsA, lsZ, lsS]
    refine take_at (i := 15) 7 (v := .bool (r == 0)) rfl rfl (by kernel_rfl) (by kernel_rfl) (by kernel_rfl) (fun _ _ _ h => h) (Or.inl ⟨by rfl, fun w' hw' => by go_simp⟩) hS ?_
    simp only [Act.put, lsA, lsZ, lsS]
    refine wpAnyH_done (by kernel_rfl) ?_ _
    have HO1 : Hid _ := HO0.out.trans (HO.out.trans hS (fun _ _ h => h)) (fun _ _ h => h)
    clear hS hix
    go_wp2_with fail
    go_ret2
    exact ⟨i, _, rfl, ⟨by omega, HLO.out, HHI.out⟩, HO1.out⟩
   ·obtain rfl : i = xs.length := by omega
    have i1 : decide ((xs.length : Int) < (xs.length : Int)) = false := decide_eq_false (by omega)
    have i2 : decide (xs.length < xs.length) = false := decide_eq_false (by omega)
    go_upto_region 8 with fail
    refine wp_region_held_drew (S := Off (fun _ => False) wr) (by kernel_rfl) ((Off.refl (fun _ => False) wr).drew) (fun hS => ?_)
    refine take_at (i := 0) 35 (v := .int .i64 (xs.length : Int)) rfl rfl (by kernel_rfl) (by kernel_rfl) (by kernel_rfl) (fun _ _ _ h => h) (Or.inl ⟨by rfl, fun w' hw' => by go_simp⟩) hS ?_
    simp only [Act.put, lsA, lsZ, lsS]
    refine take_at (i := 1) 36 (v := .int .i64 (xs.length : Int)) rfl rfl (by kernel_rfl) (by kernel_rfl) (by kernel_rfl) (fun _ _ _ h => h) (Or.inl ⟨by rfl, fun w' hw' => by go_simp⟩) hS ?_
    simp only [Act.put, lsA, lsZ, lsS]
    refine take_at (i := 2) 37 (v := .int .i64 (xs.length : Int)) rfl rfl (by kernel_rfl) (by kernel_rfl) (by kernel_rfl) (fun _ _ _ h => h) (Or.inl ⟨by rfl, fun w' hw' => by go_simp⟩) hS ?_
    simp only [Act.put, lsA, lsZ, lsS]
    refine take_at (i := 3) 38 (v := .bool false) rfl rfl (by kernel_rfl) (by kernel_rfl) (by kernel_rfl) (fun _ _ _ h => h) (Or.inl ⟨by rfl, fun w' hw' => by go_simp⟩) hS ?_
    simp only [Act.put, lsA, lsZ, lsS]
    refine take_at (i := 4) 39 (v := .bool false) rfl rfl (by kernel_rfl) (by kernel_rfl) (by kernel_rfl) (fun _ _ _ h => h) (Or.inl ⟨by rfl, fun w' hw' => by go_simp⟩) hS ?_
    simp only [Act.put, lsA, lsZ, lsS]
    refine take_at (i := 5) 40 (v := undef) rfl rfl (by kernel_rfl) (by kernel_rfl) (by kernel_rfl) (fun _ _ _ h => h) (Or.inr ⟨by rfl, rfl⟩) hS ?_
    simp only [Act.put, lsA, lsZ, lsS]
    refine take_at (i := 6) 41 (v := undef) rfl rfl (by kernel_rfl) (by kernel_rfl) (by kernel_rfl) (fun _ _ _ h => h) (Or.inr ⟨by rfl, rfl⟩) hS ?_
    simp only [Act.put, lsA, lsZ, lsS]
    refine take_at (i := 7) 42 (v := undef) rfl rfl (by kernel_rfl) (by kernel_rfl) (by kernel_rfl) (fun _ _ _ h => h) (Or.inr ⟨by rfl, rfl⟩) hS ?_
    simp only [Act.put, lsA, lsZ, lsS]
    refine take_at (i := 8) 43 (v := undef) rfl rfl (by kernel_rfl) (by kernel_rfl) (by kernel_rfl) (fun _ _ _ h => h) (Or.inr ⟨by rfl, rfl⟩) hS ?_
    simp only [Act.put, lsA, lsZ, lsS]
    refine take_at (i := 9) 44 (v := undef) rfl rfl (by kernel_rfl) (by kernel_rfl) (by kernel_rfl) (fun _ _ _ h => h) (Or.inr ⟨by rfl, rfl⟩) hS ?_
    simp only [Act.put, lsA, lsZ, lsS]
    refine take_at (i := 10) 45 (v := undef) rfl rfl (by kernel_rfl) (by kernel_rfl) (by kernel_rfl) (fun _ _ _ h => h) (Or.inr ⟨by rfl, rfl⟩) hS ?_
    simp only [Act.put, lsA, lsZ, lsS]
    refine take_at (i := 11) 46 (v := undef) rfl rfl (by kernel_rfl) (by kernel_rfl) (by kernel_rfl) (fun _ _ _ h => h) (Or.inr ⟨by rfl, rfl⟩) hS ?_
    simp only [Act.put, lsA, lsZ, lsS]
    refine take_at (i := 12) 47 (v := undef) rfl rfl (by kernel_rfl) (by kernel_rfl) (by kernel_rfl) (fun _ _ _ h => h) (Or.inr ⟨by rfl, rfl⟩) hS ?_
    simp only [Act.put, lsA, lsZ, lsS]
    refine take_at (i := 13) 48 (v := .bool false) rfl rfl (by kernel_rfl) (by kernel_rfl) (by kernel_rfl) (fun _ _ _ h => h) (Or.inl ⟨by rfl, fun w' hw' => by go_simp⟩) hS ?_
    simp only [Act.put, lsA, lsZ, lsS]
    refine take_at (i := 14) 6 (v := .int .i64 (xs.length : Int)) rfl rfl (by kernel_rfl) (by kernel_rfl) (by kernel_rfl) (fun _ _ _ h => h) (Or.inl ⟨by rfl, fun w' hw' => by go_simp⟩) hS ?_
    simp only [Act.put, lsA, lsZ, lsS]
    refine take_at (i := 15) 7 (v := .bool false) rfl rfl (by kernel_rfl) (by kernel_rfl) (by kernel_rfl) (fun _ _ _ h => h) (Or.inl ⟨by rfl, fun w' hw' => by go_simp⟩) hS ?_
    simp only [Act.put, lsA, lsZ, lsS]
    refine wpAnyH_done (by kernel_rfl) ?_ _
    have HO1 : Hid _ := HO0.out.trans (HO.out.trans hS (fun _ _ h => h)) (fun _ _ h => h)
    clear hS
    go_wp2_with fail
    go_ret2
    exact ⟨xs.length, _, rfl, ⟨Nat.le_refl _, HLO.out, HHI.out⟩, HO1.out⟩
end Go.Proofs.Ytmeclfgehpbjlaa
