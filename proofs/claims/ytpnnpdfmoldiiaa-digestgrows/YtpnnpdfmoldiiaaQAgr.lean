/- Items of several texts. -/
import Derived.Deep.Cut
import Derived.Test.YtpnnpdfmoldiiaaQGSame
import Derived.Test.YtpnnpdfmoldiiaaQGSm
import Derived.Test.YtpnnpdfmoldiiaaQExP
namespace Go.Proofs.Ytpnnpdfmoldiiaa
open Go.RowKit
theorem val_eq {x y : V} {w : World} (hx : VOk w x) (hy : VOk w y) (hd : x.node = y.node ∧ x.num = y.num) (hdd : (x.dead == y.dead) = true) (hs : (strOf x.data).toList = (strOf y.data).toList) : x.abs = y.abs := by
 have i1 : x.data = y.data := (strOf_eq hx.lt hy.lt).1 (ByteArray.ext (Array.toList_inj.1 (by rw [← ByteArray.toList_eq, ← ByteArray.toList_eq]; exact hs)))
 have i2 : x.dead = y.dead := by simpa using hdd
 simp only [V.abs, i1, i2, hd.1, hd.2]
set_option maxRecDepth 100000 in
set_option maxHeartbeats 4000000 in
theorem agree_any (f g : Nat → Int) (a b : Option Addr) (ca cb : Nat) (l k : List V) (w : World) (h1 : Row w a ca l) (h2 : Row w b cb k) :
  Calls Try.prog 35 #[.agg #[.int .i64 (f 0), .int .i64 (f 1), .int .i64 (f 2), .int .i64 (f 3), .int .i64 (f 4), .int .i64 (f 5), .int .i64 (f 6), .int .i64 (f 7), .slice a l.length ca], .agg #[.int .i64 (g 0), .int .i64 (g 1), .int .i64 (g 2), .int .i64 (g 3), .int .i64 (g 4), .int .i64 (g 5), .int .i64 (g 6), .int .i64 (g 7), .slice b k.length cb]] w fun e w' => ∃ r : Bool, e = .returned (.bool r) ∧ (r = true → Agr (cont l) (cont k)) ∧ Off (fun _ => False) w w' := by
 obtain ⟨W, hW⟩ : ∃ W, W = ((w.alloc (.cells #[.int .i64 (f 0), .int .i64 (f 1), .int .i64 (f 2), .int .i64 (f 3), .int .i64 (f 4), .int .i64 (f 5), .int .i64 (f 6), .int .i64 (f 7), .slice a l.length ca] 38)).alloc (.cells #[.int .i64 (g 0), .int .i64 (g 1), .int .i64 (g 2), .int .i64 (g 3), .int .i64 (g 4), .int .i64 (g 5), .int .i64 (g 6), .int .i64 (g 7), .slice b k.length cb] 38)) := ⟨_, rfl⟩
 have O : Off (fun _ => False) w W := by rw [hW]; exact ((Off.refl _ w).alloc _).alloc _
 have C0 : Cel w.heap.size 38 #[.int .i64 (f 0), .int .i64 (f 1), .int .i64 (f 2), .int .i64 (f 3), .int .i64 (f 4), .int .i64 (f 5), .int .i64 (f 6), .int .i64 (f 7), .slice a l.length ca] W := by rw [hW]; exact (Cel.new w _ _).alloc _
 have C1 : Cel (w.heap.size + 1) 38 #[.int .i64 (g 0), .int .i64 (g 1), .int .i64 (g 2), .int .i64 (g 3), .int .i64 (g 4), .int .i64 (g 5), .int .i64 (g 6), .int .i64 (g 7), .slice b k.length cb] W := by rw [hW]; exact Cel.new1 w _ _ _
 have HW : Hid _ := hW.symm
 have H0 : Hid _ := C0
 have H1 : Hid _ := C1
 have HO : Hid _ := O
 have HR1 : Hid _ := h1.off O
 have HR2 : Hid _ := h2.off O
 clear hW C0 C1 O h1 h2
 go_enter Try.func35, Try.ntmps35
 go_upto_region 1 with fail
 rw [HW.out]
 generalize hq1 : w.heap.size + 1 = q1 at H1 ⊢
 generalize hq0 : w.heap.size = q0 at H0 ⊢
 clear hq0 hq1 HW
 obtain ⟨x0, x1, x2, x3, x4, x5, x6, x7, x8⟩ := cel9 H0.out
 go_wp2_with fail
 clear x0 x1 x2 x3 x4 x5 x6 x7 x8
 have hlb : l.length ≤ 9223372036854775807 := by have := HR1.out.len; have := HR1.out.bound; omega
 have hkb : k.length ≤ 9223372036854775807 := by have := HR2.out.len; have := HR2.out.bound; omega
 go_loopw [12] (fun y wr => ∃ n : Nat, y = .int .i64 (n : Int) ∧ n ≤ l.length ∧ (∀ i x, i < n → l[i]? = some x → ∀ y ∈ k, (x.node = y.node ∧ x.num = y.num) → x.abs = y.abs) ∧ Off (fun _ => False) W wr) (fun y _ => (l.length - intOf y).toNat)
 case atStart => exact ⟨0, rfl, by omega, fun i x hi => by omega, Off.refl _ _⟩
 case round =>
  obtain ⟨n, rfl, hn, hg, O⟩ := hrel
  have HG : Hid _ := hg
  have HP : Hid _ := O
  clear hg O
  by_cases hln : n < l.length
  ·have n1 : decide ((n : Int) < (l.length : Int)) = true := decide_eq_true (by omega)
   have n2 : decide (n < l.length) = true := decide_eq_true hln
   obtain ⟨v, hv⟩ : ∃ v, l[n]? = some v := ⟨_, List.getElem?_eq_getElem hln⟩
   obtain ⟨ba, fa, hay, h4, hok⟩ := (HR1.out.off HP.out).at_ n v hv
   have HOK : Hid _ := hok
   obtain ⟨c0, c1, c2, c3⟩ := h4
   have HV : Hid _ := hv
   clear hv hok
   subst hay
   go_upto_region 4 with fail
   have Cqv := Cel.new wr 117 #[.int .i64 v.node, .int .i64 v.num, .slice v.ad v.data.length v.cap, .bool v.dead]
   have OA : Off (fun _ => False) wr (wr.alloc (.cells #[.int .i64 v.node, .int .i64 v.num, .slice v.ad v.data.length v.cap, .bool v.dead] 117)) := (Off.refl _ wr).alloc _
   generalize hq : wr.heap.size = qv at Cqv ⊢
   generalize hv : wr.alloc (.cells #[.int .i64 v.node, .int .i64 v.num, .slice v.ad v.data.length v.cap, .bool v.dead] 117) = V1 at Cqv OA ⊢
   clear hq hv c0 c1 c2 c3
   have HGV : Hid _ := Cqv
   have HPV : Hid _ := HP.out.trans OA (fun _ _ h => h)
   have HOK1 : Hid _ := HOK.out.off OA (fun _ _ _ h => h)
   obtain ⟨y0, y1, y2, y3, y4, y5, y6, y7, y8⟩ := cel9 (H1.out.off HPV.out (fun h => h))
   clear Cqv OA HOK
   go_wp2_with fail
   clear y0 y1 y2 y3 y4 y5 y6 y7 y8
   go_loopw [19] (fun y wr2 => ∃ m : Nat, y = .int .i64 (m : Int) ∧ m ≤ k.length ∧ (∀ i y, i < m → k[i]? = some y → (v.node = y.node ∧ v.num = y.num) → v.abs = y.abs) ∧ Off (fun _ => False) V1 wr2) (fun y _ => (k.length - intOf y).toNat)
   case atStart => exact ⟨0, rfl, by omega, fun i x hi => by omega, Off.refl _ _⟩
   case round =>
    obtain ⟨m, rfl, hm, hg2, O2⟩ := hrel
    have HG2 : Hid _ := hg2
    have HP2 : Hid _ := O2
    clear hg2 O2
    by_cases hkm : m < k.length
    ·have m1 : decide ((m : Int) < (k.length : Int)) = true := decide_eq_true (by omega)
     have m2 : decide (m < k.length) = true := decide_eq_true hkm
     obtain ⟨u, hu⟩ : ∃ u, k[m]? = some u := ⟨_, List.getElem?_eq_getElem hkm⟩
     obtain ⟨bb, fb, hby, h5, hok2⟩ := (HR2.out.off (HPV.out.trans HP2.out (fun _ _ h => h))).at_ m u hu
     have HOK2 : Hid _ := hok2
     obtain ⟨c0, c1, c2, c3⟩ := h5
     have HU : Hid _ := hu
     clear hu hok2
     subst hby
     go_upto_region 7 with fail
     have Cqu := Cel.new wr 117 #[.int .i64 u.node, .int .i64 u.num, .slice u.ad u.data.length u.cap, .bool u.dead]
     have OA : Off (fun _ => False) wr (wr.alloc (.cells #[.int .i64 u.node, .int .i64 u.num, .slice u.ad u.data.length u.cap, .bool u.dead] 117)) := (Off.refl _ wr).alloc _
     generalize hq : wr.heap.size = qu at Cqu ⊢
     generalize hv : wr.alloc (.cells #[.int .i64 u.node, .int .i64 u.num, .slice u.ad u.data.length u.cap, .bool u.dead] 117) = V2 at Cqu OA ⊢
     clear hq hv c0 c1 c2 c3
     have HP3 : Hid _ := HP2.out.trans OA (fun _ _ h => h)
     have HOF : Hid _ := (HO.out.trans HPV.out (fun _ _ h => h)).trans HP3.out (fun _ _ h => h)
     obtain ⟨e0, e1, e2, e3⟩ := cel4 Cqu
     obtain ⟨d0, d1, d2, d3⟩ := cel4 (HGV.out.off HP3.out (fun h => h))
     have K1 : Hid _ := HOK1.out.off HP3.out (fun _ _ _ h => h)
     have K2 : Hid _ := HOK2.out.off OA (fun _ _ _ h => h)
     have heq := eql_dot v.node v.num u.node u.num
     have HST : Hid ((∀ h : v.node = u.node ∧ v.num = u.num, v.abs = u.abs) → ∀ i y, i < m + 1 → k[i]? = some y → (v.node = y.node ∧ v.num = y.num) → v.abs = y.abs) := fun h i y hi hy => by
      by_cases e : i = m
      ·subst e
       rw [HU.out] at hy
       cases hy
       exact h
      ·exact HG2.out i y (by omega) hy
     clear Cqu OA
     cases hdt : decide (v.node = u.node ∧ v.num = u.num)
     ·rw [hdt] at heq
      have HS1 : Hid _ := HST.out (fun h => absurd (decide_eq_true h) (by rw [hdt]; simp))
      clear hdt
      go_wp2_with fail
      go_roundw
      case rel => exact ⟨m + 1, by go_num, by omega, HS1.out, HP3.out⟩
      case measure => simp [intOf]; omega
     ·rw [hdt] at heq
      clear hdt
      rcases Bool.eq_false_or_eq_true (v.dead == u.dead) with hdd | hdd
      ·have hdn : (v.dead != u.dead) = false := by simp [bne, hdd]
       have cv1 := conv_src K1.out.src
       have cv2 := conv_src K2.out.src
       by_cases hda : (strOf v.data).toList = (strOf u.data).toList
       ·have HS1 : Hid _ := HST.out (fun h => val_eq K1.out K2.out h hdd hda)
        go_wp2_with fail
        go_roundw
        case rel => exact ⟨m + 1, by go_num, by omega, HS1.out, HP3.out⟩
        case measure => simp [intOf]; omega
       ·have hdb : ((strOf v.data).toList == (strOf u.data).toList) = false := by rw [beq_eq_false_iff_ne]; exact hda
        go_wp2_with fail
        go_ret
        exact ⟨false, rfl, fun h => (by cases h), HOF.out⟩
      ·have hdn : (v.dead != u.dead) = true := by simp [bne, hdd]
       go_wp2_with fail
       go_ret
       exact ⟨false, rfl, fun h => (by cases h), HOF.out⟩
    ·obtain rfl : m = k.length := by omega
     have m1 : decide ((k.length : Int) < (k.length : Int)) = false := decide_eq_false (by omega)
     have m2 : decide (k.length < k.length) = false := decide_eq_false (by omega)
     go_wp2_with fail
     go_roundw
     case rel =>
      refine ⟨n + 1, by go_num, by omega, fun i x hi hx y hy => ?_, HPV.out.trans HP2.out (fun _ _ h => h)⟩
      by_cases e : i = n
      ·subst e
       rw [HV.out] at hx
       cases hx
       obtain ⟨j, hj⟩ := List.getElem?_of_mem hy
       obtain ⟨hjl, -⟩ := List.getElem?_eq_some_iff.1 hj
       exact HG2.out j y hjl hj
      ·exact HG.out i x (by omega) hx y hy
     case measure => simp [intOf]; omega
  ·obtain rfl : n = l.length := by omega
   have n1 : decide ((l.length : Int) < (l.length : Int)) = false := decide_eq_false (by omega)
   have n2 : decide (l.length < l.length) = false := decide_eq_false (by omega)
   go_wp2_with fail
   go_ret
   refine ⟨true, rfl, fun _ => ⟨fun x hx y hy e => ?_⟩, HO.out.trans HP.out (fun _ _ h => h)⟩
   obtain ⟨x', hx', rfl⟩ := List.mem_map.1 hx
   obtain ⟨y', hy', rfl⟩ := List.mem_map.1 hy
   obtain ⟨i, hi⟩ := List.getElem?_of_mem hx'
   obtain ⟨hil, -⟩ := List.getElem?_eq_some_iff.1 hi
   exact HG.out i x' hil hi y' hy' e
end Go.Proofs.Ytpnnpdfmoldiiaa
