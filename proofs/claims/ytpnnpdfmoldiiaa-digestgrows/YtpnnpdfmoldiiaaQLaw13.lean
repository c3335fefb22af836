/- Items of several texts. -/
import Derived.Deep.RegionHeld
import Derived.Deep.Cut
import Derived.Test.YtpnnpdfmoldiiaaQGSm
import Derived.Test.YtpnnpdfmoldiiaaQLck
import Derived.Test.YtpnnpdfmoldiiaaQSms
namespace Go.Proofs.Ytpnnpdfmoldiiaa
open Go.RowKit
def light13 (es : List E) : Bool := decide (es.length ≤ 40) && es.all fun e => decide (e.l.length ≤ 20 ∧ e.key.size ≤ 100)
theorem light13_no {es : List E} (h : ¬ es.length ≤ 40) : light13 es = false := by simp [light13, h]
theorem light13_bad {es : List E} {x : E} (hx : x ∈ es) (h : ¬ (x.l.length ≤ 20 ∧ x.key.size ≤ 100)) : light13 es = false := by
 unfold light13
 rw [Bool.and_eq_false_iff]
 right
 rw [List.all_eq_false]
 exact ⟨x, hx, by simpa using h⟩
theorem light13_iff {es : List E} : light13 es = true ↔ es.length ≤ 40 ∧ ∀ x ∈ es, x.l.length ≤ 20 ∧ x.key.size ≤ 100 := by
 unfold light13
 simp only [Bool.and_eq_true, decide_eq_true_eq, List.all_eq_true]
theorem light13_yes {es : List E} (h : es.length ≤ 40) (k : ∀ x ∈ es, x.l.length ≤ 20 ∧ x.key.size ≤ 100) : light13 es = true := light13_iff.2 ⟨h, k⟩
def thinG (gs : List G) : Bool := decide (gs.length ≤ 40) && gs.all fun g => decide (g.ds.length ≤ 30)
theorem thin_no {gs : List G} (h : ¬ gs.length ≤ 40) : thinG gs = false := by simp [thinG, h]
theorem thin_iff {gs : List G} : thinG gs = true ↔ gs.length ≤ 40 ∧ ∀ g ∈ gs, g.ds.length ≤ 30 := by
 unfold thinG
 simp only [Bool.and_eq_true, decide_eq_true_eq, List.all_eq_true]
theorem thin_bad {gs : List G} {x : G} (hx : x ∈ gs) (h : ¬ x.ds.length ≤ 30) : thinG gs = false := by
 rw [← Bool.not_eq_true, thin_iff]
 exact fun k => h (k.2 x hx)
def mayE (x : E) : Bool := keyB x.key && mayS x.f (cont x.l)
def mayEs (es : List E) : Bool := es.all mayE
set_option maxRecDepth 100000 in
set_option maxHeartbeats 1000000 in
theorem light_any (a : Option Addr) (cap : Nat) (es : List E) (w : World) (h : Ens w a cap es) : Calls Try.prog 9 #[.slice a es.length cap] w fun e w' => e = .returned (.bool (light13 es)) ∧ Off (fun _ => False) w w' := by
 have HE : Hid _ := h
 clear h
 by_cases hl : es.length ≤ 40
 ·have d1 : decide ((40 : Int) < (es.length : Int)) = false := decide_eq_false (by omega)
  have d2 : decide (40 < es.length) = false := decide_eq_false (by omega)
  have HL : Hid _ := hl
  go_enter Try.func9, Try.ntmps9
  go_wp2_with fail
  clear d1 d2
  go_loopw [10] (fun y wr => ∃ n : Nat, y = .int .i64 (n : Int) ∧ n ≤ es.length ∧ (∀ i x, i < n → es[i]? = some x → x.l.length ≤ 20 ∧ x.key.size ≤ 100) ∧ Off (fun _ => False) w wr) (fun y _ => (es.length - intOf y).toNat)
  case atStart => exact ⟨0, rfl, by omega, fun i x hi => by omega, Off.refl _ w⟩
  case round =>
   obtain ⟨n, rfl, hn, hg, O⟩ := hrel
   have HG : Hid _ := hg
   have HO : Hid _ := O
   have hE := HE.out.off O
   clear hg O
   by_cases hlt : n < es.length
   ·have e1 : decide ((n : Int) < (es.length : Int)) = true := decide_eq_true (by omega)
    have e2 : decide (n < es.length) = true := decide_eq_true hlt
    obtain ⟨x, hx⟩ : ∃ x, es[n]? = some x := ⟨_, List.getElem?_eq_getElem hlt⟩
    obtain ⟨bx, ox, rfl, kx, -⟩ := hE.at_ n x hx
    obtain ⟨k0, k1, k2, k3, k4, k5, k6, k7, k8, k9⟩ := ent10 kx
    have hix := idx_ents hlt
    clear kx hE
    go_upto_region 6 with fail
    have Cq4 := Cel.new wr 40 #[.string x.key, .int .i64 (x.f 0), .int .i64 (x.f 1), .int .i64 (x.f 2), .int .i64 (x.f 3), .int .i64 (x.f 4), .int .i64 (x.f 5), .int .i64 (x.f 6), .int .i64 (x.f 7), .slice x.a x.l.length x.cap]
    have OA : Off (fun _ => False) wr (wr.alloc (.cells #[.string x.key, .int .i64 (x.f 0), .int .i64 (x.f 1), .int .i64 (x.f 2), .int .i64 (x.f 3), .int .i64 (x.f 4), .int .i64 (x.f 5), .int .i64 (x.f 6), .int .i64 (x.f 7), .slice x.a x.l.length x.cap] 40)) := (Off.refl _ wr).alloc _
    generalize hq : wr.heap.size = q4 at Cq4 ⊢
    generalize hv : wr.alloc (.cells #[.string x.key, .int .i64 (x.f 0), .int .i64 (x.f 1), .int .i64 (x.f 2), .int .i64 (x.f 3), .int .i64 (x.f 4), .int .i64 (x.f 5), .int .i64 (x.f 6), .int .i64 (x.f 7), .slice x.a x.l.length x.cap] 40) = V4 at Cq4 OA ⊢
    clear hq hv k0 k1 k2 k3 k4 k5 k6 k7 k8 k9 hix
    have c9 : V4.cell? ⟨q4, 9, none⟩ = some (.slice x.a x.l.length x.cap) := Cq4.cell 9
    have HC0 : Hid (V4.cell? ⟨q4, 0, none⟩ = some (.string x.key)) := Cq4.cell 0
    have HOA : Hid _ := HO.out.trans OA (fun _ _ h => h)
    clear OA Cq4
    have c0 : V4.cell? ⟨q4, 0, none⟩ = some (.string x.key) := HC0.out
    by_cases h20 : x.l.length ≤ 20
    ·have t1 : decide ((20 : Int) < (x.l.length : Int)) = false := decide_eq_false (by omega)
     have t2 : decide (20 < x.l.length) = false := decide_eq_false (by omega)
     have H20 : Hid _ := h20
     clear h20
     by_cases h100 : x.key.size ≤ 100
     ·have t3 : decide ((100 : Int) < (x.key.size : Int)) = false := decide_eq_false (by omega)
      have t4 : decide (100 < x.key.size) = false := decide_eq_false (by omega)
      have H100 : Hid _ := h100
      clear h100
      go_wp2_with fail
      go_roundw
      case rel =>
       refine ⟨n + 1, by go_num, by omega, fun i y hi hy => ?_, HOA.out⟩
       by_cases e : i = n
       ·subst e
        rw [hx] at hy
        cases hy
        exact ⟨H20.out, H100.out⟩
       ·exact HG.out i y (by omega) hy
      case measure => simp [intOf]; omega
     ·have t3 : decide ((100 : Int) < (x.key.size : Int)) = true := decide_eq_true (by omega)
      have t4 : decide (100 < x.key.size) = true := decide_eq_true (by omega)
      have HB : Hid (light13 es = false) := light13_bad (List.mem_of_getElem? hx) (fun h => h100 h.2)
      clear h100
      go_wp2_with fail
      go_ret
      exact ⟨by rw [HB.out]; rfl, HOA.out⟩
    ·have t1 : decide ((20 : Int) < (x.l.length : Int)) = true := decide_eq_true (by omega)
     have t2 : decide (20 < x.l.length) = true := decide_eq_true (by omega)
     have HB : Hid (light13 es = false) := light13_bad (List.mem_of_getElem? hx) (fun h => h20 h.1)
     clear h20
     go_wp2_with fail
     go_ret
     exact ⟨by rw [HB.out]; rfl, HOA.out⟩
   ·obtain rfl : n = es.length := by omega
    have e1 : decide ((es.length : Int) < (es.length : Int)) = false := decide_eq_false (by omega)
    have e2 : decide (es.length < es.length) = false := decide_eq_false (by omega)
    go_wp2_with fail
    go_ret
    refine ⟨?_, HO.out⟩
    have hyes : light13 es = true := light13_yes HL.out (fun x hx => ?_)
    ·rw [hyes]; rfl
    obtain ⟨i, hi⟩ := List.getElem?_of_mem hx
    have : i < es.length := by
     obtain ⟨h, -⟩ := List.getElem?_eq_some_iff.1 hi
     exact h
    exact HG.out i x this hi
 ·have d1 : decide ((40 : Int) < (es.length : Int)) = true := decide_eq_true (by omega)
  have d2 : decide (40 < es.length) = true := decide_eq_true (by omega)
  go_enter Try.func9, Try.ntmps9
  go_wp2_with fail
  go_ret
  exact ⟨by rw [light13_no hl]; rfl, Off.refl _ w⟩
set_option maxRecDepth 100000 in
set_option maxHeartbeats 1000000 in
theorem thin_any (a : Option Addr) (cap : Nat) (gs : List G) (w : World) (h : Dgs w a cap gs) : Calls Try.prog 10 #[.slice a gs.length cap] w fun e w' => e = .returned (.bool (thinG gs)) ∧ Off (fun _ => False) w w' := by
 have HE : Hid _ := h
 clear h
 by_cases hl : gs.length ≤ 40
 ·have d1 : decide ((40 : Int) < (gs.length : Int)) = false := decide_eq_false (by omega)
  have d2 : decide (40 < gs.length) = false := decide_eq_false (by omega)
  have HL : Hid _ := hl
  go_enter Try.func10, Try.ntmps10
  go_wp2_with fail
  clear d1 d2
  go_loopw [10] (fun y wr => ∃ n : Nat, y = .int .i64 (n : Int) ∧ n ≤ gs.length ∧ (∀ i x, i < n → gs[i]? = some x → x.ds.length ≤ 30) ∧ Off (fun _ => False) w wr) (fun y _ => (gs.length - intOf y).toNat)
  case atStart => exact ⟨0, rfl, by omega, fun i x hi => by omega, Off.refl _ w⟩
  case round =>
   obtain ⟨n, rfl, hn, hg, O⟩ := hrel
   have HG : Hid _ := hg
   have HO : Hid _ := O
   have hE := HE.out.off O
   clear hg O
   by_cases hlt : n < gs.length
   ·have e1 : decide ((n : Int) < (gs.length : Int)) = true := decide_eq_true (by omega)
    have e2 : decide (n < gs.length) = true := decide_eq_true hlt
    obtain ⟨x, hx⟩ : ∃ x, gs[n]? = some x := ⟨_, List.getElem?_eq_getElem hlt⟩
    obtain ⟨bx, ox, rfl, kx, -⟩ := hE.at_ n x hx
    obtain ⟨k0, k1, k2, k3, k4, k5, k6, k7, k8, k9⟩ := dg10 kx
    have hix := idx_dgs hlt
    clear kx hE
    go_upto_region 6 with fail
    have Cq4 := Cel.new wr 27 #[.string x.key, .int .i64 (x.f 0), .int .i64 (x.f 1), .int .i64 (x.f 2), .int .i64 (x.f 3), .int .i64 (x.f 4), .int .i64 (x.f 5), .int .i64 (x.f 6), .int .i64 (x.f 7), .slice x.a x.ds.length x.cap]
    have OA : Off (fun _ => False) wr (wr.alloc (.cells #[.string x.key, .int .i64 (x.f 0), .int .i64 (x.f 1), .int .i64 (x.f 2), .int .i64 (x.f 3), .int .i64 (x.f 4), .int .i64 (x.f 5), .int .i64 (x.f 6), .int .i64 (x.f 7), .slice x.a x.ds.length x.cap] 27)) := (Off.refl _ wr).alloc _
    generalize hq : wr.heap.size = q4 at Cq4 ⊢
    generalize hv : wr.alloc (.cells #[.string x.key, .int .i64 (x.f 0), .int .i64 (x.f 1), .int .i64 (x.f 2), .int .i64 (x.f 3), .int .i64 (x.f 4), .int .i64 (x.f 5), .int .i64 (x.f 6), .int .i64 (x.f 7), .slice x.a x.ds.length x.cap] 27) = V4 at Cq4 OA ⊢
    clear hq hv k0 k1 k2 k3 k4 k5 k6 k7 k8 k9 hix
    have c9 : V4.cell? ⟨q4, 9, none⟩ = some (.slice x.a x.ds.length x.cap) := Cq4.cell 9
    have HOA : Hid _ := HO.out.trans OA (fun _ _ h => h)
    clear OA Cq4
    by_cases h30 : x.ds.length ≤ 30
    ·have t1 : decide ((30 : Int) < (x.ds.length : Int)) = false := decide_eq_false (by omega)
     have t2 : decide (30 < x.ds.length) = false := decide_eq_false (by omega)
     have H30 : Hid _ := h30
     clear h30
     go_wp2_with fail
     go_roundw
     case rel =>
      refine ⟨n + 1, by go_num, by omega, fun i y hi hy => ?_, HOA.out⟩
      by_cases e : i = n
      ·subst e
       rw [hx] at hy
       cases hy
       exact H30.out
      ·exact HG.out i y (by omega) hy
     case measure => simp [intOf]; omega
    ·have t1 : decide ((30 : Int) < (x.ds.length : Int)) = true := decide_eq_true (by omega)
     have t2 : decide (30 < x.ds.length) = true := decide_eq_true (by omega)
     go_wp2_with fail
     go_ret
     exact ⟨by rw [thin_bad (List.mem_of_getElem? hx) h30]; rfl, HOA.out⟩
   ·obtain rfl : n = gs.length := by omega
    have e1 : decide ((gs.length : Int) < (gs.length : Int)) = false := decide_eq_false (by omega)
    have e2 : decide (gs.length < gs.length) = false := decide_eq_false (by omega)
    go_wp2_with fail
    go_ret
    refine ⟨?_, HO.out⟩
    have hyes : thinG gs = true := thin_iff.2 ⟨HL.out, fun x hx => ?_⟩
    ·rw [hyes]; rfl
    obtain ⟨i, hi⟩ := List.getElem?_of_mem hx
    have : i < gs.length := by
     obtain ⟨h, -⟩ := List.getElem?_eq_some_iff.1 hi
     exact h
    exact HG.out i x this hi
 ·have d1 : decide ((40 : Int) < (gs.length : Int)) = true := decide_eq_true (by omega)
  have d2 : decide (40 < gs.length) = true := decide_eq_true (by omega)
  go_enter Try.func10, Try.ntmps10
  go_wp2_with fail
  go_ret
  exact ⟨by rw [thin_no hl]; rfl, Off.refl _ w⟩
set_option maxRecDepth 100000 in
set_option maxHeartbeats 1000000 in
theorem lmay_any (a : Option Addr) (cap : Nat) (es : List E) (w : World) (h : Ens w a cap es) : Calls Try.prog 14 #[.slice a es.length cap] w fun e w' => e = .returned (.bool (mayEs es)) ∧ Off (fun _ => False) w w' := by
 have HE : Hid _ := h
 have hnot := not_any
 have hb := h.bound
 have hb2 := h.len
 clear h
 go_enter Try.func14, Try.ntmps14
 go_wp2_with fail
 go_loopw [7] (fun y wr => ∃ n : Nat, y = .int .i64 (n : Int) ∧ n ≤ es.length ∧ (∀ i x, i < n → es[i]? = some x → mayE x = true) ∧ Off (fun _ => False) w wr) (fun y _ => (es.length - intOf y).toNat)
 case atStart => exact ⟨0, rfl, by omega, fun i x hi => by omega, Off.refl _ w⟩
 case round =>
  obtain ⟨n, rfl, hn, hg, O⟩ := hrel
  have HG : Hid _ := hg
  have HO : Hid _ := O
  have hE := HE.out.off O
  clear hg O
  by_cases hlt : n < es.length
  ·have e1 : decide ((n : Int) < (es.length : Int)) = true := decide_eq_true (by omega)
   have e2 : decide (n < es.length) = true := decide_eq_true hlt
   obtain ⟨x, hx⟩ : ∃ x, es[n]? = some x := ⟨_, List.getElem?_eq_getElem hlt⟩
   obtain ⟨bx, ox, rfl, kx, rx⟩ := hE.at_ n x hx
   obtain ⟨k0, k1, k2, k3, k4, k5, k6, k7, k8, k9⟩ := ent10 kx
   have hix := idx_ents hlt
   clear kx hE
   go_upto_region 4 with fail
   have Cq4 := Cel.new wr 40 #[.string x.key, .int .i64 (x.f 0), .int .i64 (x.f 1), .int .i64 (x.f 2), .int .i64 (x.f 3), .int .i64 (x.f 4), .int .i64 (x.f 5), .int .i64 (x.f 6), .int .i64 (x.f 7), .slice x.a x.l.length x.cap]
   have OA : Off (fun _ => False) wr (wr.alloc (.cells #[.string x.key, .int .i64 (x.f 0), .int .i64 (x.f 1), .int .i64 (x.f 2), .int .i64 (x.f 3), .int .i64 (x.f 4), .int .i64 (x.f 5), .int .i64 (x.f 6), .int .i64 (x.f 7), .slice x.a x.l.length x.cap] 40)) := (Off.refl _ wr).alloc _
   generalize hq : wr.heap.size = q4 at Cq4 ⊢
   generalize hv : wr.alloc (.cells #[.string x.key, .int .i64 (x.f 0), .int .i64 (x.f 1), .int .i64 (x.f 2), .int .i64 (x.f 3), .int .i64 (x.f 4), .int .i64 (x.f 5), .int .i64 (x.f 6), .int .i64 (x.f 7), .slice x.a x.l.length x.cap] 40) = V4 at Cq4 OA ⊢
   clear hq hv k0 k1 k2 k3 k4 k5 k6 k7 k8 k9 hix
   obtain ⟨y0, y1, y2, y3, y4, y5, y6, y7, y8, y9⟩ := cel10 Cq4
   have HOA : Hid _ := HO.out.trans OA (fun _ _ h => h)
   have HRX : Hid _ := rx.off OA
   clear OA Cq4 rx
   go_wp2_with fail
   refine (gmayentry_any x.key x.f x.a x.cap x.l _ HRX.out).mono ?_
   rintro e w1 ⟨rfl, o1⟩
   clear y0 y1 y2 y3 y4 y5 y6 y7 y8 y9
   have HO1 : Hid _ := HOA.out.trans o1 (fun _ _ h => h)
   clear o1
   cases hm : (keyB x.key && mayS x.f (cont x.l))
   ·go_wp2_with fail
    go_ret
    refine ⟨?_, HO1.out⟩
    have : mayEs es = false := by
     unfold mayEs
     rw [List.all_eq_false]
     exact ⟨x, List.mem_of_getElem? hx, by unfold mayE; rw [hm]; simp⟩
    rw [this]; rfl
   ·go_wp2_with fail
    go_roundw
    case rel =>
     refine ⟨n + 1, by go_num, by omega, fun i y hi hy => ?_, HO1.out⟩
     by_cases e : i = n
     ·subst e
      rw [hx] at hy
      cases hy
      exact hm
     ·exact HG.out i y (by omega) hy
    case measure => simp [intOf]; omega
  ·obtain rfl : n = es.length := by omega
   have e1 : decide ((es.length : Int) < (es.length : Int)) = false := decide_eq_false (by omega)
   have e2 : decide (es.length < es.length) = false := decide_eq_false (by omega)
   go_wp2_with fail
   go_ret
   refine ⟨?_, HO.out⟩
   have : mayEs es = true := by
    unfold mayEs
    rw [List.all_eq_true]
    intro x hx
    obtain ⟨i, hi⟩ := List.getElem?_of_mem hx
    have : i < es.length := by
     obtain ⟨h, -⟩ := List.getElem?_eq_some_iff.1 hi
     exact h
    exact HG.out i x this hi
   rw [this]; rfl
def awX : E := ⟨⟨#[107]⟩, aw8 1 0, none, 0, []⟩
def awG (b : Nat) : G := ⟨⟨#[107]⟩, aw8 1 0, some ⟨b, 0, none⟩, 1, [(0, 1)]⟩
def awH : G := ⟨⟨#[107]⟩, aw8 1 0, none, 0, []⟩
theorem aw_yes (b : Nat) : lacksB awX.key awX.f (cont awX.l) (awG b).abs = true := by kernel_rfl
theorem aw_not : lacksB awX.key awX.f (cont awX.l) awH.abs = false := by kernel_rfl
set_option maxRecDepth 100000 in
set_option maxHeartbeats 2000000 in
theorem awake_any (w : World) : Calls Try.prog 13 #[] w fun e w' => e = .returned (.bool true) ∧ Off (fun _ => False) w w' := by
 have hnot := not_any
 have C0 := Cel.new w 40 #[.string ⟨#[107]⟩, .int .i64 1, .int .i64 0, .int .i64 0, .int .i64 0, .int .i64 0, .int .i64 0, .int .i64 0, .int .i64 0, .slice none 0 0]
 have O0 : Off (fun _ => False) w (w.alloc (.cells #[.string ⟨#[107]⟩, .int .i64 1, .int .i64 0, .int .i64 0, .int .i64 0, .int .i64 0, .int .i64 0, .int .i64 0, .int .i64 0, .slice none 0 0] 40)) := (Off.refl _ w).alloc _
 go_enter Try.func13, Try.ntmps13
 go_upto_region 2 with fail
 generalize hq : w.heap.size = q at C0 ⊢
 generalize hv : w.alloc (.cells #[.string ⟨#[107]⟩, .int .i64 1, .int .i64 0, .int .i64 0, .int .i64 0, .int .i64 0, .int .i64 0, .int .i64 0, .int .i64 0, .slice none 0 0] 40) = W at C0 O0 ⊢
 clear hq hv
 have HC0 : Hid _ := C0
 have HO0 : Hid _ := O0
 obtain ⟨y0, y1, y2, y3, y4, y5, y6, y7, y8, y9⟩ := cel10 C0
 have CD := Cel.new W 81 #[.int .i64 0, .int .i64 1]
 have OD : Off (fun _ => False) W (W.alloc (.cells #[.int .i64 0, .int .i64 1] 81)) := (Off.refl _ W).alloc _
 have HD : Hid (RowD (W.alloc (.cells #[.int .i64 0, .int .i64 1] 81)) (some ⟨W.heap.size, 0, none⟩) 1 [(0, 1)]) := ⟨by simp, by omega, fun i d hi => by
  rcases i with _ | i
  ·simp at hi
   subst hi
   exact ⟨_, 0, rfl, CD.cell 0, CD.cell 1⟩
  ·simp at hi⟩
 have HOD : Hid _ := OD
 clear C0 O0 CD OD
 go_wp2_with fail
 have hc := lacks_any awX (awG W.heap.size) _ (Row.nil (W.alloc (.cells #[.int .i64 0, .int .i64 1] 81)) none 0 (by omega)) (by decide) HD.out
 rw [aw_yes] at hc
 refine hc.mono ?_
 rintro e w1 ⟨rfl, o1⟩
 clear hc y0 y1 y2 y3 y4 y5 y6 y7 y8 y9
 have O1 := HOD.out.trans o1 (fun _ _ h => h)
 have HO1 : Hid _ := HO0.out.trans O1 (fun _ _ h => h)
 obtain ⟨y0, y1, y2, y3, y4, y5, y6, y7, y8, y9⟩ := cel10 (HC0.out.off O1 (fun h => h))
 clear O1 o1 HD HOD HC0 HO0
 go_wp2_with fail
 have hc := lacks_any awX awH w1 (Row.nil w1 none 0 (by omega)) (by decide) (RowD.nil w1 none 0 (by omega))
 rw [aw_not] at hc
 refine hc.mono ?_
 rintro e w2 ⟨rfl, o2⟩
 clear hc y0 y1 y2 y3 y4 y5 y6 y7 y8 y9
 go_wp2_with fail
 go_ret
 exact ⟨rfl, HO1.out.trans o2 (fun _ _ h => h)⟩
end Go.Proofs.Ytpnnpdfmoldiiaa
