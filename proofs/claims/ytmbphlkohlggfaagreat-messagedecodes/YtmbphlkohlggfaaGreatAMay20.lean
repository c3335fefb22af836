/- Items of several texts. -/
import Derived.Test.YtmbphlkohlggfaaGreatAArg20
import Derived.Test.YtmbphlkohlggfaaGreatAMm20
namespace Go.Proofs.YtmbphlkohlggfaaGreat
set_option maxRecDepth 100000
open Go.RowKit
structure Yes (P : Prop) (e : Ending) : Prop where
 is : ∃ b : Bool, e = .returned (.bool b) ∧ (b = true ↔ P)
theorem Yes.mk' {P : Prop} (b : Bool) (h : b = true ↔ P) : Yes P (.returned (.bool b)) := ⟨b, rfl, h⟩
theorem idx_mems {m n : Nat} (h : n < m) (c g o : Nat) (W : World) : (Instr.indexAt 24 (.slice (some ⟨g, o, none⟩) m c) (.int .i64 (n : Int))).run Tryz.prog W = .ok (.pointer (some ⟨g, o + n * 2, none⟩)) W := by
 go_simp
set_option maxHeartbeats 2000000 in
theorem amy1E_any (v : E) (q : Nat) (w : World) (hxr : Row w v.a v.cap v.l) (hq : Cel q 85 #[.func (.func 60) #[] #[]] w) :
  Calls Tryz.prog 97 #[.agg #[.string v.key, .int .i64 (v.f 0), .int .i64 (v.f 1), .int .i64 (v.f 2), .int .i64 (v.f 3), .int .i64 (v.f 4), .int .i64 (v.f 5), .int .i64 (v.f 6), .int .i64 (v.f 7), .slice v.a v.l.length v.cap], .pointer (some ⟨q, 0, none⟩)] w fun e w' => e = .returned (.bool (!(keyB v.key && mayS v.f (cont v.l)))) ∧ Off (fun _ => False) w w' := by
 have C0 := Cel.new w 46 #[.string v.key, .int .i64 (v.f 0), .int .i64 (v.f 1), .int .i64 (v.f 2), .int .i64 (v.f 3), .int .i64 (v.f 4), .int .i64 (v.f 5), .int .i64 (v.f 6), .int .i64 (v.f 7), .slice v.a v.l.length v.cap]
 have O0 : Off (fun _ => False) w (w.alloc (.cells #[.string v.key, .int .i64 (v.f 0), .int .i64 (v.f 1), .int .i64 (v.f 2), .int .i64 (v.f 3), .int .i64 (v.f 4), .int .i64 (v.f 5), .int .i64 (v.f 6), .int .i64 (v.f 7), .slice v.a v.l.length v.cap] 46)) := (Off.refl _ w).alloc _
 have Q0 := hq.off O0 (fun h => h)
 have HX : Hid _ := hxr.off O0
 clear hxr
 clear hq
 go_enter Tryz.func97, Tryz.ntmps97
 go_upto_region 1 with fail
 generalize hp : w.heap.size = b at C0 ⊢
 generalize hv : w.alloc (.cells #[.string v.key, .int .i64 (v.f 0), .int .i64 (v.f 1), .int .i64 (v.f 2), .int .i64 (v.f 3), .int .i64 (v.f 4), .int .i64 (v.f 5), .int .i64 (v.f 6), .int .i64 (v.f 7), .slice v.a v.l.length v.cap] 46) = W at C0 O0 Q0 HX ⊢
 clear hp hv
 have HO : Hid _ := O0
 have x0 := C0.cell 0
 have x1 := C0.cell 1
 have x2 := C0.cell 2
 have x3 := C0.cell 3
 have x4 := C0.cell 4
 have x5 := C0.cell 5
 have x6 := C0.cell 6
 have x7 := C0.cell 7
 have x8 := C0.cell 8
 have x9 := C0.cell 9
 simp at x0 x1 x2 x3 x4 x5 x6 x7 x8 x9
 have y0 : W.cell? ⟨q, 0, none⟩ = some (.func (.func 60) #[] #[]) := Q0.cell 0
 clear C0 O0 Q0
 go_wp2_with fail
 refine (smayentry_any v.key v.f v.a v.cap v.l _ (HX.out)).mono ?_
 rintro e w1 ⟨rfl, o1⟩
 generalize hr : (keyB v.key && mayS v.f (cont v.l)) = r
 have HRR : Hid _ := hr
 clear hr
 have hnot := not_any r
 go_wp2_with fail
 go_ret
 exact ⟨by rw [HRR.out]; rfl, HO.out.trans o1 (fun _ _ h => h)⟩
set_option maxHeartbeats 2000000 in
theorem amyIE_any (a : Option Addr) (cap : Nat) (xs : List E) (q : Nat) (w : World) (hr : Ens w a cap xs) (hq : Cel q 85 #[.func (.func 60) #[] #[]] w) :
  Calls Tryz.prog 116 #[.slice a xs.length cap, .func (.func 97) #[] #[.pointer (some ⟨q, 0, none⟩)]] w fun e w' => ∃ i : Int, e = .returned (.int .i64 i) ∧ (0 ≤ i ↔ ∃ x ∈ xs, (keyB x.key && mayS x.f (cont x.l)) = false) ∧ Off (fun _ => False) w w' := by
 have hb := hr.bound
 have hb2 := hr.len
 have HR : Hid _ := hr
 have HQ : Hid _ := hq
 clear hr hq
 go_enter Tryz.func116, Tryz.ntmps116
 go_wp2_with fail
 go_loopw [8] (fun y wr => ∃ n : Nat, y = .int .i64 (n : Int) ∧ n ≤ xs.length ∧ (∀ i v, i < n → xs[i]? = some v → (keyB v.key && mayS v.f (cont v.l)) = true) ∧ Off (fun _ => False) w wr) (fun y _ => (xs.length - intOf y).toNat)
 case atStart => exact ⟨0, rfl, by omega, fun i v hi => by omega, Off.refl _ w⟩
 case round =>
  obtain ⟨n, rfl, hn, hg, O⟩ := hrel
  have HG : Hid _ := hg
  clear hg
  by_cases hlt : n < xs.length
  ·have e1 : decide ((n : Int) < (xs.length : Int)) = true := decide_eq_true (by omega)
   have e2 : decide (n < xs.length) = true := decide_eq_true hlt
   obtain ⟨v, hv⟩ : ∃ v, xs[n]? = some v := ⟨_, List.getElem?_eq_getElem hlt⟩
   have hA := (HR.out.off O).at_ n v hv
   obtain ⟨b, off, rfl, k10, hxr⟩ := hA
   obtain ⟨k0, k1, k2, k3, k4, k5, k6, k7, k8, k9⟩ := ent10 k10
   clear k10
   have HX : Hid _ := hxr
   clear hxr
   have hix := idx_ents hlt
   have HV : Hid _ := hv
   have HO : Hid _ := O
   clear hv O
   go_wp2_with fail
   refine (amy1E_any v q _ HX.out (HQ.out.off HO.out (fun h => h))).mono ?_
   rintro e w2 ⟨rfl, o2⟩
   clear k0 k1 k2 k3 k4 k5 k6 k7 k8 k9 hix
   cases hd : (keyB v.key && mayS v.f (cont v.l))
   ·go_wp2_with fail
    go_ret
    refine ⟨(n : Int), rfl, ⟨fun _ => ⟨v, List.mem_of_getElem? HV.out, hd⟩, fun _ => by omega⟩, HO.out.trans o2 (fun _ _ h => h)⟩
   ·go_wp2_with fail
    go_roundw
    case rel =>
     refine ⟨n + 1, by go_num, by omega, fun i u hi hu => ?_, HO.out.trans o2 (fun _ _ h => h)⟩
     rcases Nat.lt_or_ge i n with h | h
     ·exact HG.out i u h hu
     ·obtain rfl : i = n := by omega
      rw [HV.out] at hu
      cases hu
      exact hd
    case measure => simp [intOf]; omega
  ·obtain rfl : n = xs.length := by omega
   have e1 : decide ((xs.length : Int) < (xs.length : Int)) = false := decide_eq_false (by omega)
   have e2 : decide (xs.length < xs.length) = false := decide_eq_false (by omega)
   go_wp2_with fail
   go_ret
   refine ⟨-1, rfl, ⟨fun h => by omega, fun h => ?_⟩, O⟩
   obtain ⟨v, hv, hd⟩ := h
   obtain ⟨i, hi⟩ := List.getElem?_of_mem hv
   have hlt : i < xs.length := by
    obtain ⟨h, -⟩ := List.getElem?_eq_some_iff.1 hi
    exact h
   rw [HG.out i v hlt hi] at hd
   cases hd
set_option maxHeartbeats 2000000 in
theorem amyCE_any (a : Option Addr) (cap : Nat) (xs : List E) (q : Nat) (w : World) (hr : Ens w a cap xs) (hq : Cel q 85 #[.func (.func 60) #[] #[]] w) :
  Calls Tryz.prog 96 #[.slice a xs.length cap, .func (.func 97) #[] #[.pointer (some ⟨q, 0, none⟩)]] w fun e w' => Yes (∃ x ∈ xs, (keyB x.key && mayS x.f (cont x.l)) = false) e ∧ Off (fun _ => False) w w' := by
 generalize hP : (∃ x ∈ xs, (keyB x.key && mayS x.f (cont x.l)) = false) = P
 have HP : Hid _ := hP
 clear hP
 have HR : Hid _ := hr
 have HQ : Hid _ := hq
 clear hr hq
 go_enter Tryz.func96, Tryz.ntmps96
 go_wp2_with fail
 refine (amyIE_any a cap xs q _ HR.out HQ.out).mono ?_
 rintro e w1 ⟨i, rfl, hi, o1⟩
 have HI : Hid _ := hi
 have HO : Hid _ := o1
 clear hi o1
 by_cases h0 : 0 ≤ i
 ·have d1 : decide (0 ≤ i) = true := decide_eq_true h0
  have HZ : Hid _ := h0
  clear h0
  go_wp2_with fail
  go_ret
  exact ⟨.mk' true (by rw [← HP.out]; exact ⟨fun _ => HI.out.1 HZ.out, fun _ => rfl⟩), HO.out⟩
 ·have d1 : decide (0 ≤ i) = false := decide_eq_false h0
  have HZ : Hid (¬ 0 ≤ i) := h0
  clear h0
  go_wp2_with fail
  go_ret
  exact ⟨.mk' false (by rw [← HP.out]; exact ⟨fun h => (by cases h), fun h => absurd (HI.out.2 h) (by have := HZ.out; omega)⟩), HO.out⟩
set_option maxHeartbeats 2000000 in
theorem allMayE_any (a : Option Addr) (cap : Nat) (xs : List E) (mo : Int) (w : World) (hr : Ens w a cap xs) :
  Calls Tryz.prog 59 #[.slice a xs.length cap, .int .i64 mo, .func (.func 60) #[] #[]] w fun e w' => Yes ((xs.length : Int) ≤ mo ∧ ∀ x ∈ xs, (keyB x.key && mayS x.f (cont x.l)) = true) e ∧ Off (fun _ => False) w w' := by
 generalize hP : ((xs.length : Int) ≤ mo ∧ ∀ x ∈ xs, (keyB x.key && mayS x.f (cont x.l)) = true) = P
 have HP : Hid _ := hP
 clear hP
 have C0 := Cel.new w 85 #[.func (.func 60) #[] #[]]
 have O0 : Off (fun _ => False) w (w.alloc (.cells #[.func (.func 60) #[] #[]] 85)) := (Off.refl _ w).alloc _
 have R0 := hr.off O0
 clear hr
 by_cases hl : (xs.length : Int) ≤ mo
 ·have d1 : decide ((xs.length : Int) ≤ mo) = true := decide_eq_true hl
  have HL : Hid ((xs.length : Int) ≤ mo) := hl
  clear hl
  go_enter Tryz.func59, Tryz.ntmps59
  go_upto_region 1 with fail
  generalize hp : w.heap.size = b at C0 ⊢
  generalize hv : w.alloc (.cells #[.func (.func 60) #[] #[]] 85) = W at C0 O0 R0 ⊢
  clear hp hv
  have HO : Hid _ := O0
  have HC : Hid _ := C0
  have HR : Hid _ := R0
  clear C0 O0 R0
  go_wp2_with fail
  refine (amyCE_any a cap xs b _ HR.out HC.out).mono ?_
  rintro e w1 ⟨⟨c, rfl, hc⟩, o1⟩
  have hnot := not_any c
  have HCC : Hid _ := hc
  clear hc
  go_wp2_with fail
  go_ret
  refine ⟨.mk' (!c) (by
   rw [← HP.out]
   refine ⟨fun h => ⟨HL.out, fun x hx => ?_⟩, fun h => ?_⟩
   ·cases hd : (keyB x.key && mayS x.f (cont x.l))
    ·have := HCC.out.2 ⟨x, hx, hd⟩
     rw [this] at h
     cases h
    ·rfl
   ·cases hd : c
    ·rfl
    ·obtain ⟨x, hx, hf⟩ := HCC.out.1 hd
     rw [h.2 x hx] at hf
     cases hf), HO.out.trans o1 (fun _ _ h => h)⟩
 ·have d1 : decide ((xs.length : Int) ≤ mo) = false := decide_eq_false hl
  have HL : Hid (¬ (xs.length : Int) ≤ mo) := hl
  clear hl
  go_enter Tryz.func59, Tryz.ntmps59
  go_upto_region 1 with fail
  generalize hv : w.alloc (.cells #[.func (.func 60) #[] #[]] 85) = W at C0 O0 R0 ⊢
  clear hv C0 R0
  have HO : Hid _ := O0
  clear O0
  go_wp2_with fail
  go_ret
  exact ⟨.mk' false (by rw [← HP.out]; exact ⟨fun h => (by cases h), fun h => absurd h.1 (by have := HL.out; omega)⟩), HO.out⟩
set_option maxHeartbeats 2000000 in
theorem amy1D_any (v : G) (q : Nat) (w : World) (hxr : RowD w v.a v.cap v.ds) (hq : Cel q 86 #[.func (.func 62) #[] #[]] w) :
  Calls Tryz.prog 100 #[.agg #[.string v.key, .int .i64 (v.f 0), .int .i64 (v.f 1), .int .i64 (v.f 2), .int .i64 (v.f 3), .int .i64 (v.f 4), .int .i64 (v.f 5), .int .i64 (v.f 6), .int .i64 (v.f 7), .slice v.a v.ds.length v.cap], .pointer (some ⟨q, 0, none⟩)] w fun e w' => e = .returned (.bool (!(mayD ⟨v.key, v.f, v.ds⟩))) ∧ Off (fun _ => False) w w' := by
 have C0 := Cel.new w 49 #[.string v.key, .int .i64 (v.f 0), .int .i64 (v.f 1), .int .i64 (v.f 2), .int .i64 (v.f 3), .int .i64 (v.f 4), .int .i64 (v.f 5), .int .i64 (v.f 6), .int .i64 (v.f 7), .slice v.a v.ds.length v.cap]
 have O0 : Off (fun _ => False) w (w.alloc (.cells #[.string v.key, .int .i64 (v.f 0), .int .i64 (v.f 1), .int .i64 (v.f 2), .int .i64 (v.f 3), .int .i64 (v.f 4), .int .i64 (v.f 5), .int .i64 (v.f 6), .int .i64 (v.f 7), .slice v.a v.ds.length v.cap] 49)) := (Off.refl _ w).alloc _
 have Q0 := hq.off O0 (fun h => h)
 have HX : Hid _ := hxr.off O0
 clear hxr
 clear hq
 go_enter Tryz.func100, Tryz.ntmps100
 go_upto_region 1 with fail
 generalize hp : w.heap.size = b at C0 ⊢
 generalize hv : w.alloc (.cells #[.string v.key, .int .i64 (v.f 0), .int .i64 (v.f 1), .int .i64 (v.f 2), .int .i64 (v.f 3), .int .i64 (v.f 4), .int .i64 (v.f 5), .int .i64 (v.f 6), .int .i64 (v.f 7), .slice v.a v.ds.length v.cap] 49) = W at C0 O0 Q0 HX ⊢
 clear hp hv
 have HO : Hid _ := O0
 have x0 := C0.cell 0
 have x1 := C0.cell 1
 have x2 := C0.cell 2
 have x3 := C0.cell 3
 have x4 := C0.cell 4
 have x5 := C0.cell 5
 have x6 := C0.cell 6
 have x7 := C0.cell 7
 have x8 := C0.cell 8
 have x9 := C0.cell 9
 simp at x0 x1 x2 x3 x4 x5 x6 x7 x8 x9
 have y0 : W.cell? ⟨q, 0, none⟩ = some (.func (.func 62) #[] #[]) := Q0.cell 0
 clear C0 O0 Q0
 go_wp2_with fail
 refine (dmay_any v.key v.f v.a v.cap v.ds _ (HX.out)).mono ?_
 rintro e w1 ⟨rfl, o1⟩
 generalize hr : (mayD ⟨v.key, v.f, v.ds⟩) = r
 have HRR : Hid _ := hr
 clear hr
 have hnot := not_any r
 go_wp2_with fail
 go_ret
 exact ⟨by rw [HRR.out]; rfl, HO.out.trans o1 (fun _ _ h => h)⟩
set_option maxHeartbeats 2000000 in
theorem amyID_any (a : Option Addr) (cap : Nat) (xs : List G) (q : Nat) (w : World) (hr : Dgs w a cap xs) (hq : Cel q 86 #[.func (.func 62) #[] #[]] w) :
  Calls Tryz.prog 118 #[.slice a xs.length cap, .func (.func 100) #[] #[.pointer (some ⟨q, 0, none⟩)]] w fun e w' => ∃ i : Int, e = .returned (.int .i64 i) ∧ (0 ≤ i ↔ ∃ x ∈ xs, (mayD ⟨x.key, x.f, x.ds⟩) = false) ∧ Off (fun _ => False) w w' := by
 have hb := hr.bound
 have hb2 := hr.len
 have HR : Hid _ := hr
 have HQ : Hid _ := hq
 clear hr hq
 go_enter Tryz.func118, Tryz.ntmps118
 go_wp2_with fail
 go_loopw [8] (fun y wr => ∃ n : Nat, y = .int .i64 (n : Int) ∧ n ≤ xs.length ∧ (∀ i v, i < n → xs[i]? = some v → (mayD ⟨v.key, v.f, v.ds⟩) = true) ∧ Off (fun _ => False) w wr) (fun y _ => (xs.length - intOf y).toNat)
 case atStart => exact ⟨0, rfl, by omega, fun i v hi => by omega, Off.refl _ w⟩
 case round =>
  obtain ⟨n, rfl, hn, hg, O⟩ := hrel
  have HG : Hid _ := hg
  clear hg
  by_cases hlt : n < xs.length
  ·have e1 : decide ((n : Int) < (xs.length : Int)) = true := decide_eq_true (by omega)
   have e2 : decide (n < xs.length) = true := decide_eq_true hlt
   obtain ⟨v, hv⟩ : ∃ v, xs[n]? = some v := ⟨_, List.getElem?_eq_getElem hlt⟩
   have hA := (HR.out.off O).at_ n v hv
   obtain ⟨b, off, rfl, k10, hxr⟩ := hA
   obtain ⟨k0, k1, k2, k3, k4, k5, k6, k7, k8, k9⟩ := dg10 k10
   clear k10
   have HX : Hid _ := hxr
   clear hxr
   have hix := idx_dgs hlt
   have HV : Hid _ := hv
   have HO : Hid _ := O
   clear hv O
   go_wp2_with fail
   refine (amy1D_any v q _ HX.out (HQ.out.off HO.out (fun h => h))).mono ?_
   rintro e w2 ⟨rfl, o2⟩
   clear k0 k1 k2 k3 k4 k5 k6 k7 k8 k9 hix
   cases hd : (mayD ⟨v.key, v.f, v.ds⟩)
   ·go_wp2_with fail
    go_ret
    refine ⟨(n : Int), rfl, ⟨fun _ => ⟨v, List.mem_of_getElem? HV.out, hd⟩, fun _ => by omega⟩, HO.out.trans o2 (fun _ _ h => h)⟩
   ·go_wp2_with fail
    go_roundw
    case rel =>
     refine ⟨n + 1, by go_num, by omega, fun i u hi hu => ?_, HO.out.trans o2 (fun _ _ h => h)⟩
     rcases Nat.lt_or_ge i n with h | h
     ·exact HG.out i u h hu
     ·obtain rfl : i = n := by omega
      rw [HV.out] at hu
      cases hu
      exact hd
    case measure => simp [intOf]; omega
  ·obtain rfl : n = xs.length := by omega
   have e1 : decide ((xs.length : Int) < (xs.length : Int)) = false := decide_eq_false (by omega)
   have e2 : decide (xs.length < xs.length) = false := decide_eq_false (by omega)
   go_wp2_with fail
   go_ret
   refine ⟨-1, rfl, ⟨fun h => by omega, fun h => ?_⟩, O⟩
   obtain ⟨v, hv, hd⟩ := h
   obtain ⟨i, hi⟩ := List.getElem?_of_mem hv
   have hlt : i < xs.length := by
    obtain ⟨h, -⟩ := List.getElem?_eq_some_iff.1 hi
    exact h
   rw [HG.out i v hlt hi] at hd
   cases hd
set_option maxHeartbeats 2000000 in
theorem amyCD_any (a : Option Addr) (cap : Nat) (xs : List G) (q : Nat) (w : World) (hr : Dgs w a cap xs) (hq : Cel q 86 #[.func (.func 62) #[] #[]] w) :
  Calls Tryz.prog 99 #[.slice a xs.length cap, .func (.func 100) #[] #[.pointer (some ⟨q, 0, none⟩)]] w fun e w' => Yes (∃ x ∈ xs, (mayD ⟨x.key, x.f, x.ds⟩) = false) e ∧ Off (fun _ => False) w w' := by
 generalize hP : (∃ x ∈ xs, (mayD ⟨x.key, x.f, x.ds⟩) = false) = P
 have HP : Hid _ := hP
 clear hP
 have HR : Hid _ := hr
 have HQ : Hid _ := hq
 clear hr hq
 go_enter Tryz.func99, Tryz.ntmps99
 go_wp2_with fail
 refine (amyID_any a cap xs q _ HR.out HQ.out).mono ?_
 rintro e w1 ⟨i, rfl, hi, o1⟩
 have HI : Hid _ := hi
 have HO : Hid _ := o1
 clear hi o1
 by_cases h0 : 0 ≤ i
 ·have d1 : decide (0 ≤ i) = true := decide_eq_true h0
  have HZ : Hid _ := h0
  clear h0
  go_wp2_with fail
  go_ret
  exact ⟨.mk' true (by rw [← HP.out]; exact ⟨fun _ => HI.out.1 HZ.out, fun _ => rfl⟩), HO.out⟩
 ·have d1 : decide (0 ≤ i) = false := decide_eq_false h0
  have HZ : Hid (¬ 0 ≤ i) := h0
  clear h0
  go_wp2_with fail
  go_ret
  exact ⟨.mk' false (by rw [← HP.out]; exact ⟨fun h => (by cases h), fun h => absurd (HI.out.2 h) (by have := HZ.out; omega)⟩), HO.out⟩
set_option maxHeartbeats 2000000 in
theorem allMayD_any (a : Option Addr) (cap : Nat) (xs : List G) (mo : Int) (w : World) (hr : Dgs w a cap xs) :
  Calls Tryz.prog 61 #[.slice a xs.length cap, .int .i64 mo, .func (.func 62) #[] #[]] w fun e w' => Yes ((xs.length : Int) ≤ mo ∧ ∀ x ∈ xs, (mayD ⟨x.key, x.f, x.ds⟩) = true) e ∧ Off (fun _ => False) w w' := by
 generalize hP : ((xs.length : Int) ≤ mo ∧ ∀ x ∈ xs, (mayD ⟨x.key, x.f, x.ds⟩) = true) = P
 have HP : Hid _ := hP
 clear hP
 have C0 := Cel.new w 86 #[.func (.func 62) #[] #[]]
 have O0 : Off (fun _ => False) w (w.alloc (.cells #[.func (.func 62) #[] #[]] 86)) := (Off.refl _ w).alloc _
 have R0 := hr.off O0
 clear hr
 by_cases hl : (xs.length : Int) ≤ mo
 ·have d1 : decide ((xs.length : Int) ≤ mo) = true := decide_eq_true hl
  have HL : Hid ((xs.length : Int) ≤ mo) := hl
  clear hl
  go_enter Tryz.func61, Tryz.ntmps61
  go_upto_region 1 with fail
  generalize hp : w.heap.size = b at C0 ⊢
  generalize hv : w.alloc (.cells #[.func (.func 62) #[] #[]] 86) = W at C0 O0 R0 ⊢
  clear hp hv
  have HO : Hid _ := O0
  have HC : Hid _ := C0
  have HR : Hid _ := R0
  clear C0 O0 R0
  go_wp2_with fail
  refine (amyCD_any a cap xs b _ HR.out HC.out).mono ?_
  rintro e w1 ⟨⟨c, rfl, hc⟩, o1⟩
  have hnot := not_any c
  have HCC : Hid _ := hc
  clear hc
  go_wp2_with fail
  go_ret
  refine ⟨.mk' (!c) (by
   rw [← HP.out]
   refine ⟨fun h => ⟨HL.out, fun x hx => ?_⟩, fun h => ?_⟩
   ·cases hd : (mayD ⟨x.key, x.f, x.ds⟩)
    ·have := HCC.out.2 ⟨x, hx, hd⟩
     rw [this] at h
     cases h
    ·rfl
   ·cases hd : c
    ·rfl
    ·obtain ⟨x, hx, hf⟩ := HCC.out.1 hd
     rw [h.2 x hx] at hf
     cases hf), HO.out.trans o1 (fun _ _ h => h)⟩
 ·have d1 : decide ((xs.length : Int) ≤ mo) = false := decide_eq_false hl
  have HL : Hid (¬ (xs.length : Int) ≤ mo) := hl
  clear hl
  go_enter Tryz.func61, Tryz.ntmps61
  go_upto_region 1 with fail
  generalize hv : w.alloc (.cells #[.func (.func 62) #[] #[]] 86) = W at C0 O0 R0 ⊢
  clear hv C0 R0
  have HO : Hid _ := O0
  clear O0
  go_wp2_with fail
  go_ret
  exact ⟨.mk' false (by rw [← HP.out]; exact ⟨fun h => (by cases h), fun h => absurd h.1 (by have := HL.out; omega)⟩), HO.out⟩
set_option maxHeartbeats 2000000 in
theorem amy1M_any (v : (Int × Int)) (q : Nat) (w : World)  (hq : Cel q 87 #[.func (.func 64) #[] #[]] w) :
  Calls Tryz.prog 105 #[.agg #[.int .i64 v.1, .int .i64 v.2], .pointer (some ⟨q, 0, none⟩)] w fun e w' => e = .returned (.bool (!(mbB v.1 v.2))) ∧ Off (fun _ => False) w w' := by
 have C0 := Cel.new w 60 #[.int .i64 v.1, .int .i64 v.2]
 have O0 : Off (fun _ => False) w (w.alloc (.cells #[.int .i64 v.1, .int .i64 v.2] 60)) := (Off.refl _ w).alloc _
 have Q0 := hq.off O0 (fun h => h)
 clear hq
 go_enter Tryz.func105, Tryz.ntmps105
 go_upto_region 1 with fail
 generalize hp : w.heap.size = b at C0 ⊢
 generalize hv : w.alloc (.cells #[.int .i64 v.1, .int .i64 v.2] 60) = W at C0 O0 Q0 ⊢
 clear hp hv
 have HO : Hid _ := O0
 have x0 := C0.cell 0
 have x1 := C0.cell 1
 simp at x0 x1
 have y0 : W.cell? ⟨q, 0, none⟩ = some (.func (.func 64) #[] #[]) := Q0.cell 0
 clear C0 O0 Q0
 go_wp2_with fail
 refine (mmay_any v.1 v.2 _).mono ?_
 rintro e w1 ⟨rfl, o1⟩
 generalize hr : (mbB v.1 v.2) = r
 have HRR : Hid _ := hr
 clear hr
 have hnot := not_any r
 go_wp2_with fail
 go_ret
 exact ⟨by rw [HRR.out]; rfl, HO.out.trans o1 (fun _ _ h => h)⟩
set_option maxHeartbeats 2000000 in
theorem amyIM_any (a : Option Addr) (cap : Nat) (xs : List (Int × Int)) (q : Nat) (w : World) (hr : RowD w a cap xs) (hq : Cel q 87 #[.func (.func 64) #[] #[]] w) :
  Calls Tryz.prog 120 #[.slice a xs.length cap, .func (.func 105) #[] #[.pointer (some ⟨q, 0, none⟩)]] w fun e w' => ∃ i : Int, e = .returned (.int .i64 i) ∧ (0 ≤ i ↔ ∃ x ∈ xs, (mbB x.1 x.2) = false) ∧ Off (fun _ => False) w w' := by
 have hb := hr.bound
 have hb2 := hr.len
 have HR : Hid _ := hr
 have HQ : Hid _ := hq
 clear hr hq
 go_enter Tryz.func120, Tryz.ntmps120
 go_wp2_with fail
 go_loopw [8] (fun y wr => ∃ n : Nat, y = .int .i64 (n : Int) ∧ n ≤ xs.length ∧ (∀ i v, i < n → xs[i]? = some v → (mbB v.1 v.2) = true) ∧ Off (fun _ => False) w wr) (fun y _ => (xs.length - intOf y).toNat)
 case atStart => exact ⟨0, rfl, by omega, fun i v hi => by omega, Off.refl _ w⟩
 case round =>
  obtain ⟨n, rfl, hn, hg, O⟩ := hrel
  have HG : Hid _ := hg
  clear hg
  by_cases hlt : n < xs.length
  ·have e1 : decide ((n : Int) < (xs.length : Int)) = true := decide_eq_true (by omega)
   have e2 : decide (n < xs.length) = true := decide_eq_true hlt
   obtain ⟨v, hv⟩ : ∃ v, xs[n]? = some v := ⟨_, List.getElem?_eq_getElem hlt⟩
   have hA := (HR.out.off O).at_ n v hv
   obtain ⟨b, off, rfl, k0, k1⟩ := hA
   have hix := idx_mems hlt
   have HV : Hid _ := hv
   have HO : Hid _ := O
   clear hv O
   go_wp2_with fail
   refine (amy1M_any v q _ (HQ.out.off HO.out (fun h => h))).mono ?_
   rintro e w2 ⟨rfl, o2⟩
   clear k0 k1 hix
   cases hd : (mbB v.1 v.2)
   ·go_wp2_with fail
    go_ret
    refine ⟨(n : Int), rfl, ⟨fun _ => ⟨v, List.mem_of_getElem? HV.out, hd⟩, fun _ => by omega⟩, HO.out.trans o2 (fun _ _ h => h)⟩
   ·go_wp2_with fail
    go_roundw
    case rel =>
     refine ⟨n + 1, by go_num, by omega, fun i u hi hu => ?_, HO.out.trans o2 (fun _ _ h => h)⟩
     rcases Nat.lt_or_ge i n with h | h
     ·exact HG.out i u h hu
     ·obtain rfl : i = n := by omega
      rw [HV.out] at hu
      cases hu
      exact hd
    case measure => simp [intOf]; omega
  ·obtain rfl : n = xs.length := by omega
   have e1 : decide ((xs.length : Int) < (xs.length : Int)) = false := decide_eq_false (by omega)
   have e2 : decide (xs.length < xs.length) = false := decide_eq_false (by omega)
   go_wp2_with fail
   go_ret
   refine ⟨-1, rfl, ⟨fun h => by omega, fun h => ?_⟩, O⟩
   obtain ⟨v, hv, hd⟩ := h
   obtain ⟨i, hi⟩ := List.getElem?_of_mem hv
   have hlt : i < xs.length := by
    obtain ⟨h, -⟩ := List.getElem?_eq_some_iff.1 hi
    exact h
   rw [HG.out i v hlt hi] at hd
   cases hd
set_option maxHeartbeats 2000000 in
theorem amyCM_any (a : Option Addr) (cap : Nat) (xs : List (Int × Int)) (q : Nat) (w : World) (hr : RowD w a cap xs) (hq : Cel q 87 #[.func (.func 64) #[] #[]] w) :
  Calls Tryz.prog 104 #[.slice a xs.length cap, .func (.func 105) #[] #[.pointer (some ⟨q, 0, none⟩)]] w fun e w' => Yes (∃ x ∈ xs, (mbB x.1 x.2) = false) e ∧ Off (fun _ => False) w w' := by
 generalize hP : (∃ x ∈ xs, (mbB x.1 x.2) = false) = P
 have HP : Hid _ := hP
 clear hP
 have HR : Hid _ := hr
 have HQ : Hid _ := hq
 clear hr hq
 go_enter Tryz.func104, Tryz.ntmps104
 go_wp2_with fail
 refine (amyIM_any a cap xs q _ HR.out HQ.out).mono ?_
 rintro e w1 ⟨i, rfl, hi, o1⟩
 have HI : Hid _ := hi
 have HO : Hid _ := o1
 clear hi o1
 by_cases h0 : 0 ≤ i
 ·have d1 : decide (0 ≤ i) = true := decide_eq_true h0
  have HZ : Hid _ := h0
  clear h0
  go_wp2_with fail
  go_ret
  exact ⟨.mk' true (by rw [← HP.out]; exact ⟨fun _ => HI.out.1 HZ.out, fun _ => rfl⟩), HO.out⟩
 ·have d1 : decide (0 ≤ i) = false := decide_eq_false h0
  have HZ : Hid (¬ 0 ≤ i) := h0
  clear h0
  go_wp2_with fail
  go_ret
  exact ⟨.mk' false (by rw [← HP.out]; exact ⟨fun h => (by cases h), fun h => absurd (HI.out.2 h) (by have := HZ.out; omega)⟩), HO.out⟩
set_option maxHeartbeats 2000000 in
theorem allMayM_any (a : Option Addr) (cap : Nat) (xs : List (Int × Int)) (mo : Int) (w : World) (hr : RowD w a cap xs) :
  Calls Tryz.prog 63 #[.slice a xs.length cap, .int .i64 mo, .func (.func 64) #[] #[]] w fun e w' => Yes ((xs.length : Int) ≤ mo ∧ ∀ x ∈ xs, (mbB x.1 x.2) = true) e ∧ Off (fun _ => False) w w' := by
 generalize hP : ((xs.length : Int) ≤ mo ∧ ∀ x ∈ xs, (mbB x.1 x.2) = true) = P
 have HP : Hid _ := hP
 clear hP
 have C0 := Cel.new w 87 #[.func (.func 64) #[] #[]]
 have O0 : Off (fun _ => False) w (w.alloc (.cells #[.func (.func 64) #[] #[]] 87)) := (Off.refl _ w).alloc _
 have R0 := hr.off O0
 clear hr
 by_cases hl : (xs.length : Int) ≤ mo
 ·have d1 : decide ((xs.length : Int) ≤ mo) = true := decide_eq_true hl
  have HL : Hid ((xs.length : Int) ≤ mo) := hl
  clear hl
  go_enter Tryz.func63, Tryz.ntmps63
  go_upto_region 1 with fail
  generalize hp : w.heap.size = b at C0 ⊢
  generalize hv : w.alloc (.cells #[.func (.func 64) #[] #[]] 87) = W at C0 O0 R0 ⊢
  clear hp hv
  have HO : Hid _ := O0
  have HC : Hid _ := C0
  have HR : Hid _ := R0
  clear C0 O0 R0
  go_wp2_with fail
  refine (amyCM_any a cap xs b _ HR.out HC.out).mono ?_
  rintro e w1 ⟨⟨c, rfl, hc⟩, o1⟩
  have hnot := not_any c
  have HCC : Hid _ := hc
  clear hc
  go_wp2_with fail
  go_ret
  refine ⟨.mk' (!c) (by
   rw [← HP.out]
   refine ⟨fun h => ⟨HL.out, fun x hx => ?_⟩, fun h => ?_⟩
   ·cases hd : (mbB x.1 x.2)
    ·have := HCC.out.2 ⟨x, hx, hd⟩
     rw [this] at h
     cases h
    ·rfl
   ·cases hd : c
    ·rfl
    ·obtain ⟨x, hx, hf⟩ := HCC.out.1 hd
     rw [h.2 x hx] at hf
     cases hf), HO.out.trans o1 (fun _ _ h => h)⟩
 ·have d1 : decide ((xs.length : Int) ≤ mo) = false := decide_eq_false hl
  have HL : Hid (¬ (xs.length : Int) ≤ mo) := hl
  clear hl
  go_enter Tryz.func63, Tryz.ntmps63
  go_upto_region 1 with fail
  generalize hv : w.alloc (.cells #[.func (.func 64) #[] #[]] 87) = W at C0 O0 R0 ⊢
  clear hv C0 R0
  have HO : Hid _ := O0
  clear O0
  go_wp2_with fail
  go_ret
  exact ⟨.mk' false (by rw [← HP.out]; exact ⟨fun h => (by cases h), fun h => absurd h.1 (by have := HL.out; omega)⟩), HO.out⟩
end Go.Proofs.YtmbphlkohlggfaaGreat

namespace Go.Proofs.YtmbphlkohlggfaaGreat
set_option maxRecDepth 100000
open Go.RowKit
structure MD where
 k : Int
 fr : Int
 tn : Int
 op : Int
 fo : Int
 key : ByteArray
 bk : Int
 es : List K
 gs : List GK
 ms : List (Int × Int)
def mdOf (X : Mg) (es : List E) (gs : List G) (ms : List (Int × Int)) : MD := ⟨X.k, X.fr, X.tn, X.op, X.fo, X.key, X.bk, es.map E.abs, gs.map G.abs, ms⟩
def mayK (k : K) : Bool := keyB k.key && mayS k.f k.l
structure MayM (d : MD) : Prop where
 k : 1 ≤ d.k ∧ d.k ≤ 9
 fr : ndB d.fr = true
 tn : ndB d.tn = true
 op : 0 ≤ d.op ∧ d.op ≤ 1099511627776
 fo : ndB d.fo = true
 key : cond (decide (d.k = 4)) (keyB d.key) (decide (d.key.size ≤ 32)) = true
 bk : 0 ≤ d.bk ∧ d.bk < 4
 lo : eLo d.k ≤ (d.es.length : Int)
 hi : (d.es.length : Int) ≤ eHi d.k
 es : ∀ x ∈ d.es, mayK x = true
 gl : d.gs.length ≤ 256
 gs : ∀ g ∈ d.gs, mayD g = true
 ml : d.ms.length ≤ 8
 ms : ∀ x ∈ d.ms, mbB x.1 x.2 = true
theorem allE_iff {es : List E} : (∀ x ∈ es.map E.abs, mayK x = true) ↔ ∀ x ∈ es, (keyB x.key && mayS x.f (cont x.l)) = true := by
 constructor
 ·intro h x hx
  exact h x.abs (List.mem_map.2 ⟨x, hx, rfl⟩)
 ·intro h x hx
  obtain ⟨y, hy, rfl⟩ := List.mem_map.1 hx
  exact h y hy
theorem allG_iff {gs : List G} : (∀ x ∈ gs.map G.abs, mayD x = true) ↔ ∀ x ∈ gs, mayD ⟨x.key, x.f, x.ds⟩ = true := by
 constructor
 ·intro h x hx
  exact h x.abs (List.mem_map.2 ⟨x, hx, rfl⟩)
 ·intro h x hx
  obtain ⟨y, hy, rfl⟩ := List.mem_map.1 hx
  exact h y hy
set_option maxHeartbeats 4000000 in
theorem xmay_core (m X : Mg) (e1 : List E) (g1 : List G) (m1 : List (Int × Int)) (w : World) (hx : MsgAt w X e1 g1 m1) (hb : ∀ W, Calls Tryz.prog 55 #[(.agg #[.int .i64 m.k, .int .i64 m.fr, .int .i64 m.tn, .int .i64 m.op, .int .i64 m.fo, .string m.key, .int .i64 m.bk, .slice m.ea m.el m.ec, .slice m.da m.dl m.dc, .slice m.ma m.ml m.mc])] W fun e w' => e = .returned ((.agg #[.int .i64 X.k, .int .i64 X.fr, .int .i64 X.tn, .int .i64 X.op, .int .i64 X.fo, .string X.key, .int .i64 X.bk, .slice X.ea X.el X.ec, .slice X.da X.dl X.dc, .slice X.ma X.ml X.mc])) ∧ Off (fun _ => False) W w') :
  Calls Tryz.prog 21 #[(.agg #[.int .i64 m.k, .int .i64 m.fr, .int .i64 m.tn, .int .i64 m.op, .int .i64 m.fo, .string m.key, .int .i64 m.bk, .slice m.ea m.el m.ec, .slice m.da m.dl m.dc, .slice m.ma m.ml m.mc])] w fun e w' => Yes (MayM (mdOf X e1 g1 m1)) e ∧ Off (fun _ => False) w w' := by
 have HB : Hid (∀ W, Calls Tryz.prog 55 #[(.agg #[.int .i64 m.k, .int .i64 m.fr, .int .i64 m.tn, .int .i64 m.op, .int .i64 m.fo, .string m.key, .int .i64 m.bk, .slice m.ea m.el m.ec, .slice m.da m.dl m.dc, .slice m.ma m.ml m.mc])] W fun e w' => e = .returned ((.agg #[.int .i64 X.k, .int .i64 X.fr, .int .i64 X.tn, .int .i64 X.op, .int .i64 X.fo, .string X.key, .int .i64 X.bk, .slice X.ea X.el X.ec, .slice X.da X.dl X.dc, .slice X.ma X.ml X.mc])) ∧ Off (fun _ => False) W w') := hb
 obtain ⟨k, fr, tn, op, fo, key, bk, ea, el, ec, da, dl, dc, ma, ml, mc⟩ := X
 obtain rfl : el = e1.length := hx.el
 obtain rfl : dl = g1.length := hx.dl
 obtain rfl : ml = m1.length := hx.ml
 show Calls Tryz.prog 21 #[(.agg #[.int .i64 m.k, .int .i64 m.fr, .int .i64 m.tn, .int .i64 m.op, .int .i64 m.fo, .string m.key, .int .i64 m.bk, .slice m.ea m.el m.ec, .slice m.da m.dl m.dc, .slice m.ma m.ml m.mc])] w fun e w' => Yes (MayM (mdOf (⟨k, fr, tn, op, fo, key, bk, ea, e1.length, ec, da, g1.length, dc, ma, m1.length, mc⟩ : Mg) e1 g1 m1)) e ∧ Off (fun _ => False) w w'
 obtain ⟨d, hd⟩ : ∃ d, d = mdOf (⟨k, fr, tn, op, fo, key, bk, ea, e1.length, ec, da, g1.length, dc, ma, m1.length, mc⟩ : Mg) e1 g1 m1 := ⟨_, rfl⟩
 rw [← hd]
 generalize hP : MayM d = P
 have HP : Hid _ := hP
 obtain ⟨hi, hhi⟩ : ∃ hi, hi = eHi k := ⟨_, rfl⟩
 obtain ⟨lo, hlo⟩ : ∃ lo, lo = eLo k := ⟨_, rfl⟩
 obtain ⟨ky, hky⟩ : ∃ ky, ky = cond (decide (k = 4)) (keyB key) (decide (key.size ≤ 32)) := ⟨_, rfl⟩
 have HF : Hid (d.k = k ∧ d.fr = fr ∧ d.tn = tn ∧ d.op = op ∧ d.fo = fo ∧ cond (decide (d.k = 4)) (keyB d.key) (decide (d.key.size ≤ 32)) = ky ∧ d.bk = bk ∧ eLo d.k = lo ∧ eHi d.k = hi) := by
  show _ ∧ _
  rw [hd, hky, hlo, hhi]
  exact ⟨rfl, rfl, rfl, rfl, rfl, rfl, rfl, rfl, rfl⟩
 have HLE : Hid (d.es.length = e1.length ∧ d.gs.length = g1.length ∧ d.ms = m1) := by
  show _ ∧ _
  rw [hd]
  exact ⟨List.length_map .., List.length_map .., rfl⟩
 have HAE : Hid ((∀ x ∈ d.es, mayK x = true) ↔ ∀ x ∈ e1, (keyB x.key && mayS x.f (cont x.l)) = true) := by
  show _ ↔ _
  rw [hd]
  exact allE_iff
 have HAG : Hid ((∀ x ∈ d.gs, mayD x = true) ↔ ∀ x ∈ g1, mayD ⟨x.key, x.f, x.ds⟩ = true) := by
  show _ ↔ _
  rw [hd]
  exact allG_iff
 have HKY : Hid (∀ W, Calls Tryz.prog 57 #[.agg #[.int .i64 k, .int .i64 fr, .int .i64 tn, .int .i64 op, .int .i64 fo, .string key, .int .i64 bk, .slice ea e1.length ec, .slice da g1.length dc, .slice ma m1.length mc]] W fun e w' => e = .returned (.bool ky) ∧ Off (fun _ => False) W w') := fun W => by rw [hky]; exact xmayKey_any (⟨k, fr, tn, op, fo, key, bk, ea, e1.length, ec, da, g1.length, dc, ma, m1.length, mc⟩ : Mg) W
 have HEN : Hid (∀ W, Calls Tryz.prog 58 #[.int .i64 k] W fun e w' => e = .returned (.tuple #[.int .i64 lo, .int .i64 hi]) ∧ w' = W) := fun W => by rw [hlo, hhi]; exact xentriesOf_any k W
 clear hP hd hlo hhi hky hb
 have C0 := Cel.new w 26 #[.int .i64 m.k, .int .i64 m.fr, .int .i64 m.tn, .int .i64 m.op, .int .i64 m.fo, .string m.key, .int .i64 m.bk, .slice m.ea m.el m.ec, .slice m.da m.dl m.dc, .slice m.ma m.ml m.mc]
 have O0 : Off (fun _ => False) w (w.alloc (.cells #[.int .i64 m.k, .int .i64 m.fr, .int .i64 m.tn, .int .i64 m.op, .int .i64 m.fo, .string m.key, .int .i64 m.bk, .slice m.ea m.el m.ec, .slice m.da m.dl m.dc, .slice m.ma m.ml m.mc] 26)) := (Off.refl _ w).alloc _
 have HX : Hid _ := hx
 clear hx
 go_enter Tryz.func21, Tryz.ntmps21
 go_upto_region 1 with fail
 generalize hv : w.alloc (.cells #[.int .i64 m.k, .int .i64 m.fr, .int .i64 m.tn, .int .i64 m.op, .int .i64 m.fo, .string m.key, .int .i64 m.bk, .slice m.ea m.el m.ec, .slice m.da m.dl m.dc, .slice m.ma m.ml m.mc] 26) = W at C0 O0 ⊢
 obtain ⟨b, hb⟩ : ∃ b, b = w.heap.size := ⟨_, rfl⟩
 rw [← hb] at C0 ⊢
 have HBW : Hid (w.heap.size ≤ b) := by show _ ≤ _; omega
 clear hv hb
 obtain ⟨x0, x1, x2, x3, x4, x5, x6, x7, x8, x9⟩ := celw10 C0
 have HC0 : Hid _ := C0
 have HO0 : Hid _ := O0
 clear C0 O0
 go_wp2_with fail
 refine (HB.out _).mono ?_
 rintro e w1 ⟨rfl, o1⟩
 clear x0 x1 x2 x3 x4 x5 x6 x7 x8 x9 HB
 have C1 := HC0.out.off o1 (fun h => h)
 obtain ⟨x0, x1, x2, x3, x4, x5, x6, x7, x8, x9⟩ := celw10 C1
 have fz := C1.free
 have HC1 : Hid _ := C1
 have HO1 : Hid _ := HO0.out.trans o1 (fun _ _ h => h)
 clear C1 o1 HC0 HO0
 go_upto_region 2 with fail
 have C2 : Cel b 26 #[.int .i64 k, .int .i64 fr, .int .i64 tn, .int .i64 op, .int .i64 fo, .string key, .int .i64 bk, .slice ea e1.length ec, .slice da g1.length dc, .slice ma m1.length mc] ((((((((((w1.setCell ⟨b, 0, none⟩ (.int .i64 k)).setCell ⟨b, 1, none⟩ (.int .i64 fr)).setCell ⟨b, 2, none⟩ (.int .i64 tn)).setCell ⟨b, 3, none⟩ (.int .i64 op)).setCell ⟨b, 4, none⟩ (.int .i64 fo)).setCell ⟨b, 5, none⟩ (.string key)).setCell ⟨b, 6, none⟩ (.int .i64 bk)).setCell ⟨b, 7, none⟩ (.slice ea e1.length ec)).setCell ⟨b, 8, none⟩ (.slice da g1.length dc)).setCell ⟨b, 9, none⟩ (.slice ma m1.length mc)) := HC1.out.wrwAll (vs := [.int .i64 k, .int .i64 fr, .int .i64 tn, .int .i64 op, .int .i64 fo, .string key, .int .i64 bk, .slice ea e1.length ec, .slice da g1.length dc, .slice ma m1.length mc]) rfl
 have O2 : Off (fun _ => False) w ((((((((((w1.setCell ⟨b, 0, none⟩ (.int .i64 k)).setCell ⟨b, 1, none⟩ (.int .i64 fr)).setCell ⟨b, 2, none⟩ (.int .i64 tn)).setCell ⟨b, 3, none⟩ (.int .i64 op)).setCell ⟨b, 4, none⟩ (.int .i64 fo)).setCell ⟨b, 5, none⟩ (.string key)).setCell ⟨b, 6, none⟩ (.int .i64 bk)).setCell ⟨b, 7, none⟩ (.slice ea e1.length ec)).setCell ⟨b, 8, none⟩ (.slice da g1.length dc)).setCell ⟨b, 9, none⟩ (.slice ma m1.length mc)) := off_wrw (g := b) (us := [.int .i64 k, .int .i64 fr, .int .i64 tn, .int .i64 op, .int .i64 fo, .string key, .int .i64 bk, .slice ea e1.length ec, .slice da g1.length dc, .slice ma m1.length mc]) HO1.out (.inr HBW.out)
 generalize ((((((((((w1.setCell ⟨b, 0, none⟩ (.int .i64 k)).setCell ⟨b, 1, none⟩ (.int .i64 fr)).setCell ⟨b, 2, none⟩ (.int .i64 tn)).setCell ⟨b, 3, none⟩ (.int .i64 op)).setCell ⟨b, 4, none⟩ (.int .i64 fo)).setCell ⟨b, 5, none⟩ (.string key)).setCell ⟨b, 6, none⟩ (.int .i64 bk)).setCell ⟨b, 7, none⟩ (.slice ea e1.length ec)).setCell ⟨b, 8, none⟩ (.slice da g1.length dc)).setCell ⟨b, 9, none⟩ (.slice ma m1.length mc)) = V at C2 O2 ⊢
 clear x0 x1 x2 x3 x4 x5 x6 x7 x8 x9 fz HC1 HO1
 obtain ⟨x0, x1, x2, x3, x4, x5, x6, x7, x8, x9⟩ := celw10 C2
 have HC : Hid _ := C2
 have HO : Hid _ := O2
 have HM : Hid _ := HX.out.off O2
 clear C2 O2 HX
 by_cases h1 : k < 1
 ·have d1 : decide (k < 1) = true := decide_eq_true h1
  have HN : Hid (k < 1) := h1
  clear h1
  go_wp2_with fail
  go_ret
  exact ⟨.mk' false (by rw [← HP.out]; exact ⟨fun h => (by cases h), fun h => absurd h.k.1 (by have := HN.out; rw [HF.out.1]; omega)⟩), HO.out⟩
 have d1 : decide (k < 1) = false := decide_eq_false h1
 by_cases h2 : 9 < k
 ·have d2 : decide (9 < k) = true := decide_eq_true h2
  have d2' : decide (k > 9) = true := decide_eq_true h2
  have HN : Hid (9 < k) := h2
  clear h1 h2
  go_wp2_with fail
  go_ret
  exact ⟨.mk' false (by rw [← HP.out]; exact ⟨fun h => (by cases h), fun h => absurd h.k.2 (by have := HN.out; rw [HF.out.1]; omega)⟩), HO.out⟩
 have d2 : decide (9 < k) = false := decide_eq_false h2
 have d2' : decide (k > 9) = false := decide_eq_false h2
 have HK : Hid (1 ≤ k ∧ k ≤ 9) := ⟨by omega, by omega⟩
 clear h1 h2
 go_wp2_with fail
 refine (xisNode_any fr _).mono ?_
 rintro e w2 ⟨rfl, hw⟩
 rw [hw]
 clear hw w2
 cases hnfr : ndB fr
 ·go_wp2_with fail
  go_ret
  exact ⟨.mk' false (by rw [← HP.out]; exact ⟨fun h => (by cases h), fun h => absurd h.fr (by rw [HF.out.2.1, hnfr]; decide)⟩), HO.out⟩
 go_wp2_with fail
 refine (xisNode_any tn _).mono ?_
 rintro e w2 ⟨rfl, hw⟩
 rw [hw]
 clear hw w2
 cases hntn : ndB tn
 ·go_wp2_with fail
  go_ret
  exact ⟨.mk' false (by rw [← HP.out]; exact ⟨fun h => (by cases h), fun h => absurd h.tn (by rw [HF.out.2.2.1, hntn]; decide)⟩), HO.out⟩
 clear d1 d2 d2'
 by_cases h3 : op < 0
 ·have d3 : decide (op < 0) = true := decide_eq_true h3
  have HN : Hid (op < 0) := h3
  clear h3
  go_wp2_with fail
  go_ret
  exact ⟨.mk' false (by rw [← HP.out]; exact ⟨fun h => (by cases h), fun h => absurd h.op.1 (by have := HN.out; rw [HF.out.2.2.2.1]; omega)⟩), HO.out⟩
 have d3 : decide (op < 0) = false := decide_eq_false h3
 by_cases h4 : 1099511627776 < op
 ·have d4 : decide (1099511627776 < op) = true := decide_eq_true h4
  have d4' : decide (op > 1099511627776) = true := decide_eq_true h4
  have HN : Hid (1099511627776 < op) := h4
  clear h3 h4
  go_wp2_with fail
  go_ret
  exact ⟨.mk' false (by rw [← HP.out]; exact ⟨fun h => (by cases h), fun h => absurd h.op.2 (by have := HN.out; rw [HF.out.2.2.2.1]; omega)⟩), HO.out⟩
 have d4 : decide (1099511627776 < op) = false := decide_eq_false h4
 have d4' : decide (op > 1099511627776) = false := decide_eq_false h4
 have HOP : Hid (0 ≤ op ∧ op ≤ 1099511627776) := ⟨by omega, by omega⟩
 clear h3 h4
 go_wp2_with fail
 refine (xisNode_any fo _).mono ?_
 rintro e w2 ⟨rfl, hw⟩
 rw [hw]
 clear hw w2
 cases hnfo : ndB fo
 ·go_wp2_with fail
  go_ret
  exact ⟨.mk' false (by rw [← HP.out]; exact ⟨fun h => (by cases h), fun h => absurd h.fo (by rw [HF.out.2.2.2.2.1, hnfo]; decide)⟩), HO.out⟩
 go_wp2_with fail
 refine (HKY.out _).mono ?_
 rintro e w3 ⟨rfl, o3⟩
 clear x0 x1 x2 x3 x4 x5 x6 x7 x8 x9
 have HO3 : Hid _ := HO.out.trans o3 (fun _ _ h => h)
 have HM3 : Hid _ := HM.out.off o3
 have HC3 : Hid _ := HC.out.off o3 (fun h => h)
 clear HO HM HC o3
 have HO : Hid _ := HO3.out
 have HM : Hid _ := HM3.out
 have HC : Hid _ := HC3.out
 clear HO3 HM3 HC3
 obtain ⟨x0, x1, x2, x3, x4, x5, x6, x7, x8, x9⟩ := celw10 HC.out
 cases ky with
 | false =>
  go_wp2_with fail
  go_ret
  exact ⟨.mk' false (by rw [← HP.out]; exact ⟨fun h => (by cases h), fun h => absurd h.key (by rw [HF.out.2.2.2.2.2.1]; decide)⟩), HO.out⟩
 | true =>
  by_cases h5 : bk < 0
  ·have d5 : decide (bk < 0) = true := decide_eq_true h5
   have HN : Hid (bk < 0) := h5
   clear h5
   go_wp2_with fail
   go_ret
   exact ⟨.mk' false (by rw [← HP.out]; exact ⟨fun h => (by cases h), fun h => absurd h.bk.1 (by have := HN.out; rw [HF.out.2.2.2.2.2.2.1]; omega)⟩), HO.out⟩
  have d5 : decide (bk < 0) = false := decide_eq_false h5
  by_cases h6 : 4 ≤ bk
  ·have d6 : decide (4 ≤ bk) = true := decide_eq_true h6
   have d6' : decide (bk ≥ 4) = true := decide_eq_true h6
   have HN : Hid (4 ≤ bk) := h6
   clear h5 h6
   go_wp2_with fail
   go_ret
   exact ⟨.mk' false (by rw [← HP.out]; exact ⟨fun h => (by cases h), fun h => absurd h.bk.2 (by have := HN.out; rw [HF.out.2.2.2.2.2.2.1]; omega)⟩), HO.out⟩
  have d6 : decide (4 ≤ bk) = false := decide_eq_false h6
  have d6' : decide (bk ≥ 4) = false := decide_eq_false h6
  have HBK : Hid (0 ≤ bk ∧ bk < 4) := ⟨by omega, by omega⟩
  clear h5 h6
  go_wp2_with fail
  refine (HEN.out _).mono ?_
  rintro e w4 ⟨rfl, hw⟩
  rw [hw]
  clear hw w4 d3 d4 d4' d5 d6 d6'
  by_cases h7 : lo ≤ (e1.length : Int)
  case neg =>
   have d7 : decide (lo ≤ (e1.length : Int)) = false := decide_eq_false h7
   have d7' : decide ((e1.length : Int) ≥ lo) = false := decide_eq_false h7
   have HN : Hid (¬ lo ≤ (e1.length : Int)) := h7
   clear h7
   go_wp2_with fail
   go_ret
   exact ⟨.mk' false (by rw [← HP.out]; exact ⟨fun h => (by cases h), fun h => absurd h.lo (by have := HN.out; rw [HF.out.2.2.2.2.2.2.2.1, HLE.out.1]; omega)⟩), HO.out⟩
  have d7 : decide (lo ≤ (e1.length : Int)) = true := decide_eq_true h7
  have d7' : decide ((e1.length : Int) ≥ lo) = true := decide_eq_true h7
  have HLO : Hid (lo ≤ (e1.length : Int)) := h7
  clear h7
  go_wp2_with fail
  refine (allMayE_any ea ec e1 hi _ HM.out.ens).mono ?_
  rintro e w5 ⟨⟨b1, rfl, hb1⟩, o5⟩
  clear x0 x1 x2 x3 x4 x5 x6 x7 x8 x9
  have HB1 : Hid _ := hb1
  have HO5 : Hid _ := HO.out.trans o5 (fun _ _ h => h)
  have HM5 : Hid _ := HM.out.off o5
  have HC5 : Hid _ := HC.out.off o5 (fun h => h)
  clear HM HC o5 hb1
  obtain ⟨x0, x1, x2, x3, x4, x5, x6, x7, x8, x9⟩ := celw10 HC5.out
  cases b1 with
  | false =>
   have HO : Hid _ := HO5.out
   go_wp2_with fail
   go_ret
   exact ⟨.mk' false (by rw [← HP.out]; exact ⟨fun h => (by cases h), fun h => HB1.out.2 ⟨by have := h.hi; rwa [HF.out.2.2.2.2.2.2.2.2, HLE.out.1] at this, HAE.out.1 h.es⟩⟩), HO.out⟩
  | true =>
   have HE1 : Hid _ := HB1.out.1 rfl
   clear HB1
   go_wp2_with fail
   refine (allMayD_any da dc g1 256 _ HM5.out.dgs).mono ?_
   rintro e w6 ⟨⟨b2, rfl, hb2⟩, o6⟩
   clear x0 x1 x2 x3 x4 x5 x6 x7 x8 x9
   have HB2 : Hid _ := hb2
   have HO6 : Hid _ := HO5.out.trans o6 (fun _ _ h => h)
   have HM6 : Hid _ := HM5.out.off o6
   have HC6 : Hid _ := HC5.out.off o6 (fun h => h)
   clear HM5 HC5 HO5 o6 hb2
   obtain ⟨x0, x1, x2, x3, x4, x5, x6, x7, x8, x9⟩ := celw10 HC6.out
   cases b2 with
   | false =>
    go_wp2_with fail
    go_ret
    exact ⟨.mk' false (by rw [← HP.out]; exact ⟨fun h => (by cases h), fun h => HB2.out.2 ⟨by have := h.gl; rw [HLE.out.2.1] at this; omega, HAG.out.1 h.gs⟩⟩), HO6.out⟩
   | true =>
    have HE2 : Hid _ := HB2.out.1 rfl
    clear HB2
    go_wp2_with fail
    refine (allMayM_any ma mc m1 8 _ HM6.out.mbs).mono ?_
    rintro e w7 ⟨⟨b3, rfl, hb3⟩, o7⟩
    clear x0 x1 x2 x3 x4 x5 x6 x7 x8 x9
    have HB3 : Hid _ := hb3
    have HO7 : Hid _ := HO6.out.trans o7 (fun _ _ h => h)
    clear HM6 HC6 HO6 o7 hb3
    go_wp2_with fail
    go_ret
    refine ⟨.mk' b3 ?_, HO7.out⟩
    rw [← HP.out]
    refine ⟨fun h => ?_, fun h => HB3.out.2 ⟨by have := h.ml; rw [HLE.out.2.2] at this; omega, by have := h.ms; rwa [HLE.out.2.2] at this⟩⟩
    have h3 := HB3.out.1 h
    obtain ⟨f0, f1, f2, f3, f4, f5, f6, f7, f8⟩ := HF.out
    obtain ⟨l0, l1, l2⟩ := HLE.out
    exact ⟨by rw [f0]; exact HK.out, by rw [f1]; exact hnfr, by rw [f2]; exact hntn, by rw [f3]; exact HOP.out, by rw [f4]; exact hnfo, by rw [f5], by rw [f6]; exact HBK.out, by rw [f7, l0]; exact HLO.out, by rw [f8, l0]; exact HE1.out.1, HAE.out.2 HE1.out.2, by rw [l1]; have := HE2.out.1; omega, HAG.out.2 HE2.out.2, by rw [l2]; have := h3.1; omega, by rw [l2]; exact h3.2⟩
def mdM (m : Mg) (es : List E) (gs : List G) (ms : List (Int × Int)) : MD := mdOf (plM (msk m.k) m) (cond (msk m.k).es es []) (cond (msk m.k).gs gs []) (cond (msk m.k).ms ms [])
theorem xmay_any (m : Mg) (es : List E) (gs : List G) (ms : List (Int × Int)) (w : World) (h : MsgAt w m es gs ms) :
  Calls Tryz.prog 21 #[(.agg #[.int .i64 m.k, .int .i64 m.fr, .int .i64 m.tn, .int .i64 m.op, .int .i64 m.fo, .string m.key, .int .i64 m.bk, .slice m.ea m.el m.ec, .slice m.da m.dl m.dc, .slice m.ma m.ml m.mc])] w fun e w' => Yes (MayM (mdM m es gs ms)) e ∧ Off (fun _ => False) w w' :=
 xmay_core m (plM (msk m.k) m) _ _ _ w (h.plain (msk m.k)) (fun W => xbare_any m W)
end Go.Proofs.YtmbphlkohlggfaaGreat
