/- Items of several texts. -/
import Derived.Test.YtmbphlkohlggfaaDMm20
namespace Go.Proofs.Ytmbphlkohlggfaa
set_option maxRecDepth 100000
open Go.RowKit
structure Yes (P : Prop) (e : Ending) : Prop where
 is : ∃ b : Bool, e = .returned (.bool b) ∧ (b = true ↔ P)
theorem Yes.mk' {P : Prop} (b : Bool) (h : b = true ↔ P) : Yes P (.returned (.bool b)) := ⟨b, rfl, h⟩
theorem idx_mems {m n : Nat} (h : n < m) (c g o : Nat) (W : World) : (Instr.indexAt 24 (.slice (some ⟨g, o, none⟩) m c) (.int .i64 (n : Int))).run Try.prog W = .ok (.pointer (some ⟨g, o + n * 2, none⟩)) W := by
 go_simp
set_option maxHeartbeats 2000000 in
theorem amy1E_any (v : E) (q : Nat) (w : World) (hxr : Row w v.a v.cap v.l) (hq : Cel q 69 #[.func (.func 33) #[] #[]] w) :
  Calls Try.prog 64 #[.agg #[.string v.key, .int .i64 (v.f 0), .int .i64 (v.f 1), .int .i64 (v.f 2), .int .i64 (v.f 3), .int .i64 (v.f 4), .int .i64 (v.f 5), .int .i64 (v.f 6), .int .i64 (v.f 7), .slice v.a v.l.length v.cap], .pointer (some ⟨q, 0, none⟩)] w fun e w' => e = .returned (.bool (!(keyB v.key && mayS v.f (cont v.l)))) ∧ Off (fun _ => False) w w' := by
 have C0 := Cel.new w 46 #[.string v.key, .int .i64 (v.f 0), .int .i64 (v.f 1), .int .i64 (v.f 2), .int .i64 (v.f 3), .int .i64 (v.f 4), .int .i64 (v.f 5), .int .i64 (v.f 6), .int .i64 (v.f 7), .slice v.a v.l.length v.cap]
 have O0 : Off (fun _ => False) w (w.alloc (.cells #[.string v.key, .int .i64 (v.f 0), .int .i64 (v.f 1), .int .i64 (v.f 2), .int .i64 (v.f 3), .int .i64 (v.f 4), .int .i64 (v.f 5), .int .i64 (v.f 6), .int .i64 (v.f 7), .slice v.a v.l.length v.cap] 46)) := (Off.refl _ w).alloc _
 have Q0 := hq.off O0 (fun h => h)
 have HX : Hid _ := hxr.off O0
 clear hxr
 clear hq
 go_enter Try.func64, Try.ntmps64
 go_upto_region 1 with fail
 generalize hp : w.heap.size = b at C0 ⊢
 generalize hv : w.alloc (.cells #[.string v.key, .int .i64 (v.f 0), .int .i64 (v.f 1), .int .i64 (v.f 2), .int .i64 (v.f 3), .int .i64 (v.f 4), .int .i64 (v.f 5), .int .i64 (v.f 6), .int .i64 (v.f 7), .slice v.a v.l.length v.cap] 46) = W at C0 O0 Q0 HX ⊢
 clear hp hv
 have HO : Hid _ := O0
 have x0 := C0.cell 0
 have x1 := C0.cell 1
 have x2 := C0.cell 2
 have x3 := C0.cell 3
 have x4 := C0.cell 4
 have x5 := C0.cell 5
 have x6 := C0.cell 6
 have x7 := C0.cell 7
 have x8 := C0.cell 8
 have x9 := C0.cell 9
 simp at x0 x1 x2 x3 x4 x5 x6 x7 x8 x9
 have y0 : W.cell? ⟨q, 0, none⟩ = some (.func (.func 33) #[] #[]) := Q0.cell 0
 clear C0 O0 Q0
 go_wp2_with fail
 refine (smayentry_any v.key v.f v.a v.cap v.l _ (HX.out)).mono ?_
 rintro e w1 ⟨rfl, o1⟩
 generalize hr : (keyB v.key && mayS v.f (cont v.l)) = r
 have HRR : Hid _ := hr
 clear hr
 have hnot := not_any r
 go_wp2_with fail
 go_ret
 exact ⟨by rw [HRR.out]; rfl, HO.out.trans o1 (fun _ _ h => h)⟩
set_option maxHeartbeats 2000000 in
theorem amyIE_any (a : Option Addr) (cap : Nat) (xs : List E) (q : Nat) (w : World) (hr : Ens w a cap xs) (hq : Cel q 69 #[.func (.func 33) #[] #[]] w) :
  Calls Try.prog 105 #[.slice a xs.length cap, .func (.func 64) #[] #[.pointer (some ⟨q, 0, none⟩)]] w fun e w' => ∃ i : Int, e = .returned (.int .i64 i) ∧ (0 ≤ i ↔ ∃ x ∈ xs, (keyB x.key && mayS x.f (cont x.l)) = false) ∧ Off (fun _ => False) w w' := by
 have hb := hr.bound
 have hb2 := hr.len
 have HR : Hid _ := hr
 have HQ : Hid _ := hq
 clear hr hq
 go_enter Try.func105, Try.ntmps105
 go_wp2_with fail
 go_loopw [8] (fun y wr => ∃ n : Nat, y = .int .i64 (n : Int) ∧ n ≤ xs.length ∧ (∀ i v, i < n → xs[i]? = some v → (keyB v.key && mayS v.f (cont v.l)) = true) ∧ Off (fun _ => False) w wr) (fun y _ => (xs.length - intOf y).toNat)
 case atStart => exact ⟨0, rfl, by omega, fun i v hi => by omega, Off.refl _ w⟩
 case round =>
  obtain ⟨n, rfl, hn, hg, O⟩ := hrel
  have HG : Hid _ := hg
  clear hg
  by_cases hlt : n < xs.length
  ·have e1 : decide ((n : Int) < (xs.length : Int)) = true := decide_eq_true (by omega)
   have e2 : decide (n < xs.length) = true := decide_eq_true hlt
   obtain ⟨v, hv⟩ : ∃ v, xs[n]? = some v := ⟨_, List.getElem?_eq_getElem hlt⟩
   have hA := (HR.out.off O).at_ n v hv
   obtain ⟨b, off, rfl, k10, hxr⟩ := hA
   obtain ⟨k0, k1, k2, k3, k4, k5, k6, k7, k8, k9⟩ := ent10 k10
   clear k10
   have HX : Hid _ := hxr
   clear hxr
   have hix := idx_ents hlt
   have HV : Hid _ := hv
   have HO : Hid _ := O
   clear hv O
   go_wp2_with fail
   refine (amy1E_any v q _ HX.out (HQ.out.off HO.out (fun h => h))).mono ?_
   rintro e w2 ⟨rfl, o2⟩
   clear k0 k1 k2 k3 k4 k5 k6 k7 k8 k9 hix
   cases hd : (keyB v.key && mayS v.f (cont v.l))
   ·go_wp2_with fail
    go_ret
    refine ⟨(n : Int), rfl, ⟨fun _ => ⟨v, List.mem_of_getElem? HV.out, hd⟩, fun _ => by omega⟩, HO.out.trans o2 (fun _ _ h => h)⟩
   ·go_wp2_with fail
    go_roundw
    case rel =>
     refine ⟨n + 1, by go_num, by omega, fun i u hi hu => ?_, HO.out.trans o2 (fun _ _ h => h)⟩
     rcases Nat.lt_or_ge i n with h | h
     ·exact HG.out i u h hu
     ·obtain rfl : i = n := by omega
      rw [HV.out] at hu
      cases hu
      exact hd
    case measure => simp [intOf]; omega
  ·obtain rfl : n = xs.length := by omega
   have e1 : decide ((xs.length : Int) < (xs.length : Int)) = false := decide_eq_false (by omega)
   have e2 : decide (xs.length < xs.length) = false := decide_eq_false (by omega)
   go_wp2_with fail
   go_ret
   refine ⟨-1, rfl, ⟨fun h => by omega, fun h => ?_⟩, O⟩
   obtain ⟨v, hv, hd⟩ := h
   obtain ⟨i, hi⟩ := List.getElem?_of_mem hv
   have hlt : i < xs.length := by
    obtain ⟨h, -⟩ := List.getElem?_eq_some_iff.1 hi
    exact h
   rw [HG.out i v hlt hi] at hd
   cases hd
set_option maxHeartbeats 2000000 in
theorem amyCE_any (a : Option Addr) (cap : Nat) (xs : List E) (q : Nat) (w : World) (hr : Ens w a cap xs) (hq : Cel q 69 #[.func (.func 33) #[] #[]] w) :
  Calls Try.prog 63 #[.slice a xs.length cap, .func (.func 64) #[] #[.pointer (some ⟨q, 0, none⟩)]] w fun e w' => Yes (∃ x ∈ xs, (keyB x.key && mayS x.f (cont x.l)) = false) e ∧ Off (fun _ => False) w w' := by
 generalize hP : (∃ x ∈ xs, (keyB x.key && mayS x.f (cont x.l)) = false) = P
 have HP : Hid _ := hP
 clear hP
 have HR : Hid _ := hr
 have HQ : Hid _ := hq
 clear hr hq
 go_enter Try.func63, Try.ntmps63
 go_wp2_with fail
 refine (amyIE_any a cap xs q _ HR.out HQ.out).mono ?_
 rintro e w1 ⟨i, rfl, hi, o1⟩
 have HI : Hid _ := hi
 have HO : Hid _ := o1
 clear hi o1
 by_cases h0 : 0 ≤ i
 ·have d1 : decide (0 ≤ i) = true := decide_eq_true h0
  have HZ : Hid _ := h0
  clear h0
  go_wp2_with fail
  go_ret
  exact ⟨.mk' true (by rw [← HP.out]; exact ⟨fun _ => HI.out.1 HZ.out, fun _ => rfl⟩), HO.out⟩
 ·have d1 : decide (0 ≤ i) = false := decide_eq_false h0
  have HZ : Hid (¬ 0 ≤ i) := h0
  clear h0
  go_wp2_with fail
  go_ret
  exact ⟨.mk' false (by rw [← HP.out]; exact ⟨fun h => (by cases h), fun h => absurd (HI.out.2 h) (by have := HZ.out; omega)⟩), HO.out⟩
set_option maxHeartbeats 2000000 in
theorem allMayE_any (a : Option Addr) (cap : Nat) (xs : List E) (mo : Int) (w : World) (hr : Ens w a cap xs) :
  Calls Try.prog 32 #[.slice a xs.length cap, .int .i64 mo, .func (.func 33) #[] #[]] w fun e w' => Yes ((xs.length : Int) ≤ mo ∧ ∀ x ∈ xs, (keyB x.key && mayS x.f (cont x.l)) = true) e ∧ Off (fun _ => False) w w' := by
 generalize hP : ((xs.length : Int) ≤ mo ∧ ∀ x ∈ xs, (keyB x.key && mayS x.f (cont x.l)) = true) = P
 have HP : Hid _ := hP
 clear hP
 have C0 := Cel.new w 69 #[.func (.func 33) #[] #[]]
 have O0 : Off (fun _ => False) w (w.alloc (.cells #[.func (.func 33) #[] #[]] 69)) := (Off.refl _ w).alloc _
 have R0 := hr.off O0
 clear hr
 by_cases hl : (xs.length : Int) ≤ mo
 ·have d1 : decide ((xs.length : Int) ≤ mo) = true := decide_eq_true hl
  have HL : Hid ((xs.length : Int) ≤ mo) := hl
  clear hl
  go_enter Try.func32, Try.ntmps32
  go_upto_region 1 with fail
  generalize hp : w.heap.size = b at C0 ⊢
  generalize hv : w.alloc (.cells #[.func (.func 33) #[] #[]] 69) = W at C0 O0 R0 ⊢
  clear hp hv
  have HO : Hid _ := O0
  have HC : Hid _ := C0
  have HR : Hid _ := R0
  clear C0 O0 R0
  go_wp2_with fail
  refine (amyCE_any a cap xs b _ HR.out HC.out).mono ?_
  rintro e w1 ⟨⟨c, rfl, hc⟩, o1⟩
  have hnot := not_any c
  have HCC : Hid _ := hc
  clear hc
  go_wp2_with fail
  go_ret
  refine ⟨.mk' (!c) (by
   rw [← HP.out]
   refine ⟨fun h => ⟨HL.out, fun x hx => ?_⟩, fun h => ?_⟩
   ·cases hd : (keyB x.key && mayS x.f (cont x.l))
    ·have := HCC.out.2 ⟨x, hx, hd⟩
     rw [this] at h
     cases h
    ·rfl
   ·cases hd : c
    ·rfl
    ·obtain ⟨x, hx, hf⟩ := HCC.out.1 hd
     rw [h.2 x hx] at hf
     cases hf), HO.out.trans o1 (fun _ _ h => h)⟩
 ·have d1 : decide ((xs.length : Int) ≤ mo) = false := decide_eq_false hl
  have HL : Hid (¬ (xs.length : Int) ≤ mo) := hl
  clear hl
  go_enter Try.func32, Try.ntmps32
  go_upto_region 1 with fail
  generalize hv : w.alloc (.cells #[.func (.func 33) #[] #[]] 69) = W at C0 O0 R0 ⊢
  clear hv C0 R0
  have HO : Hid _ := O0
  clear O0
  go_wp2_with fail
  go_ret
  exact ⟨.mk' false (by rw [← HP.out]; exact ⟨fun h => (by cases h), fun h => absurd h.1 (by have := HL.out; omega)⟩), HO.out⟩
set_option maxHeartbeats 2000000 in
theorem amy1D_any (v : G) (q : Nat) (w : World) (hxr : RowD w v.a v.cap v.ds) (hq : Cel q 71 #[.func (.func 35) #[] #[]] w) :
  Calls Try.prog 67 #[.agg #[.string v.key, .int .i64 (v.f 0), .int .i64 (v.f 1), .int .i64 (v.f 2), .int .i64 (v.f 3), .int .i64 (v.f 4), .int .i64 (v.f 5), .int .i64 (v.f 6), .int .i64 (v.f 7), .slice v.a v.ds.length v.cap], .pointer (some ⟨q, 0, none⟩)] w fun e w' => e = .returned (.bool (!(mayD ⟨v.key, v.f, v.ds⟩))) ∧ Off (fun _ => False) w w' := by
 have C0 := Cel.new w 53 #[.string v.key, .int .i64 (v.f 0), .int .i64 (v.f 1), .int .i64 (v.f 2), .int .i64 (v.f 3), .int .i64 (v.f 4), .int .i64 (v.f 5), .int .i64 (v.f 6), .int .i64 (v.f 7), .slice v.a v.ds.length v.cap]
 have O0 : Off (fun _ => False) w (w.alloc (.cells #[.string v.key, .int .i64 (v.f 0), .int .i64 (v.f 1), .int .i64 (v.f 2), .int .i64 (v.f 3), .int .i64 (v.f 4), .int .i64 (v.f 5), .int .i64 (v.f 6), .int .i64 (v.f 7), .slice v.a v.ds.length v.cap] 53)) := (Off.refl _ w).alloc _
 have Q0 := hq.off O0 (fun h => h)
 have HX : Hid _ := hxr.off O0
 clear hxr
 clear hq
 go_enter Try.func67, Try.ntmps67
 go_upto_region 1 with fail
 generalize hp : w.heap.size = b at C0 ⊢
 generalize hv : w.alloc (.cells #[.string v.key, .int .i64 (v.f 0), .int .i64 (v.f 1), .int .i64 (v.f 2), .int .i64 (v.f 3), .int .i64 (v.f 4), .int .i64 (v.f 5), .int .i64 (v.f 6), .int .i64 (v.f 7), .slice v.a v.ds.length v.cap] 53) = W at C0 O0 Q0 HX ⊢
 clear hp hv
 have HO : Hid _ := O0
 have x0 := C0.cell 0
 have x1 := C0.cell 1
 have x2 := C0.cell 2
 have x3 := C0.cell 3
 have x4 := C0.cell 4
 have x5 := C0.cell 5
 have x6 := C0.cell 6
 have x7 := C0.cell 7
 have x8 := C0.cell 8
 have x9 := C0.cell 9
 simp at x0 x1 x2 x3 x4 x5 x6 x7 x8 x9
 have y0 : W.cell? ⟨q, 0, none⟩ = some (.func (.func 35) #[] #[]) := Q0.cell 0
 clear C0 O0 Q0
 go_wp2_with fail
 refine (dmay_any v.key v.f v.a v.cap v.ds _ (HX.out)).mono ?_
 rintro e w1 ⟨rfl, o1⟩
 generalize hr : (mayD ⟨v.key, v.f, v.ds⟩) = r
 have HRR : Hid _ := hr
 clear hr
 have hnot := not_any r
 go_wp2_with fail
 go_ret
 exact ⟨by rw [HRR.out]; rfl, HO.out.trans o1 (fun _ _ h => h)⟩
set_option maxHeartbeats 2000000 in
theorem amyID_any (a : Option Addr) (cap : Nat) (xs : List G) (q : Nat) (w : World) (hr : Dgs w a cap xs) (hq : Cel q 71 #[.func (.func 35) #[] #[]] w) :
  Calls Try.prog 107 #[.slice a xs.length cap, .func (.func 67) #[] #[.pointer (some ⟨q, 0, none⟩)]] w fun e w' => ∃ i : Int, e = .returned (.int .i64 i) ∧ (0 ≤ i ↔ ∃ x ∈ xs, (mayD ⟨x.key, x.f, x.ds⟩) = false) ∧ Off (fun _ => False) w w' := by
 have hb := hr.bound
 have hb2 := hr.len
 have HR : Hid _ := hr
 have HQ : Hid _ := hq
 clear hr hq
 go_enter Try.func107, Try.ntmps107
 go_wp2_with fail
 go_loopw [8] (fun y wr => ∃ n : Nat, y = .int .i64 (n : Int) ∧ n ≤ xs.length ∧ (∀ i v, i < n → xs[i]? = some v → (mayD ⟨v.key, v.f, v.ds⟩) = true) ∧ Off (fun _ => False) w wr) (fun y _ => (xs.length - intOf y).toNat)
 case atStart => exact ⟨0, rfl, by omega, fun i v hi => by omega, Off.refl _ w⟩
 case round =>
  obtain ⟨n, rfl, hn, hg, O⟩ := hrel
  have HG : Hid _ := hg
  clear hg
  by_cases hlt : n < xs.length
  ·have e1 : decide ((n : Int) < (xs.length : Int)) = true := decide_eq_true (by omega)
   have e2 : decide (n < xs.length) = true := decide_eq_true hlt
   obtain ⟨v, hv⟩ : ∃ v, xs[n]? = some v := ⟨_, List.getElem?_eq_getElem hlt⟩
   have hA := (HR.out.off O).at_ n v hv
   obtain ⟨b, off, rfl, k10, hxr⟩ := hA
   obtain ⟨k0, k1, k2, k3, k4, k5, k6, k7, k8, k9⟩ := dg10 k10
   clear k10
   have HX : Hid _ := hxr
   clear hxr
   have hix := idx_dgs hlt
   have HV : Hid _ := hv
   have HO : Hid _ := O
   clear hv O
   go_wp2_with fail
   refine (amy1D_any v q _ HX.out (HQ.out.off HO.out (fun h => h))).mono ?_
   rintro e w2 ⟨rfl, o2⟩
   clear k0 k1 k2 k3 k4 k5 k6 k7 k8 k9 hix
   cases hd : (mayD ⟨v.key, v.f, v.ds⟩)
   ·go_wp2_with fail
    go_ret
    refine ⟨(n : Int), rfl, ⟨fun _ => ⟨v, List.mem_of_getElem? HV.out, hd⟩, fun _ => by omega⟩, HO.out.trans o2 (fun _ _ h => h)⟩
   ·go_wp2_with fail
    go_roundw
    case rel =>
     refine ⟨n + 1, by go_num, by omega, fun i u hi hu => ?_, HO.out.trans o2 (fun _ _ h => h)⟩
     rcases Nat.lt_or_ge i n with h | h
     ·exact HG.out i u h hu
     ·obtain rfl : i = n := by omega
      rw [HV.out] at hu
      cases hu
      exact hd
    case measure => simp [intOf]; omega
  ·obtain rfl : n = xs.length := by omega
   have e1 : decide ((xs.length : Int) < (xs.length : Int)) = false := decide_eq_false (by omega)
   have e2 : decide (xs.length < xs.length) = false := decide_eq_false (by omega)
   go_wp2_with fail
   go_ret
   refine ⟨-1, rfl, ⟨fun h => by omega, fun h => ?_⟩, O⟩
   obtain ⟨v, hv, hd⟩ := h
   obtain ⟨i, hi⟩ := List.getElem?_of_mem hv
   have hlt : i < xs.length := by
    obtain ⟨h, -⟩ := List.getElem?_eq_some_iff.1 hi
    exact h
   rw [HG.out i v hlt hi] at hd
   cases hd
set_option maxHeartbeats 2000000 in
theorem amyCD_any (a : Option Addr) (cap : Nat) (xs : List G) (q : Nat) (w : World) (hr : Dgs w a cap xs) (hq : Cel q 71 #[.func (.func 35) #[] #[]] w) :
  Calls Try.prog 66 #[.slice a xs.length cap, .func (.func 67) #[] #[.pointer (some ⟨q, 0, none⟩)]] w fun e w' => Yes (∃ x ∈ xs, (mayD ⟨x.key, x.f, x.ds⟩) = false) e ∧ Off (fun _ => False) w w' := by
 generalize hP : (∃ x ∈ xs, (mayD ⟨x.key, x.f, x.ds⟩) = false) = P
 have HP : Hid _ := hP
 clear hP
 have HR : Hid _ := hr
 have HQ : Hid _ := hq
 clear hr hq
 go_enter Try.func66, Try.ntmps66
 go_wp2_with fail
 refine (amyID_any a cap xs q _ HR.out HQ.out).mono ?_
 rintro e w1 ⟨i, rfl, hi, o1⟩
 have HI : Hid _ := hi
 have HO : Hid _ := o1
 clear hi o1
 by_cases h0 : 0 ≤ i
 ·have d1 : decide (0 ≤ i) = true := decide_eq_true h0
  have HZ : Hid _ := h0
  clear h0
  go_wp2_with fail
  go_ret
  exact ⟨.mk' true (by rw [← HP.out]; exact ⟨fun _ => HI.out.1 HZ.out, fun _ => rfl⟩), HO.out⟩
 ·have d1 : decide (0 ≤ i) = false := decide_eq_false h0
  have HZ : Hid (¬ 0 ≤ i) := h0
  clear h0
  go_wp2_with fail
  go_ret
  exact ⟨.mk' false (by rw [← HP.out]; exact ⟨fun h => (by cases h), fun h => absurd (HI.out.2 h) (by have := HZ.out; omega)⟩), HO.out⟩
set_option maxHeartbeats 2000000 in
theorem allMayD_any (a : Option Addr) (cap : Nat) (xs : List G) (mo : Int) (w : World) (hr : Dgs w a cap xs) :
  Calls Try.prog 34 #[.slice a xs.length cap, .int .i64 mo, .func (.func 35) #[] #[]] w fun e w' => Yes ((xs.length : Int) ≤ mo ∧ ∀ x ∈ xs, (mayD ⟨x.key, x.f, x.ds⟩) = true) e ∧ Off (fun _ => False) w w' := by
 generalize hP : ((xs.length : Int) ≤ mo ∧ ∀ x ∈ xs, (mayD ⟨x.key, x.f, x.ds⟩) = true) = P
 have HP : Hid _ := hP
 clear hP
 have C0 := Cel.new w 71 #[.func (.func 35) #[] #[]]
 have O0 : Off (fun _ => False) w (w.alloc (.cells #[.func (.func 35) #[] #[]] 71)) := (Off.refl _ w).alloc _
 have R0 := hr.off O0
 clear hr
 by_cases hl : (xs.length : Int) ≤ mo
 ·have d1 : decide ((xs.length : Int) ≤ mo) = true := decide_eq_true hl
  have HL : Hid ((xs.length : Int) ≤ mo) := hl
  clear hl
  go_enter Try.func34, Try.ntmps34
  go_upto_region 1 with fail
  generalize hp : w.heap.size = b at C0 ⊢
  generalize hv : w.alloc (.cells #[.func (.func 35) #[] #[]] 71) = W at C0 O0 R0 ⊢
  clear hp hv
  have HO : Hid _ := O0
  have HC : Hid _ := C0
  have HR : Hid _ := R0
  clear C0 O0 R0
  go_wp2_with fail
  refine (amyCD_any a cap xs b _ HR.out HC.out).mono ?_
  rintro e w1 ⟨⟨c, rfl, hc⟩, o1⟩
  have hnot := not_any c
  have HCC : Hid _ := hc
  clear hc
  go_wp2_with fail
  go_ret
  refine ⟨.mk' (!c) (by
   rw [← HP.out]
   refine ⟨fun h => ⟨HL.out, fun x hx => ?_⟩, fun h => ?_⟩
   ·cases hd : (mayD ⟨x.key, x.f, x.ds⟩)
    ·have := HCC.out.2 ⟨x, hx, hd⟩
     rw [this] at h
     cases h
    ·rfl
   ·cases hd : c
    ·rfl
    ·obtain ⟨x, hx, hf⟩ := HCC.out.1 hd
     rw [h.2 x hx] at hf
     cases hf), HO.out.trans o1 (fun _ _ h => h)⟩
 ·have d1 : decide ((xs.length : Int) ≤ mo) = false := decide_eq_false hl
  have HL : Hid (¬ (xs.length : Int) ≤ mo) := hl
  clear hl
  go_enter Try.func34, Try.ntmps34
  go_upto_region 1 with fail
  generalize hv : w.alloc (.cells #[.func (.func 35) #[] #[]] 71) = W at C0 O0 R0 ⊢
  clear hv C0 R0
  have HO : Hid _ := O0
  clear O0
  go_wp2_with fail
  go_ret
  exact ⟨.mk' false (by rw [← HP.out]; exact ⟨fun h => (by cases h), fun h => absurd h.1 (by have := HL.out; omega)⟩), HO.out⟩
set_option maxHeartbeats 2000000 in
theorem amy1M_any (v : (Int × Int)) (q : Nat) (w : World)  (hq : Cel q 73 #[.func (.func 37) #[] #[]] w) :
  Calls Try.prog 72 #[.agg #[.int .i64 v.1, .int .i64 v.2], .pointer (some ⟨q, 0, none⟩)] w fun e w' => e = .returned (.bool (!(mbB v.1 v.2))) ∧ Off (fun _ => False) w w' := by
 have C0 := Cel.new w 63 #[.int .i64 v.1, .int .i64 v.2]
 have O0 : Off (fun _ => False) w (w.alloc (.cells #[.int .i64 v.1, .int .i64 v.2] 63)) := (Off.refl _ w).alloc _
 have Q0 := hq.off O0 (fun h => h)
 clear hq
 go_enter Try.func72, Try.ntmps72
 go_upto_region 1 with fail
 generalize hp : w.heap.size = b at C0 ⊢
 generalize hv : w.alloc (.cells #[.int .i64 v.1, .int .i64 v.2] 63) = W at C0 O0 Q0 ⊢
 clear hp hv
 have HO : Hid _ := O0
 have x0 := C0.cell 0
 have x1 := C0.cell 1
 simp at x0 x1
 have y0 : W.cell? ⟨q, 0, none⟩ = some (.func (.func 37) #[] #[]) := Q0.cell 0
 clear C0 O0 Q0
 go_wp2_with fail
 refine (mmay_any v.1 v.2 _).mono ?_
 rintro e w1 ⟨rfl, o1⟩
 generalize hr : (mbB v.1 v.2) = r
 have HRR : Hid _ := hr
 clear hr
 have hnot := not_any r
 go_wp2_with fail
 go_ret
 exact ⟨by rw [HRR.out]; rfl, HO.out.trans o1 (fun _ _ h => h)⟩
set_option maxHeartbeats 2000000 in
theorem amyIM_any (a : Option Addr) (cap : Nat) (xs : List (Int × Int)) (q : Nat) (w : World) (hr : RowD w a cap xs) (hq : Cel q 73 #[.func (.func 37) #[] #[]] w) :
  Calls Try.prog 109 #[.slice a xs.length cap, .func (.func 72) #[] #[.pointer (some ⟨q, 0, none⟩)]] w fun e w' => ∃ i : Int, e = .returned (.int .i64 i) ∧ (0 ≤ i ↔ ∃ x ∈ xs, (mbB x.1 x.2) = false) ∧ Off (fun _ => False) w w' := by
 have hb := hr.bound
 have hb2 := hr.len
 have HR : Hid _ := hr
 have HQ : Hid _ := hq
 clear hr hq
 go_enter Try.func109, Try.ntmps109
 go_wp2_with fail
 go_loopw [8] (fun y wr => ∃ n : Nat, y = .int .i64 (n : Int) ∧ n ≤ xs.length ∧ (∀ i v, i < n → xs[i]? = some v → (mbB v.1 v.2) = true) ∧ Off (fun _ => False) w wr) (fun y _ => (xs.length - intOf y).toNat)
 case atStart => exact ⟨0, rfl, by omega, fun i v hi => by omega, Off.refl _ w⟩
 case round =>
  obtain ⟨n, rfl, hn, hg, O⟩ := hrel
  have HG : Hid _ := hg
  clear hg
  by_cases hlt : n < xs.length
  ·have e1 : decide ((n : Int) < (xs.length : Int)) = true := decide_eq_true (by omega)
   have e2 : decide (n < xs.length) = true := decide_eq_true hlt
   obtain ⟨v, hv⟩ : ∃ v, xs[n]? = some v := ⟨_, List.getElem?_eq_getElem hlt⟩
   have hA := (HR.out.off O).at_ n v hv
   obtain ⟨b, off, rfl, k0, k1⟩ := hA
   have hix := idx_mems hlt
   have HV : Hid _ := hv
   have HO : Hid _ := O
   clear hv O
   go_wp2_with fail
   refine (amy1M_any v q _ (HQ.out.off HO.out (fun h => h))).mono ?_
   rintro e w2 ⟨rfl, o2⟩
   clear k0 k1 hix
   cases hd : (mbB v.1 v.2)
   ·go_wp2_with fail
    go_ret
    refine ⟨(n : Int), rfl, ⟨fun _ => ⟨v, List.mem_of_getElem? HV.out, hd⟩, fun _ => by omega⟩, HO.out.trans o2 (fun _ _ h => h)⟩
   ·go_wp2_with fail
    go_roundw
    case rel =>
     refine ⟨n + 1, by go_num, by omega, fun i u hi hu => ?_, HO.out.trans o2 (fun _ _ h => h)⟩
     rcases Nat.lt_or_ge i n with h | h
     ·exact HG.out i u h hu
     ·obtain rfl : i = n := by omega
      rw [HV.out] at hu
      cases hu
      exact hd
    case measure => simp [intOf]; omega
  ·obtain rfl : n = xs.length := by omega
   have e1 : decide ((xs.length : Int) < (xs.length : Int)) = false := decide_eq_false (by omega)
   have e2 : decide (xs.length < xs.length) = false := decide_eq_false (by omega)
   go_wp2_with fail
   go_ret
   refine ⟨-1, rfl, ⟨fun h => by omega, fun h => ?_⟩, O⟩
   obtain ⟨v, hv, hd⟩ := h
   obtain ⟨i, hi⟩ := List.getElem?_of_mem hv
   have hlt : i < xs.length := by
    obtain ⟨h, -⟩ := List.getElem?_eq_some_iff.1 hi
    exact h
   rw [HG.out i v hlt hi] at hd
   cases hd
set_option maxHeartbeats 2000000 in
theorem amyCM_any (a : Option Addr) (cap : Nat) (xs : List (Int × Int)) (q : Nat) (w : World) (hr : RowD w a cap xs) (hq : Cel q 73 #[.func (.func 37) #[] #[]] w) :
  Calls Try.prog 71 #[.slice a xs.length cap, .func (.func 72) #[] #[.pointer (some ⟨q, 0, none⟩)]] w fun e w' => Yes (∃ x ∈ xs, (mbB x.1 x.2) = false) e ∧ Off (fun _ => False) w w' := by
 generalize hP : (∃ x ∈ xs, (mbB x.1 x.2) = false) = P
 have HP : Hid _ := hP
 clear hP
 have HR : Hid _ := hr
 have HQ : Hid _ := hq
 clear hr hq
 go_enter Try.func71, Try.ntmps71
 go_wp2_with fail
 refine (amyIM_any a cap xs q _ HR.out HQ.out).mono ?_
 rintro e w1 ⟨i, rfl, hi, o1⟩
 have HI : Hid _ := hi
 have HO : Hid _ := o1
 clear hi o1
 by_cases h0 : 0 ≤ i
 ·have d1 : decide (0 ≤ i) = true := decide_eq_true h0
  have HZ : Hid _ := h0
  clear h0
  go_wp2_with fail
  go_ret
  exact ⟨.mk' true (by rw [← HP.out]; exact ⟨fun _ => HI.out.1 HZ.out, fun _ => rfl⟩), HO.out⟩
 ·have d1 : decide (0 ≤ i) = false := decide_eq_false h0
  have HZ : Hid (¬ 0 ≤ i) := h0
  clear h0
  go_wp2_with fail
  go_ret
  exact ⟨.mk' false (by rw [← HP.out]; exact ⟨fun h => (by cases h), fun h => absurd (HI.out.2 h) (by have := HZ.out; omega)⟩), HO.out⟩
set_option maxHeartbeats 2000000 in
theorem allMayM_any (a : Option Addr) (cap : Nat) (xs : List (Int × Int)) (mo : Int) (w : World) (hr : RowD w a cap xs) :
  Calls Try.prog 36 #[.slice a xs.length cap, .int .i64 mo, .func (.func 37) #[] #[]] w fun e w' => Yes ((xs.length : Int) ≤ mo ∧ ∀ x ∈ xs, (mbB x.1 x.2) = true) e ∧ Off (fun _ => False) w w' := by
 generalize hP : ((xs.length : Int) ≤ mo ∧ ∀ x ∈ xs, (mbB x.1 x.2) = true) = P
 have HP : Hid _ := hP
 clear hP
 have C0 := Cel.new w 73 #[.func (.func 37) #[] #[]]
 have O0 : Off (fun _ => False) w (w.alloc (.cells #[.func (.func 37) #[] #[]] 73)) := (Off.refl _ w).alloc _
 have R0 := hr.off O0
 clear hr
 by_cases hl : (xs.length : Int) ≤ mo
 ·have d1 : decide ((xs.length : Int) ≤ mo) = true := decide_eq_true hl
  have HL : Hid ((xs.length : Int) ≤ mo) := hl
  clear hl
  go_enter Try.func36, Try.ntmps36
  go_upto_region 1 with fail
  generalize hp : w.heap.size = b at C0 ⊢
  generalize hv : w.alloc (.cells #[.func (.func 37) #[] #[]] 73) = W at C0 O0 R0 ⊢
  clear hp hv
  have HO : Hid _ := O0
  have HC : Hid _ := C0
  have HR : Hid _ := R0
  clear C0 O0 R0
  go_wp2_with fail
  refine (amyCM_any a cap xs b _ HR.out HC.out).mono ?_
  rintro e w1 ⟨⟨c, rfl, hc⟩, o1⟩
  have hnot := not_any c
  have HCC : Hid _ := hc
  clear hc
  go_wp2_with fail
  go_ret
  refine ⟨.mk' (!c) (by
   rw [← HP.out]
   refine ⟨fun h => ⟨HL.out, fun x hx => ?_⟩, fun h => ?_⟩
   ·cases hd : (mbB x.1 x.2)
    ·have := HCC.out.2 ⟨x, hx, hd⟩
     rw [this] at h
     cases h
    ·rfl
   ·cases hd : c
    ·rfl
    ·obtain ⟨x, hx, hf⟩ := HCC.out.1 hd
     rw [h.2 x hx] at hf
     cases hf), HO.out.trans o1 (fun _ _ h => h)⟩
 ·have d1 : decide ((xs.length : Int) ≤ mo) = false := decide_eq_false hl
  have HL : Hid (¬ (xs.length : Int) ≤ mo) := hl
  clear hl
  go_enter Try.func36, Try.ntmps36
  go_upto_region 1 with fail
  generalize hv : w.alloc (.cells #[.func (.func 37) #[] #[]] 73) = W at C0 O0 R0 ⊢
  clear hv C0 R0
  have HO : Hid _ := O0
  clear O0
  go_wp2_with fail
  go_ret
  exact ⟨.mk' false (by rw [← HP.out]; exact ⟨fun h => (by cases h), fun h => absurd h.1 (by have := HL.out; omega)⟩), HO.out⟩
end Go.Proofs.Ytmbphlkohlggfaa
