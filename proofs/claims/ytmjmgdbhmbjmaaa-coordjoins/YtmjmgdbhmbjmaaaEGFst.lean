/- Items of several texts. -/
import Derived.Deep.Cut
import Derived.Test.YtmjmgdbhmbjmaaaESam
namespace Go.Proofs.Ytmjmgdbhmbjmaaa
open Go.RowKit
theorem less_map : ∀ (xs ys : List Nat), (∀ x ∈ xs, x < 256) → (∀ x ∈ ys, x < 256) → Op.bytesLess (xs.map fun (x : Nat) => ((x : Int).toNat.toUInt8)) (ys.map fun (x : Nat) => ((x : Int).toNat.toUInt8)) = ltL xs ys
 | [], [], _, _ => by simp [Op.bytesLess, ltL]
 | [], _ :: _, _, _ => by simp [Op.bytesLess, ltL]
 | _ :: _, [], _, _ => by simp [Op.bytesLess, ltL]
 | a :: xs, b :: ys, ha, hb => by
  have ih := less_map xs ys (fun x hx => ha x (by simp [hx])) (fun x hx => hb x (by simp [hx]))
  have h1 := u8_lt (ha a (by simp)) (hb b (by simp))
  have h2 := u8_lt (hb b (by simp)) (ha a (by simp))
  simp only [List.map_cons, Op.bytesLess, ltL, ih]
  by_cases e1 : a < b
  ·rw [decide_eq_true (h1.2 e1)]
   simp [e1]
  ·rw [decide_eq_false (fun h => e1 (h1.1 h))]
   by_cases e2 : b < a
   ·have hne : ¬ ((a : Int).toNat.toUInt8 = (b : Int).toNat.toUInt8) := fun e => by
     have := h2.2 e2
     rw [e] at this
     exact absurd this (UInt8.lt_irrefl _)
    rw [beq_eq_false_iff_ne.2 hne]
    simp [e1, e2]
   ·obtain rfl : a = b := by omega
    simp
theorem less_str {a b : List Nat} (ha : ∀ x ∈ a, x < 256) (hb : ∀ x ∈ b, x < 256) : Op.bytesLess (strOf a).toList (strOf b).toList = ltL a b := by
 have e : ∀ c : List Nat, (strOf c).toList = c.map fun (x : Nat) => ((x : Int).toNat.toUInt8) := fun c => by
  rw [ByteArray.toList_eq]
  simp [strOf, strOfNums, Function.comp_def]
 rw [e, e, less_map a b ha hb]
set_option maxRecDepth 100000 in
set_option maxHeartbeats 1000000 in
theorem gfirst_any (x y : V) (w : World) (hx : VOk w x) (hy : VOk w y) :
  Calls Try.prog 55 #[.agg #[.int .i64 x.node, .int .i64 x.num, .slice x.ad x.data.length x.cap, .bool x.dead], .agg #[.int .i64 y.node, .int .i64 y.num, .slice y.ad y.data.length y.cap, .bool y.dead]] w fun e w' => e = .returned (.agg #[.int .i64 (firstV x y).node, .int .i64 (firstV x y).num, .slice (firstV x y).ad (firstV x y).data.length (firstV x y).cap, .bool (firstV x y).dead]) ∧ Off (fun _ => False) w w' := by
 have O2 : ∀ p q r, Off (fun _ => False) w (((w.alloc p).alloc q).alloc r) := fun _ _ _ => (((Off.refl _ w).alloc _).alloc _).alloc _
 obtain ⟨xn, xm, xa, xc, xd, xb⟩ := x
 obtain ⟨yn, ym, ya, yc, yd, yb⟩ := y
 cases xb <;> cases yb
 ·obtain ⟨W, hW⟩ : ∃ W, W = (((w.alloc (.cells #[.int .i64 (⟨xn, xm, xa, xc, xd, false⟩ : V).node, .int .i64 (⟨xn, xm, xa, xc, xd, false⟩ : V).num, .slice (⟨xn, xm, xa, xc, xd, false⟩ : V).ad (⟨xn, xm, xa, xc, xd, false⟩ : V).data.length (⟨xn, xm, xa, xc, xd, false⟩ : V).cap, .bool (⟨xn, xm, xa, xc, xd, false⟩ : V).dead] 92)).alloc (.cells #[.int .i64 (⟨yn, ym, ya, yc, yd, false⟩ : V).node, .int .i64 (⟨yn, ym, ya, yc, yd, false⟩ : V).num, .slice (⟨yn, ym, ya, yc, yd, false⟩ : V).ad (⟨yn, ym, ya, yc, yd, false⟩ : V).data.length (⟨yn, ym, ya, yc, yd, false⟩ : V).cap, .bool (⟨yn, ym, ya, yc, yd, false⟩ : V).dead] 92)).alloc (.cells #[.int .i64 zeroV.node, .int .i64 zeroV.num, .slice zeroV.ad zeroV.data.length zeroV.cap, .bool zeroV.dead] 92)) := ⟨_, rfl⟩
  have O : Off (fun _ => False) w W := by rw [hW]; exact O2 _ _ _
  have C0 : Cel w.heap.size 92 #[.int .i64 (⟨xn, xm, xa, xc, xd, false⟩ : V).node, .int .i64 (⟨xn, xm, xa, xc, xd, false⟩ : V).num, .slice (⟨xn, xm, xa, xc, xd, false⟩ : V).ad (⟨xn, xm, xa, xc, xd, false⟩ : V).data.length (⟨xn, xm, xa, xc, xd, false⟩ : V).cap, .bool (⟨xn, xm, xa, xc, xd, false⟩ : V).dead] W := by rw [hW]; exact ((Cel.new w _ _).alloc _).alloc _
  have C1 : Cel (w.heap.size + 1) 92 #[.int .i64 (⟨yn, ym, ya, yc, yd, false⟩ : V).node, .int .i64 (⟨yn, ym, ya, yc, yd, false⟩ : V).num, .slice (⟨yn, ym, ya, yc, yd, false⟩ : V).ad (⟨yn, ym, ya, yc, yd, false⟩ : V).data.length (⟨yn, ym, ya, yc, yd, false⟩ : V).cap, .bool (⟨yn, ym, ya, yc, yd, false⟩ : V).dead] W := by rw [hW]; exact (Cel.new1 w _ _ _).alloc _
  have C2 : Cel (w.heap.size + 2) 92 #[.int .i64 zeroV.node, .int .i64 zeroV.num, .slice zeroV.ad zeroV.data.length zeroV.cap, .bool zeroV.dead] W := by rw [hW]; exact Cel.new2 w _ _ _ _
  have HSX : Hid _ := hx.src.off O (fun _ _ _ h => h)
  have HSY : Hid _ := hy.src.off O (fun _ _ _ h => h)
  have HC2 : Hid _ := C2
  have HO : Hid _ := O
  obtain ⟨x0, x1, x2, x3⟩ := cel4 C0
  obtain ⟨y0, y1, y2, y3⟩ := cel4 C1
  obtain ⟨z0, z1, z2, z3⟩ := cel4 C2
  have fz := C2.free
  have HW : Hid _ := hW
  clear C0 C1 C2 hW O
  go_enter Try.func55, Try.ntmps55
  go_upto_region 1 with fail
  have eW : (((w.alloc (.cells #[.int .i64 (⟨xn, xm, xa, xc, xd, false⟩ : V).node, .int .i64 (⟨xn, xm, xa, xc, xd, false⟩ : V).num, .slice (⟨xn, xm, xa, xc, xd, false⟩ : V).ad (⟨xn, xm, xa, xc, xd, false⟩ : V).data.length (⟨xn, xm, xa, xc, xd, false⟩ : V).cap, .bool (⟨xn, xm, xa, xc, xd, false⟩ : V).dead] 92)).alloc (.cells #[.int .i64 (⟨yn, ym, ya, yc, yd, false⟩ : V).node, .int .i64 (⟨yn, ym, ya, yc, yd, false⟩ : V).num, .slice (⟨yn, ym, ya, yc, yd, false⟩ : V).ad (⟨yn, ym, ya, yc, yd, false⟩ : V).data.length (⟨yn, ym, ya, yc, yd, false⟩ : V).cap, .bool (⟨yn, ym, ya, yc, yd, false⟩ : V).dead] 92)).alloc (.cells #[.int .i64 0, .int .i64 0, .slice none 0 0, .bool false] 92)) = W := HW.out.symm
  rw [eW]
  clear eW HW
  have cv1 := conv_src HSY.out
  have cv2 := conv_src HSX.out
  have hls := less_str hy.lt hx.lt
  cases hl : ltL yd xd
  ·have hl2 : Op.bytesLess (strOf yd).toList (strOf xd).toList = false := hls.trans hl
   have HF : Hid (firstV (⟨xn, xm, xa, xc, xd, false⟩ : V) (⟨yn, ym, ya, yc, yd, false⟩ : V) = (⟨xn, xm, xa, xc, xd, false⟩ : V)) := by show _ = _; simp [firstV, firstB, hl]
   clear hls hl
   go_wp2_with fail
   refine bodyPost_ret (results_val rfl rfl (HC2.out.st4 (⟨xn, xm, xa, xc, xd, false⟩ : V))) rfl ?_
   exact ⟨by rw [HF.out], HO.out.st4 (.inr (by omega)) (⟨xn, xm, xa, xc, xd, false⟩ : V)⟩
  ·have hl2 : Op.bytesLess (strOf yd).toList (strOf xd).toList = true := hls.trans hl
   have HF : Hid (firstV (⟨xn, xm, xa, xc, xd, false⟩ : V) (⟨yn, ym, ya, yc, yd, false⟩ : V) = (⟨yn, ym, ya, yc, yd, false⟩ : V)) := by show _ = _; simp [firstV, firstB, hl]
   clear hls hl
   go_wp2_with fail
   refine bodyPost_ret (results_val rfl rfl (HC2.out.st4 (⟨yn, ym, ya, yc, yd, false⟩ : V))) rfl ?_
   exact ⟨by rw [HF.out], HO.out.st4 (.inr (by omega)) (⟨yn, ym, ya, yc, yd, false⟩ : V)⟩
 ·obtain ⟨W, hW⟩ : ∃ W, W = (((w.alloc (.cells #[.int .i64 (⟨xn, xm, xa, xc, xd, false⟩ : V).node, .int .i64 (⟨xn, xm, xa, xc, xd, false⟩ : V).num, .slice (⟨xn, xm, xa, xc, xd, false⟩ : V).ad (⟨xn, xm, xa, xc, xd, false⟩ : V).data.length (⟨xn, xm, xa, xc, xd, false⟩ : V).cap, .bool (⟨xn, xm, xa, xc, xd, false⟩ : V).dead] 92)).alloc (.cells #[.int .i64 (⟨yn, ym, ya, yc, yd, true⟩ : V).node, .int .i64 (⟨yn, ym, ya, yc, yd, true⟩ : V).num, .slice (⟨yn, ym, ya, yc, yd, true⟩ : V).ad (⟨yn, ym, ya, yc, yd, true⟩ : V).data.length (⟨yn, ym, ya, yc, yd, true⟩ : V).cap, .bool (⟨yn, ym, ya, yc, yd, true⟩ : V).dead] 92)).alloc (.cells #[.int .i64 zeroV.node, .int .i64 zeroV.num, .slice zeroV.ad zeroV.data.length zeroV.cap, .bool zeroV.dead] 92)) := ⟨_, rfl⟩
  have O : Off (fun _ => False) w W := by rw [hW]; exact O2 _ _ _
  have C0 : Cel w.heap.size 92 #[.int .i64 (⟨xn, xm, xa, xc, xd, false⟩ : V).node, .int .i64 (⟨xn, xm, xa, xc, xd, false⟩ : V).num, .slice (⟨xn, xm, xa, xc, xd, false⟩ : V).ad (⟨xn, xm, xa, xc, xd, false⟩ : V).data.length (⟨xn, xm, xa, xc, xd, false⟩ : V).cap, .bool (⟨xn, xm, xa, xc, xd, false⟩ : V).dead] W := by rw [hW]; exact ((Cel.new w _ _).alloc _).alloc _
  have C1 : Cel (w.heap.size + 1) 92 #[.int .i64 (⟨yn, ym, ya, yc, yd, true⟩ : V).node, .int .i64 (⟨yn, ym, ya, yc, yd, true⟩ : V).num, .slice (⟨yn, ym, ya, yc, yd, true⟩ : V).ad (⟨yn, ym, ya, yc, yd, true⟩ : V).data.length (⟨yn, ym, ya, yc, yd, true⟩ : V).cap, .bool (⟨yn, ym, ya, yc, yd, true⟩ : V).dead] W := by rw [hW]; exact (Cel.new1 w _ _ _).alloc _
  have C2 : Cel (w.heap.size + 2) 92 #[.int .i64 zeroV.node, .int .i64 zeroV.num, .slice zeroV.ad zeroV.data.length zeroV.cap, .bool zeroV.dead] W := by rw [hW]; exact Cel.new2 w _ _ _ _
  have HSX : Hid _ := hx.src.off O (fun _ _ _ h => h)
  have HSY : Hid _ := hy.src.off O (fun _ _ _ h => h)
  have HC2 : Hid _ := C2
  have HO : Hid _ := O
  obtain ⟨x0, x1, x2, x3⟩ := cel4 C0
  obtain ⟨y0, y1, y2, y3⟩ := cel4 C1
  obtain ⟨z0, z1, z2, z3⟩ := cel4 C2
  have fz := C2.free
  have HW : Hid _ := hW
  clear C0 C1 C2 hW O
  go_enter Try.func55, Try.ntmps55
  go_upto_region 1 with fail
  have eW : (((w.alloc (.cells #[.int .i64 (⟨xn, xm, xa, xc, xd, false⟩ : V).node, .int .i64 (⟨xn, xm, xa, xc, xd, false⟩ : V).num, .slice (⟨xn, xm, xa, xc, xd, false⟩ : V).ad (⟨xn, xm, xa, xc, xd, false⟩ : V).data.length (⟨xn, xm, xa, xc, xd, false⟩ : V).cap, .bool (⟨xn, xm, xa, xc, xd, false⟩ : V).dead] 92)).alloc (.cells #[.int .i64 (⟨yn, ym, ya, yc, yd, true⟩ : V).node, .int .i64 (⟨yn, ym, ya, yc, yd, true⟩ : V).num, .slice (⟨yn, ym, ya, yc, yd, true⟩ : V).ad (⟨yn, ym, ya, yc, yd, true⟩ : V).data.length (⟨yn, ym, ya, yc, yd, true⟩ : V).cap, .bool (⟨yn, ym, ya, yc, yd, true⟩ : V).dead] 92)).alloc (.cells #[.int .i64 0, .int .i64 0, .slice none 0 0, .bool false] 92)) = W := HW.out.symm
  rw [eW]
  clear eW HW
  have HF : Hid (firstV (⟨xn, xm, xa, xc, xd, false⟩ : V) (⟨yn, ym, ya, yc, yd, true⟩ : V) = (⟨xn, xm, xa, xc, xd, false⟩ : V)) := by show _ = _; simp [firstV, firstB]
  go_wp2_with fail
  refine bodyPost_ret (results_val rfl rfl (HC2.out.st4 (⟨xn, xm, xa, xc, xd, false⟩ : V))) rfl ?_
  exact ⟨by rw [HF.out], HO.out.st4 (.inr (by omega)) (⟨xn, xm, xa, xc, xd, false⟩ : V)⟩
 ·obtain ⟨W, hW⟩ : ∃ W, W = (((w.alloc (.cells #[.int .i64 (⟨xn, xm, xa, xc, xd, true⟩ : V).node, .int .i64 (⟨xn, xm, xa, xc, xd, true⟩ : V).num, .slice (⟨xn, xm, xa, xc, xd, true⟩ : V).ad (⟨xn, xm, xa, xc, xd, true⟩ : V).data.length (⟨xn, xm, xa, xc, xd, true⟩ : V).cap, .bool (⟨xn, xm, xa, xc, xd, true⟩ : V).dead] 92)).alloc (.cells #[.int .i64 (⟨yn, ym, ya, yc, yd, false⟩ : V).node, .int .i64 (⟨yn, ym, ya, yc, yd, false⟩ : V).num, .slice (⟨yn, ym, ya, yc, yd, false⟩ : V).ad (⟨yn, ym, ya, yc, yd, false⟩ : V).data.length (⟨yn, ym, ya, yc, yd, false⟩ : V).cap, .bool (⟨yn, ym, ya, yc, yd, false⟩ : V).dead] 92)).alloc (.cells #[.int .i64 zeroV.node, .int .i64 zeroV.num, .slice zeroV.ad zeroV.data.length zeroV.cap, .bool zeroV.dead] 92)) := ⟨_, rfl⟩
  have O : Off (fun _ => False) w W := by rw [hW]; exact O2 _ _ _
  have C0 : Cel w.heap.size 92 #[.int .i64 (⟨xn, xm, xa, xc, xd, true⟩ : V).node, .int .i64 (⟨xn, xm, xa, xc, xd, true⟩ : V).num, .slice (⟨xn, xm, xa, xc, xd, true⟩ : V).ad (⟨xn, xm, xa, xc, xd, true⟩ : V).data.length (⟨xn, xm, xa, xc, xd, true⟩ : V).cap, .bool (⟨xn, xm, xa, xc, xd, true⟩ : V).dead] W := by rw [hW]; exact ((Cel.new w _ _).alloc _).alloc _
  have C1 : Cel (w.heap.size + 1) 92 #[.int .i64 (⟨yn, ym, ya, yc, yd, false⟩ : V).node, .int .i64 (⟨yn, ym, ya, yc, yd, false⟩ : V).num, .slice (⟨yn, ym, ya, yc, yd, false⟩ : V).ad (⟨yn, ym, ya, yc, yd, false⟩ : V).data.length (⟨yn, ym, ya, yc, yd, false⟩ : V).cap, .bool (⟨yn, ym, ya, yc, yd, false⟩ : V).dead] W := by rw [hW]; exact (Cel.new1 w _ _ _).alloc _
  have C2 : Cel (w.heap.size + 2) 92 #[.int .i64 zeroV.node, .int .i64 zeroV.num, .slice zeroV.ad zeroV.data.length zeroV.cap, .bool zeroV.dead] W := by rw [hW]; exact Cel.new2 w _ _ _ _
  have HSX : Hid _ := hx.src.off O (fun _ _ _ h => h)
  have HSY : Hid _ := hy.src.off O (fun _ _ _ h => h)
  have HC2 : Hid _ := C2
  have HO : Hid _ := O
  obtain ⟨x0, x1, x2, x3⟩ := cel4 C0
  obtain ⟨y0, y1, y2, y3⟩ := cel4 C1
  obtain ⟨z0, z1, z2, z3⟩ := cel4 C2
  have fz := C2.free
  have HW : Hid _ := hW
  clear C0 C1 C2 hW O
  go_enter Try.func55, Try.ntmps55
  go_upto_region 1 with fail
  have eW : (((w.alloc (.cells #[.int .i64 (⟨xn, xm, xa, xc, xd, true⟩ : V).node, .int .i64 (⟨xn, xm, xa, xc, xd, true⟩ : V).num, .slice (⟨xn, xm, xa, xc, xd, true⟩ : V).ad (⟨xn, xm, xa, xc, xd, true⟩ : V).data.length (⟨xn, xm, xa, xc, xd, true⟩ : V).cap, .bool (⟨xn, xm, xa, xc, xd, true⟩ : V).dead] 92)).alloc (.cells #[.int .i64 (⟨yn, ym, ya, yc, yd, false⟩ : V).node, .int .i64 (⟨yn, ym, ya, yc, yd, false⟩ : V).num, .slice (⟨yn, ym, ya, yc, yd, false⟩ : V).ad (⟨yn, ym, ya, yc, yd, false⟩ : V).data.length (⟨yn, ym, ya, yc, yd, false⟩ : V).cap, .bool (⟨yn, ym, ya, yc, yd, false⟩ : V).dead] 92)).alloc (.cells #[.int .i64 0, .int .i64 0, .slice none 0 0, .bool false] 92)) = W := HW.out.symm
  rw [eW]
  clear eW HW
  have HF : Hid (firstV (⟨xn, xm, xa, xc, xd, true⟩ : V) (⟨yn, ym, ya, yc, yd, false⟩ : V) = (⟨yn, ym, ya, yc, yd, false⟩ : V)) := by show _ = _; simp [firstV, firstB]
  go_wp2_with fail
  refine bodyPost_ret (results_val rfl rfl (HC2.out.st4 (⟨yn, ym, ya, yc, yd, false⟩ : V))) rfl ?_
  exact ⟨by rw [HF.out], HO.out.st4 (.inr (by omega)) (⟨yn, ym, ya, yc, yd, false⟩ : V)⟩
 ·obtain ⟨W, hW⟩ : ∃ W, W = (((w.alloc (.cells #[.int .i64 (⟨xn, xm, xa, xc, xd, true⟩ : V).node, .int .i64 (⟨xn, xm, xa, xc, xd, true⟩ : V).num, .slice (⟨xn, xm, xa, xc, xd, true⟩ : V).ad (⟨xn, xm, xa, xc, xd, true⟩ : V).data.length (⟨xn, xm, xa, xc, xd, true⟩ : V).cap, .bool (⟨xn, xm, xa, xc, xd, true⟩ : V).dead] 92)).alloc (.cells #[.int .i64 (⟨yn, ym, ya, yc, yd, true⟩ : V).node, .int .i64 (⟨yn, ym, ya, yc, yd, true⟩ : V).num, .slice (⟨yn, ym, ya, yc, yd, true⟩ : V).ad (⟨yn, ym, ya, yc, yd, true⟩ : V).data.length (⟨yn, ym, ya, yc, yd, true⟩ : V).cap, .bool (⟨yn, ym, ya, yc, yd, true⟩ : V).dead] 92)).alloc (.cells #[.int .i64 zeroV.node, .int .i64 zeroV.num, .slice zeroV.ad zeroV.data.length zeroV.cap, .bool zeroV.dead] 92)) := ⟨_, rfl⟩
  have O : Off (fun _ => False) w W := by rw [hW]; exact O2 _ _ _
  have C0 : Cel w.heap.size 92 #[.int .i64 (⟨xn, xm, xa, xc, xd, true⟩ : V).node, .int .i64 (⟨xn, xm, xa, xc, xd, true⟩ : V).num, .slice (⟨xn, xm, xa, xc, xd, true⟩ : V).ad (⟨xn, xm, xa, xc, xd, true⟩ : V).data.length (⟨xn, xm, xa, xc, xd, true⟩ : V).cap, .bool (⟨xn, xm, xa, xc, xd, true⟩ : V).dead] W := by rw [hW]; exact ((Cel.new w _ _).alloc _).alloc _
  have C1 : Cel (w.heap.size + 1) 92 #[.int .i64 (⟨yn, ym, ya, yc, yd, true⟩ : V).node, .int .i64 (⟨yn, ym, ya, yc, yd, true⟩ : V).num, .slice (⟨yn, ym, ya, yc, yd, true⟩ : V).ad (⟨yn, ym, ya, yc, yd, true⟩ : V).data.length (⟨yn, ym, ya, yc, yd, true⟩ : V).cap, .bool (⟨yn, ym, ya, yc, yd, true⟩ : V).dead] W := by rw [hW]; exact (Cel.new1 w _ _ _).alloc _
  have C2 : Cel (w.heap.size + 2) 92 #[.int .i64 zeroV.node, .int .i64 zeroV.num, .slice zeroV.ad zeroV.data.length zeroV.cap, .bool zeroV.dead] W := by rw [hW]; exact Cel.new2 w _ _ _ _
  have HSX : Hid _ := hx.src.off O (fun _ _ _ h => h)
  have HSY : Hid _ := hy.src.off O (fun _ _ _ h => h)
  have HC2 : Hid _ := C2
  have HO : Hid _ := O
  obtain ⟨x0, x1, x2, x3⟩ := cel4 C0
  obtain ⟨y0, y1, y2, y3⟩ := cel4 C1
  obtain ⟨z0, z1, z2, z3⟩ := cel4 C2
  have fz := C2.free
  have HW : Hid _ := hW
  clear C0 C1 C2 hW O
  go_enter Try.func55, Try.ntmps55
  go_upto_region 1 with fail
  have eW : (((w.alloc (.cells #[.int .i64 (⟨xn, xm, xa, xc, xd, true⟩ : V).node, .int .i64 (⟨xn, xm, xa, xc, xd, true⟩ : V).num, .slice (⟨xn, xm, xa, xc, xd, true⟩ : V).ad (⟨xn, xm, xa, xc, xd, true⟩ : V).data.length (⟨xn, xm, xa, xc, xd, true⟩ : V).cap, .bool (⟨xn, xm, xa, xc, xd, true⟩ : V).dead] 92)).alloc (.cells #[.int .i64 (⟨yn, ym, ya, yc, yd, true⟩ : V).node, .int .i64 (⟨yn, ym, ya, yc, yd, true⟩ : V).num, .slice (⟨yn, ym, ya, yc, yd, true⟩ : V).ad (⟨yn, ym, ya, yc, yd, true⟩ : V).data.length (⟨yn, ym, ya, yc, yd, true⟩ : V).cap, .bool (⟨yn, ym, ya, yc, yd, true⟩ : V).dead] 92)).alloc (.cells #[.int .i64 0, .int .i64 0, .slice none 0 0, .bool false] 92)) = W := HW.out.symm
  rw [eW]
  clear eW HW
  have cv1 := conv_src HSY.out
  have cv2 := conv_src HSX.out
  have hls := less_str hy.lt hx.lt
  cases hl : ltL yd xd
  ·have hl2 : Op.bytesLess (strOf yd).toList (strOf xd).toList = false := hls.trans hl
   have HF : Hid (firstV (⟨xn, xm, xa, xc, xd, true⟩ : V) (⟨yn, ym, ya, yc, yd, true⟩ : V) = (⟨xn, xm, xa, xc, xd, true⟩ : V)) := by show _ = _; simp [firstV, firstB, hl]
   clear hls hl
   go_wp2_with fail
   refine bodyPost_ret (results_val rfl rfl (HC2.out.st4 (⟨xn, xm, xa, xc, xd, true⟩ : V))) rfl ?_
   exact ⟨by rw [HF.out], HO.out.st4 (.inr (by omega)) (⟨xn, xm, xa, xc, xd, true⟩ : V)⟩
  ·have hl2 : Op.bytesLess (strOf yd).toList (strOf xd).toList = true := hls.trans hl
   have HF : Hid (firstV (⟨xn, xm, xa, xc, xd, true⟩ : V) (⟨yn, ym, ya, yc, yd, true⟩ : V) = (⟨yn, ym, ya, yc, yd, true⟩ : V)) := by show _ = _; simp [firstV, firstB, hl]
   clear hls hl
   go_wp2_with fail
   refine bodyPost_ret (results_val rfl rfl (HC2.out.st4 (⟨yn, ym, ya, yc, yd, true⟩ : V))) rfl ?_
   exact ⟨by rw [HF.out], HO.out.st4 (.inr (by omega)) (⟨yn, ym, ya, yc, yd, true⟩ : V)⟩
end Go.Proofs.Ytmjmgdbhmbjmaaa
