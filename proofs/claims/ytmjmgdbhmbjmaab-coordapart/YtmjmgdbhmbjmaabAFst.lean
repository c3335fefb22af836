/- Items of several texts. -/
import Derived.Test.YtmjmgdbhmbjmaabACpy
namespace Go.Proofs.Ytmjmgdbhmbjmaab
open Go.RowKit
def firstB (d1 d2 : Bool) (b1 b2 : List Nat) : Bool := if d1 = d2 then !ltL b2 b1 else d2
def firstA (x y : A) : A := if firstB x.dead y.dead x.data y.data then x else y
def firstV (x y : V) : V := if firstB x.dead y.dead x.data y.data then x else y
theorem firstV_abs (x y : V) : (firstV x y).abs = firstA x.abs y.abs := by
 unfold firstV firstA
 by_cases h : firstB x.dead y.dead x.data y.data = true
 ·simp [V.abs, h]
 ·simp [V.abs, h]
theorem firstV_ok {w : World} {x y : V} (hx : VOk w x) (hy : VOk w y) : VOk w (firstV x y) := by
 unfold firstV
 split
 ·exact hx
 ·exact hy
set_option maxRecDepth 100000 in
set_option maxHeartbeats 1000000 in
theorem first_any (x y : V) (w : World) (hx : VOk w x) (hy : VOk w y) :
  Calls Try.prog 45 #[.agg #[.int .i64 x.node, .int .i64 x.num, .slice x.ad x.data.length x.cap, .bool x.dead], .agg #[.int .i64 y.node, .int .i64 y.num, .slice y.ad y.data.length y.cap, .bool y.dead]] w fun e w' => e = .returned (.agg #[.int .i64 (firstV x y).node, .int .i64 (firstV x y).num, .slice (firstV x y).ad (firstV x y).data.length (firstV x y).cap, .bool (firstV x y).dead]) ∧ Off (fun _ => False) w w' := by
 have O2 : ∀ p q r, Off (fun _ => False) w (((w.alloc p).alloc q).alloc r) := fun _ _ _ => (((Off.refl _ w).alloc _).alloc _).alloc _
 obtain ⟨xn, xm, xa, xc, xd, xb⟩ := x
 obtain ⟨yn, ym, ya, yc, yd, yb⟩ := y
 cases xb <;> cases yb
 ·obtain ⟨W, hW⟩ : ∃ W, W = (((w.alloc (.cells #[.int .i64 (⟨xn, xm, xa, xc, xd, false⟩ : V).node, .int .i64 (⟨xn, xm, xa, xc, xd, false⟩ : V).num, .slice (⟨xn, xm, xa, xc, xd, false⟩ : V).ad (⟨xn, xm, xa, xc, xd, false⟩ : V).data.length (⟨xn, xm, xa, xc, xd, false⟩ : V).cap, .bool (⟨xn, xm, xa, xc, xd, false⟩ : V).dead] 56)).alloc (.cells #[.int .i64 (⟨yn, ym, ya, yc, yd, false⟩ : V).node, .int .i64 (⟨yn, ym, ya, yc, yd, false⟩ : V).num, .slice (⟨yn, ym, ya, yc, yd, false⟩ : V).ad (⟨yn, ym, ya, yc, yd, false⟩ : V).data.length (⟨yn, ym, ya, yc, yd, false⟩ : V).cap, .bool (⟨yn, ym, ya, yc, yd, false⟩ : V).dead] 56)).alloc (.cells #[.int .i64 zeroV.node, .int .i64 zeroV.num, .slice zeroV.ad zeroV.data.length zeroV.cap, .bool zeroV.dead] 56)) := ⟨_, rfl⟩
  have O : Off (fun _ => False) w W := by rw [hW]; exact O2 _ _ _
  have C0 : Cel w.heap.size 56 #[.int .i64 (⟨xn, xm, xa, xc, xd, false⟩ : V).node, .int .i64 (⟨xn, xm, xa, xc, xd, false⟩ : V).num, .slice (⟨xn, xm, xa, xc, xd, false⟩ : V).ad (⟨xn, xm, xa, xc, xd, false⟩ : V).data.length (⟨xn, xm, xa, xc, xd, false⟩ : V).cap, .bool (⟨xn, xm, xa, xc, xd, false⟩ : V).dead] W := by rw [hW]; exact ((Cel.new w _ _).alloc _).alloc _
  have C1 : Cel (w.heap.size + 1) 56 #[.int .i64 (⟨yn, ym, ya, yc, yd, false⟩ : V).node, .int .i64 (⟨yn, ym, ya, yc, yd, false⟩ : V).num, .slice (⟨yn, ym, ya, yc, yd, false⟩ : V).ad (⟨yn, ym, ya, yc, yd, false⟩ : V).data.length (⟨yn, ym, ya, yc, yd, false⟩ : V).cap, .bool (⟨yn, ym, ya, yc, yd, false⟩ : V).dead] W := by rw [hW]; exact (Cel.new1 w _ _ _).alloc _
  have C2 : Cel (w.heap.size + 2) 56 #[.int .i64 zeroV.node, .int .i64 zeroV.num, .slice zeroV.ad zeroV.data.length zeroV.cap, .bool zeroV.dead] W := by rw [hW]; exact Cel.new2 w _ _ _ _
  have sx := hx.src.off O (fun _ _ _ h => h)
  have sy := hy.src.off O (fun _ _ _ h => h)
  have HC2 : Hid _ := C2
  have HO : Hid _ := O
  obtain ⟨x0, x1, x2, x3⟩ := cel4 C0
  obtain ⟨y0, y1, y2, y3⟩ := cel4 C1
  obtain ⟨z0, z1, z2, z3⟩ := cel4 C2
  have fz := C2.free
  have HW : Hid _ := hW
  clear C0 C1 C2 hW O
  go_enter Try.func45, Try.ntmps45
  go_wp2_with fail
  have eW : (((w.alloc (.cells #[.int .i64 (⟨xn, xm, xa, xc, xd, false⟩ : V).node, .int .i64 (⟨xn, xm, xa, xc, xd, false⟩ : V).num, .slice (⟨xn, xm, xa, xc, xd, false⟩ : V).ad (⟨xn, xm, xa, xc, xd, false⟩ : V).data.length (⟨xn, xm, xa, xc, xd, false⟩ : V).cap, .bool (⟨xn, xm, xa, xc, xd, false⟩ : V).dead] 56)).alloc (.cells #[.int .i64 (⟨yn, ym, ya, yc, yd, false⟩ : V).node, .int .i64 (⟨yn, ym, ya, yc, yd, false⟩ : V).num, .slice (⟨yn, ym, ya, yc, yd, false⟩ : V).ad (⟨yn, ym, ya, yc, yd, false⟩ : V).data.length (⟨yn, ym, ya, yc, yd, false⟩ : V).cap, .bool (⟨yn, ym, ya, yc, yd, false⟩ : V).dead] 56)).alloc (.cells #[.int .i64 0, .int .i64 0, .slice none 0 0, .bool false] 56)) = W := HW.out.symm
  rw [eW]
  clear eW HW
  refine (compare_any ya xa yc xc yd xd W sy sx hy.lt hx.lt).mono ?_
  rintro e w1 ⟨c, rfl, hc, hw⟩
  rw [hw]
  clear hw w1 sx sy
  cases hl : ltL yd xd
  ·have HF : Hid (firstV ⟨xn, xm, xa, xc, xd, false⟩ ⟨yn, ym, ya, yc, yd, false⟩ = ⟨xn, xm, xa, xc, xd, false⟩) := by show _ = _; simp [firstV, firstB, hl]
   have hd : decide (c < 0) = false := by rw [decide_eq_false_iff_not, hc, hl]; simp
   clear hc
   go_wp2_with fail
   refine bodyPost_ret (results_val rfl rfl (HC2.out.st4 (⟨xn, xm, xa, xc, xd, false⟩ : V))) rfl ?_
   exact ⟨by rw [HF.out], HO.out.st4 (.inr (by omega)) (⟨xn, xm, xa, xc, xd, false⟩ : V)⟩
  ·have HF : Hid (firstV ⟨xn, xm, xa, xc, xd, false⟩ ⟨yn, ym, ya, yc, yd, false⟩ = ⟨yn, ym, ya, yc, yd, false⟩) := by show _ = _; simp [firstV, firstB, hl]
   have hd : decide (c < 0) = true := by rw [decide_eq_true_iff, hc, hl]
   clear hc
   go_wp2_with fail
   refine bodyPost_ret (results_val rfl rfl (HC2.out.st4 (⟨yn, ym, ya, yc, yd, false⟩ : V))) rfl ?_
   exact ⟨by rw [HF.out], HO.out.st4 (.inr (by omega)) (⟨yn, ym, ya, yc, yd, false⟩ : V)⟩
 ·have HF : Hid (firstV ⟨xn, xm, xa, xc, xd, false⟩ ⟨yn, ym, ya, yc, yd, true⟩ = ⟨xn, xm, xa, xc, xd, false⟩) := by show _ = _; simp [firstV, firstB]
  clear hx hy
  have HC : Hid (Cel (w.heap.size + 2) 56 #[.int .i64 (⟨xn, xm, xa, xc, xd, false⟩ : V).node, .int .i64 (⟨xn, xm, xa, xc, xd, false⟩ : V).num, .slice (⟨xn, xm, xa, xc, xd, false⟩ : V).ad (⟨xn, xm, xa, xc, xd, false⟩ : V).data.length (⟨xn, xm, xa, xc, xd, false⟩ : V).cap, .bool (⟨xn, xm, xa, xc, xd, false⟩ : V).dead] (((w.alloc (.cells #[.int .i64 (⟨xn, xm, xa, xc, xd, false⟩ : V).node, .int .i64 (⟨xn, xm, xa, xc, xd, false⟩ : V).num, .slice (⟨xn, xm, xa, xc, xd, false⟩ : V).ad (⟨xn, xm, xa, xc, xd, false⟩ : V).data.length (⟨xn, xm, xa, xc, xd, false⟩ : V).cap, .bool (⟨xn, xm, xa, xc, xd, false⟩ : V).dead] 56)).alloc (.cells #[.int .i64 (⟨yn, ym, ya, yc, yd, true⟩ : V).node, .int .i64 (⟨yn, ym, ya, yc, yd, true⟩ : V).num, .slice (⟨yn, ym, ya, yc, yd, true⟩ : V).ad (⟨yn, ym, ya, yc, yd, true⟩ : V).data.length (⟨yn, ym, ya, yc, yd, true⟩ : V).cap, .bool (⟨yn, ym, ya, yc, yd, true⟩ : V).dead] 56)).alloc (.cells #[.int .i64 (⟨xn, xm, xa, xc, xd, false⟩ : V).node, .int .i64 (⟨xn, xm, xa, xc, xd, false⟩ : V).num, .slice (⟨xn, xm, xa, xc, xd, false⟩ : V).ad (⟨xn, xm, xa, xc, xd, false⟩ : V).data.length (⟨xn, xm, xa, xc, xd, false⟩ : V).cap, .bool (⟨xn, xm, xa, xc, xd, false⟩ : V).dead] 56))) := Cel.new2 w _ _ _ _
  have HO : Hid (Off (fun _ => False) w (((w.alloc (.cells #[.int .i64 (⟨xn, xm, xa, xc, xd, false⟩ : V).node, .int .i64 (⟨xn, xm, xa, xc, xd, false⟩ : V).num, .slice (⟨xn, xm, xa, xc, xd, false⟩ : V).ad (⟨xn, xm, xa, xc, xd, false⟩ : V).data.length (⟨xn, xm, xa, xc, xd, false⟩ : V).cap, .bool (⟨xn, xm, xa, xc, xd, false⟩ : V).dead] 56)).alloc (.cells #[.int .i64 (⟨yn, ym, ya, yc, yd, true⟩ : V).node, .int .i64 (⟨yn, ym, ya, yc, yd, true⟩ : V).num, .slice (⟨yn, ym, ya, yc, yd, true⟩ : V).ad (⟨yn, ym, ya, yc, yd, true⟩ : V).data.length (⟨yn, ym, ya, yc, yd, true⟩ : V).cap, .bool (⟨yn, ym, ya, yc, yd, true⟩ : V).dead] 56)).alloc (.cells #[.int .i64 (⟨xn, xm, xa, xc, xd, false⟩ : V).node, .int .i64 (⟨xn, xm, xa, xc, xd, false⟩ : V).num, .slice (⟨xn, xm, xa, xc, xd, false⟩ : V).ad (⟨xn, xm, xa, xc, xd, false⟩ : V).data.length (⟨xn, xm, xa, xc, xd, false⟩ : V).cap, .bool (⟨xn, xm, xa, xc, xd, false⟩ : V).dead] 56))) := O2 _ _ _
  clear O2
  go_enter Try.func45, Try.ntmps45
  go_wp2_with fail
  refine bodyPost_ret (results_val (v := ⟨xn, xm, xa, xc, xd, false⟩) rfl rfl HC.out) rfl ?_
  exact ⟨by rw [HF.out], HO.out⟩
 ·have HF : Hid (firstV ⟨xn, xm, xa, xc, xd, true⟩ ⟨yn, ym, ya, yc, yd, false⟩ = ⟨yn, ym, ya, yc, yd, false⟩) := by show _ = _; simp [firstV, firstB]
  clear hx hy
  have HC : Hid (Cel (w.heap.size + 2) 56 #[.int .i64 (⟨yn, ym, ya, yc, yd, false⟩ : V).node, .int .i64 (⟨yn, ym, ya, yc, yd, false⟩ : V).num, .slice (⟨yn, ym, ya, yc, yd, false⟩ : V).ad (⟨yn, ym, ya, yc, yd, false⟩ : V).data.length (⟨yn, ym, ya, yc, yd, false⟩ : V).cap, .bool (⟨yn, ym, ya, yc, yd, false⟩ : V).dead] (((w.alloc (.cells #[.int .i64 (⟨xn, xm, xa, xc, xd, true⟩ : V).node, .int .i64 (⟨xn, xm, xa, xc, xd, true⟩ : V).num, .slice (⟨xn, xm, xa, xc, xd, true⟩ : V).ad (⟨xn, xm, xa, xc, xd, true⟩ : V).data.length (⟨xn, xm, xa, xc, xd, true⟩ : V).cap, .bool (⟨xn, xm, xa, xc, xd, true⟩ : V).dead] 56)).alloc (.cells #[.int .i64 (⟨yn, ym, ya, yc, yd, false⟩ : V).node, .int .i64 (⟨yn, ym, ya, yc, yd, false⟩ : V).num, .slice (⟨yn, ym, ya, yc, yd, false⟩ : V).ad (⟨yn, ym, ya, yc, yd, false⟩ : V).data.length (⟨yn, ym, ya, yc, yd, false⟩ : V).cap, .bool (⟨yn, ym, ya, yc, yd, false⟩ : V).dead] 56)).alloc (.cells #[.int .i64 (⟨yn, ym, ya, yc, yd, false⟩ : V).node, .int .i64 (⟨yn, ym, ya, yc, yd, false⟩ : V).num, .slice (⟨yn, ym, ya, yc, yd, false⟩ : V).ad (⟨yn, ym, ya, yc, yd, false⟩ : V).data.length (⟨yn, ym, ya, yc, yd, false⟩ : V).cap, .bool (⟨yn, ym, ya, yc, yd, false⟩ : V).dead] 56))) := Cel.new2 w _ _ _ _
  have HO : Hid (Off (fun _ => False) w (((w.alloc (.cells #[.int .i64 (⟨xn, xm, xa, xc, xd, true⟩ : V).node, .int .i64 (⟨xn, xm, xa, xc, xd, true⟩ : V).num, .slice (⟨xn, xm, xa, xc, xd, true⟩ : V).ad (⟨xn, xm, xa, xc, xd, true⟩ : V).data.length (⟨xn, xm, xa, xc, xd, true⟩ : V).cap, .bool (⟨xn, xm, xa, xc, xd, true⟩ : V).dead] 56)).alloc (.cells #[.int .i64 (⟨yn, ym, ya, yc, yd, false⟩ : V).node, .int .i64 (⟨yn, ym, ya, yc, yd, false⟩ : V).num, .slice (⟨yn, ym, ya, yc, yd, false⟩ : V).ad (⟨yn, ym, ya, yc, yd, false⟩ : V).data.length (⟨yn, ym, ya, yc, yd, false⟩ : V).cap, .bool (⟨yn, ym, ya, yc, yd, false⟩ : V).dead] 56)).alloc (.cells #[.int .i64 (⟨yn, ym, ya, yc, yd, false⟩ : V).node, .int .i64 (⟨yn, ym, ya, yc, yd, false⟩ : V).num, .slice (⟨yn, ym, ya, yc, yd, false⟩ : V).ad (⟨yn, ym, ya, yc, yd, false⟩ : V).data.length (⟨yn, ym, ya, yc, yd, false⟩ : V).cap, .bool (⟨yn, ym, ya, yc, yd, false⟩ : V).dead] 56))) := O2 _ _ _
  clear O2
  go_enter Try.func45, Try.ntmps45
  go_wp2_with fail
  refine bodyPost_ret (results_val (v := ⟨yn, ym, ya, yc, yd, false⟩) rfl rfl HC.out) rfl ?_
  exact ⟨by rw [HF.out], HO.out⟩
 ·obtain ⟨W, hW⟩ : ∃ W, W = (((w.alloc (.cells #[.int .i64 (⟨xn, xm, xa, xc, xd, true⟩ : V).node, .int .i64 (⟨xn, xm, xa, xc, xd, true⟩ : V).num, .slice (⟨xn, xm, xa, xc, xd, true⟩ : V).ad (⟨xn, xm, xa, xc, xd, true⟩ : V).data.length (⟨xn, xm, xa, xc, xd, true⟩ : V).cap, .bool (⟨xn, xm, xa, xc, xd, true⟩ : V).dead] 56)).alloc (.cells #[.int .i64 (⟨yn, ym, ya, yc, yd, true⟩ : V).node, .int .i64 (⟨yn, ym, ya, yc, yd, true⟩ : V).num, .slice (⟨yn, ym, ya, yc, yd, true⟩ : V).ad (⟨yn, ym, ya, yc, yd, true⟩ : V).data.length (⟨yn, ym, ya, yc, yd, true⟩ : V).cap, .bool (⟨yn, ym, ya, yc, yd, true⟩ : V).dead] 56)).alloc (.cells #[.int .i64 zeroV.node, .int .i64 zeroV.num, .slice zeroV.ad zeroV.data.length zeroV.cap, .bool zeroV.dead] 56)) := ⟨_, rfl⟩
  have O : Off (fun _ => False) w W := by rw [hW]; exact O2 _ _ _
  have C0 : Cel w.heap.size 56 #[.int .i64 (⟨xn, xm, xa, xc, xd, true⟩ : V).node, .int .i64 (⟨xn, xm, xa, xc, xd, true⟩ : V).num, .slice (⟨xn, xm, xa, xc, xd, true⟩ : V).ad (⟨xn, xm, xa, xc, xd, true⟩ : V).data.length (⟨xn, xm, xa, xc, xd, true⟩ : V).cap, .bool (⟨xn, xm, xa, xc, xd, true⟩ : V).dead] W := by rw [hW]; exact ((Cel.new w _ _).alloc _).alloc _
  have C1 : Cel (w.heap.size + 1) 56 #[.int .i64 (⟨yn, ym, ya, yc, yd, true⟩ : V).node, .int .i64 (⟨yn, ym, ya, yc, yd, true⟩ : V).num, .slice (⟨yn, ym, ya, yc, yd, true⟩ : V).ad (⟨yn, ym, ya, yc, yd, true⟩ : V).data.length (⟨yn, ym, ya, yc, yd, true⟩ : V).cap, .bool (⟨yn, ym, ya, yc, yd, true⟩ : V).dead] W := by rw [hW]; exact (Cel.new1 w _ _ _).alloc _
  have C2 : Cel (w.heap.size + 2) 56 #[.int .i64 zeroV.node, .int .i64 zeroV.num, .slice zeroV.ad zeroV.data.length zeroV.cap, .bool zeroV.dead] W := by rw [hW]; exact Cel.new2 w _ _ _ _
  have sx := hx.src.off O (fun _ _ _ h => h)
  have sy := hy.src.off O (fun _ _ _ h => h)
  have HC2 : Hid _ := C2
  have HO : Hid _ := O
  obtain ⟨x0, x1, x2, x3⟩ := cel4 C0
  obtain ⟨y0, y1, y2, y3⟩ := cel4 C1
  obtain ⟨z0, z1, z2, z3⟩ := cel4 C2
  have fz := C2.free
  have HW : Hid _ := hW
  clear C0 C1 C2 hW O
  go_enter Try.func45, Try.ntmps45
  go_wp2_with fail
  have eW : (((w.alloc (.cells #[.int .i64 (⟨xn, xm, xa, xc, xd, true⟩ : V).node, .int .i64 (⟨xn, xm, xa, xc, xd, true⟩ : V).num, .slice (⟨xn, xm, xa, xc, xd, true⟩ : V).ad (⟨xn, xm, xa, xc, xd, true⟩ : V).data.length (⟨xn, xm, xa, xc, xd, true⟩ : V).cap, .bool (⟨xn, xm, xa, xc, xd, true⟩ : V).dead] 56)).alloc (.cells #[.int .i64 (⟨yn, ym, ya, yc, yd, true⟩ : V).node, .int .i64 (⟨yn, ym, ya, yc, yd, true⟩ : V).num, .slice (⟨yn, ym, ya, yc, yd, true⟩ : V).ad (⟨yn, ym, ya, yc, yd, true⟩ : V).data.length (⟨yn, ym, ya, yc, yd, true⟩ : V).cap, .bool (⟨yn, ym, ya, yc, yd, true⟩ : V).dead] 56)).alloc (.cells #[.int .i64 0, .int .i64 0, .slice none 0 0, .bool false] 56)) = W := HW.out.symm
  rw [eW]
  clear eW HW
  refine (compare_any ya xa yc xc yd xd W sy sx hy.lt hx.lt).mono ?_
  rintro e w1 ⟨c, rfl, hc, hw⟩
  rw [hw]
  clear hw w1 sx sy
  cases hl : ltL yd xd
  ·have HF : Hid (firstV ⟨xn, xm, xa, xc, xd, true⟩ ⟨yn, ym, ya, yc, yd, true⟩ = ⟨xn, xm, xa, xc, xd, true⟩) := by show _ = _; simp [firstV, firstB, hl]
   have hd : decide (c < 0) = false := by rw [decide_eq_false_iff_not, hc, hl]; simp
   clear hc
   go_wp2_with fail
   refine bodyPost_ret (results_val rfl rfl (HC2.out.st4 (⟨xn, xm, xa, xc, xd, true⟩ : V))) rfl ?_
   exact ⟨by rw [HF.out], HO.out.st4 (.inr (by omega)) (⟨xn, xm, xa, xc, xd, true⟩ : V)⟩
  ·have HF : Hid (firstV ⟨xn, xm, xa, xc, xd, true⟩ ⟨yn, ym, ya, yc, yd, true⟩ = ⟨yn, ym, ya, yc, yd, true⟩) := by show _ = _; simp [firstV, firstB, hl]
   have hd : decide (c < 0) = true := by rw [decide_eq_true_iff, hc, hl]
   clear hc
   go_wp2_with fail
   refine bodyPost_ret (results_val rfl rfl (HC2.out.st4 (⟨yn, ym, ya, yc, yd, true⟩ : V))) rfl ?_
   exact ⟨by rw [HF.out], HO.out.st4 (.inr (by omega)) (⟨yn, ym, ya, yc, yd, true⟩ : V)⟩
end Go.Proofs.Ytmjmgdbhmbjmaab
