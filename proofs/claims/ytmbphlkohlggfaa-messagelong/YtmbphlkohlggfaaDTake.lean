/- Items of several texts. -/
import Derived.Laws.ResultCell
import Derived.Deep.RegionHeld
import Derived.BigRegion
import Derived.ChangeKeysEq
import Derived.Test.YtmbphlkohlggfaaDMem
namespace Go.Proofs.Ytmbphlkohlggfaa
open Go.RowKit
def zer : Nat → Int := fun _ => 0
def dec8 (p : Nat → Prop) (h : ∀ j, Decidable (p j)) : Decidable (∀ j, j < 8 → p j) := @Nat.decidableBallLT 8 (fun j _ => p j) (fun j _ => h j)
theorem vec_get (f : Nat → Int) {n : Nat} (h : n < 8) : (#[.int .i64 (f 0), .int .i64 (f 1), .int .i64 (f 2), .int .i64 (f 3), .int .i64 (f 4), .int .i64 (f 5), .int .i64 (f 6), .int .i64 (f 7)] : Array Value)[n]? = some (.int .i64 (f n)) := by
 match n, h with
 | 0, _ => rfl
 | 1, _ => rfl
 | 2, _ => rfl
 | 3, _ => rfl
 | 4, _ => rfl
 | 5, _ => rfl
 | 6, _ => rfl
 | 7, _ => rfl
def upd (f : Nat → Int) (n : Nat) (x : Int) : Nat → Int := fun j => if j = n then x else f j
theorem vec_set (f : Nat → Int) {n : Nat} (h : n < 8) (x : Int) : (#[.int .i64 (f 0), .int .i64 (f 1), .int .i64 (f 2), .int .i64 (f 3), .int .i64 (f 4), .int .i64 (f 5), .int .i64 (f 6), .int .i64 (f 7)] : Array Value).setIfInBounds n (.int .i64 x) = #[.int .i64 (upd f n x 0), .int .i64 (upd f n x 1), .int .i64 (upd f n x 2), .int .i64 (upd f n x 3), .int .i64 (upd f n x 4), .int .i64 (upd f n x 5), .int .i64 (upd f n x 6), .int .i64 (upd f n x 7)] := by
 match n, h with
 | 0, _ => rfl
 | 1, _ => rfl
 | 2, _ => rfl
 | 3, _ => rfl
 | 4, _ => rfl
 | 5, _ => rfl
 | 6, _ => rfl
 | 7, _ => rfl
theorem idx_vec (f : Nat → Int) {n : Nat} (h : n < 8) (W : World) : (Instr.index 37 (.agg #[.int .i64 (f 0), .int .i64 (f 1), .int .i64 (f 2), .int .i64 (f 3), .int .i64 (f 4), .int .i64 (f 5), .int .i64 (f 6), .int .i64 (f 7)]) (.int .i64 (n : Int))).run Try.prog W = .ok (.int .i64 (f n)) W := by
 obtain rfl | rfl | rfl | rfl | rfl | rfl | rfl | rfl : n = 0 ∨ n = 1 ∨ n = 2 ∨ n = 3 ∨ n = 4 ∨ n = 5 ∨ n = 6 ∨ n = 7 := by omega
 all_goals kernel_rfl
theorem at_vec (B : Nat) {n : Nat} (h : n < 8) (W : World) : (Instr.indexAt 37 (.pointer (some ⟨B, 0, none⟩)) (.int .i64 (n : Int))).run Try.prog W = .ok (.pointer (some ⟨B, n, none⟩)) W := by
 obtain rfl | rfl | rfl | rfl | rfl | rfl | rfl | rfl : n = 0 ∨ n = 1 ∨ n = 2 ∨ n = 3 ∨ n = 4 ∨ n = 5 ∨ n = 6 ∨ n = 7 := by omega
 all_goals kernel_rfl
theorem cel8 {b : Nat} {t : TypeId} {f : Nat → Int} {w : World} (h : Cel b t #[.int .i64 (f 0), .int .i64 (f 1), .int .i64 (f 2), .int .i64 (f 3), .int .i64 (f 4), .int .i64 (f 5), .int .i64 (f 6), .int .i64 (f 7)] w) : w.cell? ⟨b, 0, none⟩ = some (.int .i64 (f 0)) ∧ w.cell? ⟨b, 1, none⟩ = some (.int .i64 (f 1)) ∧ w.cell? ⟨b, 2, none⟩ = some (.int .i64 (f 2)) ∧ w.cell? ⟨b, 3, none⟩ = some (.int .i64 (f 3)) ∧ w.cell? ⟨b, 4, none⟩ = some (.int .i64 (f 4)) ∧ w.cell? ⟨b, 5, none⟩ = some (.int .i64 (f 5)) ∧ w.cell? ⟨b, 6, none⟩ = some (.int .i64 (f 6)) ∧ w.cell? ⟨b, 7, none⟩ = some (.int .i64 (f 7)) :=
 ⟨h.cell 0, h.cell 1, h.cell 2, h.cell 3, h.cell 4, h.cell 5, h.cell 6, h.cell 7⟩
theorem Cel.st8 {b : Nat} {t : TypeId} {f : Nat → Int} {w : World} (h : Cel b t #[.int .i64 (f 0), .int .i64 (f 1), .int .i64 (f 2), .int .i64 (f 3), .int .i64 (f 4), .int .i64 (f 5), .int .i64 (f 6), .int .i64 (f 7)] w) (g : Nat → Int) : Cel b t #[.int .i64 (g 0), .int .i64 (g 1), .int .i64 (g 2), .int .i64 (g 3), .int .i64 (g 4), .int .i64 (g 5), .int .i64 (g 6), .int .i64 (g 7)] ((((((((w.setCell ⟨b, 0, none⟩ (.int .i64 (g 0))).setCell ⟨b, 1, none⟩ (.int .i64 (g 1))).setCell ⟨b, 2, none⟩ (.int .i64 (g 2))).setCell ⟨b, 3, none⟩ (.int .i64 (g 3))).setCell ⟨b, 4, none⟩ (.int .i64 (g 4))).setCell ⟨b, 5, none⟩ (.int .i64 (g 5))).setCell ⟨b, 6, none⟩ (.int .i64 (g 6))).setCell ⟨b, 7, none⟩ (.int .i64 (g 7))) := by
 replace h := h.set 0 (.int .i64 (g 0))
 simp only [List.setIfInBounds_toArray, List.set_cons_zero] at h
 replace h := h.set 1 (.int .i64 (g 1))
 simp only [lsA, lsZ, lsS] at h
 replace h := h.set 2 (.int .i64 (g 2))
 simp only [lsA, lsZ, lsS] at h
 replace h := h.set 3 (.int .i64 (g 3))
 simp only [lsA, lsZ, lsS] at h
 replace h := h.set 4 (.int .i64 (g 4))
 simp only [lsA, lsZ, lsS] at h
 replace h := h.set 5 (.int .i64 (g 5))
 simp only [lsA, lsZ, lsS] at h
 replace h := h.set 6 (.int .i64 (g 6))
 simp only [lsA, lsZ, lsS] at h
 replace h := h.set 7 (.int .i64 (g 7))
 simp only [lsA, lsZ, lsS] at h
 exact h
theorem Off.st8 {D : Nat → Prop} {a w : World} {b : Nat} (h : Off D a w) (hb : D b ∨ a.heap.size ≤ b) (g : Nat → Int) : Off D a ((((((((w.setCell ⟨b, 0, none⟩ (.int .i64 (g 0))).setCell ⟨b, 1, none⟩ (.int .i64 (g 1))).setCell ⟨b, 2, none⟩ (.int .i64 (g 2))).setCell ⟨b, 3, none⟩ (.int .i64 (g 3))).setCell ⟨b, 4, none⟩ (.int .i64 (g 4))).setCell ⟨b, 5, none⟩ (.int .i64 (g 5))).setCell ⟨b, 6, none⟩ (.int .i64 (g 6))).setCell ⟨b, 7, none⟩ (.int .i64 (g 7))) :=
 (((((((h.setCell hb _).setCell hb _).setCell hb _).setCell hb _).setCell hb _).setCell hb _).setCell hb _).setCell hb _
end Go.Proofs.Ytmbphlkohlggfaa

namespace Go.Proofs.Ytmbphlkohlggfaa
open Go.RowKit
def nodeB (n : Int) : Bool := decide (0 ≤ n ∧ n < 8)
def mayB (f : Nat → Int) : Bool := @decide (∀ j, j < 8 → 0 ≤ f j ∧ f j ≤ 1099511627776) (dec8 (fun j => 0 ≤ f j ∧ f j ≤ 1099511627776) (fun _ => inferInstance))
def lessB (a b c d : Int) : Bool := decide (a < c ∨ a = c ∧ b < d)
theorem node_any (n : Int) (w : World) : Calls Try.prog 108 #[.int .i64 n] w fun e w' => e = .returned (.bool (nodeB n)) ∧ w' = w := by
 by_cases h0 : 0 ≤ n
 ·by_cases h1 : n < 8
  ·have hb : nodeB n = true := by simp [nodeB]; omega
   have e0 : decide (0 ≤ n) = true := by simp; omega
   have e1 : decide (n < 8) = true := by simp; omega
   go_enter Try.func108, Try.ntmps108
   go_wp2
   go_ret
   exact ⟨by first | rfl | (rw [hb]; rfl), rfl⟩
  ·have hb : nodeB n = false := by simp [nodeB]; omega
   have e0 : decide (0 ≤ n) = true := by simp; omega
   have e1 : decide (n < 8) = false := by simp; omega
   go_enter Try.func108, Try.ntmps108
   go_wp2
   go_ret
   exact ⟨by first | rfl | (rw [hb]; rfl), rfl⟩
 ·have hb : nodeB n = false := by simp [nodeB]; omega
  have e0 : decide (0 ≤ n) = false := by simp; omega
  go_enter Try.func108, Try.ntmps108
  go_wp2
  go_ret
  exact ⟨by first | rfl | (rw [hb]; rfl), rfl⟩
set_option maxRecDepth 100000 in
theorem may_any (f : Nat → Int) (w : World) : Calls Try.prog 68 #[.agg #[.int .i64 (f 0), .int .i64 (f 1), .int .i64 (f 2), .int .i64 (f 3), .int .i64 (f 4), .int .i64 (f 5), .int .i64 (f 6), .int .i64 (f 7)]] w fun e w' => e = .returned (.bool (mayB f)) ∧ Off (fun _ => False) w w' := by
 go_enter Try.func68, Try.ntmps68
 go_wp2_with fail
 go_loopw [6] (fun y wr => ∃ n : Nat, y = .int .i64 (n : Int) ∧ n ≤ 8 ∧ (∀ j, j < n → 0 ≤ f j ∧ f j ≤ 1099511627776) ∧ Off (fun _ => False) w wr) (fun y _ => (8 - intOf y).toNat)
 case atStart => exact ⟨0, rfl, by omega, by simp, (Off.refl _ w).alloc _⟩
 case round =>
  obtain ⟨n, rfl, hn, hg, O⟩ := hrel
  have HG : Hid _ := hg
  clear hg
  by_cases h : n < 8
  ·have hd : decide ((n : Int) < 8) = true := by simp; omega
   have hi := idx_vec f h
   by_cases h0 : f n < 0
   ·have e0 : decide (f n < 0) = true := by simp; omega
    go_wp2_with fail
    go_ret
    refine ⟨?_, O⟩
    have hb : mayB f = false := by
     simp only [mayB, decide_eq_false_iff_not]
     intro hx
     have := hx n h
     omega
    rw [hb]; rfl
   ·have e0 : decide (f n < 0) = false := by simp; omega
    by_cases h1 : 1099511627776 < f n
    ·have e1 : decide (1099511627776 < f n) = true := by simp; omega
     go_wp2_with fail
     go_ret
     refine ⟨?_, O⟩
     have hb : mayB f = false := by
      simp only [mayB, decide_eq_false_iff_not]
      intro hx
      have := hx n h
      omega
     rw [hb]; rfl
    ·have e1 : decide (1099511627776 < f n) = false := by simp; omega
     go_wp2_with fail
     go_roundw
     case rel =>
      refine ⟨n + 1, by go_num, by omega, fun j hj => ?_, O⟩
      rcases Nat.lt_or_ge j n with h2 | h2
      ·exact HG.out j h2
      ·obtain rfl : j = n := by omega
       omega
     case measure => simp [intOf]; omega
  ·obtain rfl : n = 8 := by omega
   go_wp2_with fail
   go_ret
   refine ⟨?_, O⟩
   have hb : mayB f = true := by
    simp only [mayB, decide_eq_true_eq]
    exact HG.out
   rw [hb]; rfl
theorem less_any (a b c d : Int) (w : World) : Calls Try.prog 69 #[.agg #[.int .i64 a, .int .i64 b], .agg #[.int .i64 c, .int .i64 d]] w fun e w' => e = .returned (.bool (lessB a b c d)) ∧ Off (fun _ => False) w w' := by
 have o2 : ∀ x y, Off (fun _ => False) w ((w.alloc x).alloc y) := fun x y => ((Off.refl _ w).alloc _).alloc _
 by_cases h0 : a = c
 ·have e0 : (a != c) = false := by simp [h0]
  have hb : lessB a b c d = decide (b < d) := by simp [lessB, h0]
  go_enter Try.func69, Try.ntmps69
  go_wp2
  go_ret
  exact ⟨by first | rfl | (rw [hb]; rfl), o2 _ _⟩
 ·have e0 : (a != c) = true := by simp [h0]
  have hb : lessB a b c d = decide (a < c) := by simp [lessB, h0]
  go_enter Try.func69, Try.ntmps69
  go_wp2
  go_ret
  exact ⟨by first | rfl | (rw [hb]; rfl), o2 _ _⟩
end Go.Proofs.Ytmbphlkohlggfaa

namespace Go.Proofs.Ytmbphlkohlggfaa
open Go.RowKit
theorem wrap64 {x : Int} (h0 : -9223372036854775808 ≤ x) (h1 : x ≤ 9223372036854775807) : IntKind.i64.wrap x = x := by
 simp only [IntKind.wrap, IntKind.bits, IntKind.signed]
 go_num
theorem Cel.new1 (w : World) (o : Obj) (t : TypeId) (cs : Array Value) : Cel (w.heap.size + 1) t cs ((w.alloc o).alloc (.cells cs t)) := by
 have := Cel.new (w.alloc o) t cs
 simp only [World.size_alloc] at this
 exact this
theorem not_any (x : Bool) (w : World) : (Op.unary .not (.bool x)).run Try.prog w = .ok (.bool (!x)) w := rfl
end Go.Proofs.Ytmbphlkohlggfaa

namespace Go.Proofs.Ytmbphlkohlggfaa
open Go.RowKit
theorem take_at {P : Program} {md : Region.Mode} {ops : Array Oper} {Q : Exit → Act → World → Prop} {S : World → Prop} {i : Nat} {oi : Oper} (d : Nat) {v : Value} {fuel : Nat} {listed : Array Bool} {a : Act} {w : World} (hi : ops[i]? = some oi) (hd : oi.dst = some d)
  (hs : Region.noSelect ops = true) (hf : Region.free md ops listed i = true) (hr : (Region.ready md ops listed).contains i = true)
  (hQ : ∀ c a w, Q (.panic c) (a.put oi.dst v) w → Q (.panic c) a w) (hy : YieldsIf P ops S oi v a) (hS : S w)
  (h : wpAnyH P md ops Q S fuel (listed.setIfInBounds i true) (a.put (some d) v) w) : wpAnyH P md ops Q S (fuel + 1) listed a w :=
 wpAnyH_take hi hs hf hr hQ hy hS (by rw [hd]; exact h)
end Go.Proofs.Ytmbphlkohlggfaa
