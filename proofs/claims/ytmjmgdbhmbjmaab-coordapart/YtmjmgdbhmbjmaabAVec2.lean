/- Items of several texts. -/
import Derived.Test.YtmjmgdbhmbjmaabAVec
namespace Go.Proofs.Ytmjmgdbhmbjmaab
open Go.RowKit
def nodeB (n : Int) : Bool := decide (0 ≤ n ∧ n < 8)
def mayB (f : Nat → Int) : Bool := @decide (∀ j, j < 8 → 0 ≤ f j ∧ f j ≤ 1099511627776) (dec8 (fun j => 0 ≤ f j ∧ f j ≤ 1099511627776) (fun _ => inferInstance))
def lessB (a b c d : Int) : Bool := decide (a < c ∨ a = c ∧ b < d)
theorem node_any (n : Int) (w : World) : Calls Try.prog 42 #[.int .i64 n] w fun e w' => e = .returned (.bool (nodeB n)) ∧ w' = w := by
 by_cases h0 : 0 ≤ n
 ·by_cases h1 : n < 8
  ·have hb : nodeB n = true := by simp [nodeB]; omega
   have e0 : decide (0 ≤ n) = true := by simp; omega
   have e1 : decide (n < 8) = true := by simp; omega
   go_enter Try.func42, Try.ntmps42
   go_wp2
   go_ret
   exact ⟨by first | rfl | (rw [hb]; rfl), rfl⟩
  ·have hb : nodeB n = false := by simp [nodeB]; omega
   have e0 : decide (0 ≤ n) = true := by simp; omega
   have e1 : decide (n < 8) = false := by simp; omega
   go_enter Try.func42, Try.ntmps42
   go_wp2
   go_ret
   exact ⟨by first | rfl | (rw [hb]; rfl), rfl⟩
 ·have hb : nodeB n = false := by simp [nodeB]; omega
  have e0 : decide (0 ≤ n) = false := by simp; omega
  go_enter Try.func42, Try.ntmps42
  go_wp2
  go_ret
  exact ⟨by first | rfl | (rw [hb]; rfl), rfl⟩
set_option maxRecDepth 100000 in
theorem may_any (f : Nat → Int) (w : World) : Calls Try.prog 33 #[.agg #[.int .i64 (f 0), .int .i64 (f 1), .int .i64 (f 2), .int .i64 (f 3), .int .i64 (f 4), .int .i64 (f 5), .int .i64 (f 6), .int .i64 (f 7)]] w fun e w' => e = .returned (.bool (mayB f)) ∧ Off (fun _ => False) w w' := by
 go_enter Try.func33, Try.ntmps33
 go_wp2_with fail
 go_loopw [6] (fun y wr => ∃ n : Nat, y = .int .i64 (n : Int) ∧ n ≤ 8 ∧ (∀ j, j < n → 0 ≤ f j ∧ f j ≤ 1099511627776) ∧ Off (fun _ => False) w wr) (fun y _ => (8 - intOf y).toNat)
 case atStart => exact ⟨0, rfl, by omega, by simp, (Off.refl _ w).alloc _⟩
 case round =>
  obtain ⟨n, rfl, hn, hg, O⟩ := hrel
  have HG : Hid _ := hg
  clear hg
  by_cases h : n < 8
  ·have hd : decide ((n : Int) < 8) = true := by simp; omega
   have hi := idx_vec f h
   by_cases h0 : f n < 0
   ·have e0 : decide (f n < 0) = true := by simp; omega
    go_wp2_with fail
    go_ret
    refine ⟨?_, O⟩
    have hb : mayB f = false := by
     simp only [mayB, decide_eq_false_iff_not]
     intro hx
     have := hx n h
     omega
    rw [hb]; rfl
   ·have e0 : decide (f n < 0) = false := by simp; omega
    by_cases h1 : 1099511627776 < f n
    ·have e1 : decide (1099511627776 < f n) = true := by simp; omega
     go_wp2_with fail
     go_ret
     refine ⟨?_, O⟩
     have hb : mayB f = false := by
      simp only [mayB, decide_eq_false_iff_not]
      intro hx
      have := hx n h
      omega
     rw [hb]; rfl
    ·have e1 : decide (1099511627776 < f n) = false := by simp; omega
     go_wp2_with fail
     go_roundw
     case rel =>
      refine ⟨n + 1, by go_num, by omega, fun j hj => ?_, O⟩
      rcases Nat.lt_or_ge j n with h2 | h2
      ·exact HG.out j h2
      ·obtain rfl : j = n := by omega
       omega
     case measure => simp [intOf]; omega
  ·obtain rfl : n = 8 := by omega
   go_wp2_with fail
   go_ret
   refine ⟨?_, O⟩
   have hb : mayB f = true := by
    simp only [mayB, decide_eq_true_eq]
    exact HG.out
   rw [hb]; rfl
theorem less_any (a b c d : Int) (w : World) : Calls Try.prog 34 #[.agg #[.int .i64 a, .int .i64 b], .agg #[.int .i64 c, .int .i64 d]] w fun e w' => e = .returned (.bool (lessB a b c d)) ∧ Off (fun _ => False) w w' := by
 have o2 : ∀ x y, Off (fun _ => False) w ((w.alloc x).alloc y) := fun x y => ((Off.refl _ w).alloc _).alloc _
 by_cases h0 : a = c
 ·have e0 : (a != c) = false := by simp [h0]
  have hb : lessB a b c d = decide (b < d) := by simp [lessB, h0]
  go_enter Try.func34, Try.ntmps34
  go_wp2
  go_ret
  exact ⟨by first | rfl | (rw [hb]; rfl), o2 _ _⟩
 ·have e0 : (a != c) = true := by simp [h0]
  have hb : lessB a b c d = decide (a < c) := by simp [lessB, h0]
  go_enter Try.func34, Try.ntmps34
  go_wp2
  go_ret
  exact ⟨by first | rfl | (rw [hb]; rfl), o2 _ _⟩
end Go.Proofs.Ytmjmgdbhmbjmaab
