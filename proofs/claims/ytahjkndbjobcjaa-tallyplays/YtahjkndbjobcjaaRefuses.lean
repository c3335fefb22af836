/- The walk of TallyRefuses. -/
import Derived.Test.YtahjkndbjobcjaaAwake
import Derived.OpenShut
namespace Go.Proofs.Ytahjkndbjobcjaa
open Go.RowKit

theorem raise_some {W w : World} (hx : Ext W w) (b : Nat) (n m x : Int) (hb : W.heap.size ≤ b) (h : Tal b n m w) :
    Calls Try.prog 12 #[.pointer (some ⟨b, 0, none⟩), .int .i64 x] w fun e w' => ∃ (r : Bool) (v : Int), e = .returned (.bool r) ∧ Tal b v m w' ∧ Ext W w' := by
  by_cases hc : n < x ∧ x ≤ m
  · refine (raise_yes b n m x w h hc.1 hc.2).mono ?_
    rintro e w' ⟨rfl, rfl⟩
    have h2 := h.low
    exact ⟨true, x, rfl, h.put x (by omega) hc.2, hx.put hb x⟩
  · refine (raise_no b n m x w h (by omega)).mono ?_
    rintro e w' ⟨rfl, rfl⟩
    exact ⟨false, n, rfl, h, hx⟩

theorem add_zero (b : Nat) (n m : Int) (w : World) (h : Tal b n m w) :
    Calls Try.prog 10 #[.pointer (some ⟨b, 0, none⟩), .int .i64 0] w fun e w' => e = .returned (.tuple #[.int .i64 n, .bool true]) ∧ w' = put b n w := by
  have l2 := h.le
  have h3 := add_yes b n m 0 w h (by omega) (by omega)
  rwa [Int.add_zero] at h3
theorem take_zero (b : Nat) (n m : Int) (w : World) (h : Tal b n m w) :
    Calls Try.prog 11 #[.pointer (some ⟨b, 0, none⟩), .int .i64 0] w fun e w' => e = .returned (.bool true) ∧ w' = put b n w := by
  have l1 := h.low
  have h3 := take_yes b n m 0 w h (by omega) (by omega)
  rwa [Int.sub_zero] at h3

set_option maxHeartbeats 400000 in
theorem refuses_any (a0 a1 a2 : Int) (h0 : a0 ≤ 9223372036854775807) (h1 : -9223372036854775808 ≤ a2) (h2 : a2 ≤ 9223372036854775807) (w : World) :
    Calls Try.prog 8 #[.int .i64 a0, .int .i64 a1, .int .i64 a2] w fun e w' => e = .returned (.bool true) ∧ Ext w w' := by
  have t0 : Tal w.heap.size 0 (max 0 a0) (made (max 0 a0) w) := made_tal _ w (by omega) (by omega)
  have x0 : Ext w (made (max 0 a0) w) := (Ext.refl w).made _
  by_cases hn : 0 ≤ a2
  all_goals
    go_enter Try.func8, Try.ntmps8
    go_wp2_with fail
    refine (new_any a0 w).mono ?_
    rintro e w1 ⟨rfl, rfl⟩
    go_wp2_with fail
    generalize max 0 a0 = m at *
    refine (raise_some x0 w.heap.size 0 m a1 (Nat.le_refl _) t0).mono ?_
    rintro e w1 ⟨r, v, rfl, t1, x1⟩
    have l1 := t1.low
    have l2 := t1.le
    have t2 := t1.put v l1 l2
    have t3 := t2.put v l1 l2
    have x3 := (x1.put (Nat.le_refl _) v).put (Nat.le_refl _) v
    clear t0 x0
    go_wp2_with fail
    refine (now_any w.heap.size v m _ t1).mono ?_
    rintro e w1 ⟨rfl, rfl⟩
    go_wp2_with fail
    refine (add_no w.heap.size v m _ _ t1 (by omega)).mono ?_
    rintro e w1 ⟨rfl, rfl⟩
    go_wp2_with fail
    refine (add_zero w.heap.size v m _ t1).mono ?_
    rintro e w1 ⟨rfl, rfl⟩
    go_wp2_with fail
    refine (take_no w.heap.size v m _ _ t2 (by omega)).mono ?_
    rintro e w1 ⟨rfl, rfl⟩
    go_wp2_with fail
    refine (take_zero w.heap.size v m _ t2).mono ?_
    rintro e w1 ⟨rfl, rfl⟩
    go_wp2_with fail
    refine (raise_no w.heap.size v m _ _ t3 (by omega)).mono ?_
    rintro e w1 ⟨rfl, rfl⟩
    go_wp2_with fail
    refine (now_any w.heap.size v m _ t3).mono ?_
    rintro e w1 ⟨rfl, rfl⟩
    go_wp2_with fail
    refine (awake_any _).mono ?_
    rintro e w1 ⟨rfl, hx⟩
    go_wp2_with fail
    go_ret
    exact ⟨rfl, x3.trans hx⟩
end Go.Proofs.Ytahjkndbjobcjaa
