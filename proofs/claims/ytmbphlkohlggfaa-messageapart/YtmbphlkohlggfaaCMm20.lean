/- Items of several texts. -/
import Derived.Test.YtmbphlkohlggfaaCPt20
namespace Go.Proofs.Ytmbphlkohlggfaa
set_option maxRecDepth 100000
open Go.RowKit
def mbB (s i : Int) : Bool := decide (0 ≤ s ∧ s ≤ 2 ∧ 0 ≤ i ∧ i ≤ 1099511627776)
set_option maxHeartbeats 1000000 in
theorem mmay_any (s i : Int) (w : World) : Calls Try.prog 37 #[.agg #[.int .i64 s, .int .i64 i]] w fun e w' => e = .returned (.bool (mbB s i)) ∧ Off (fun _ => False) w w' := by
 have o1 : ∀ x, Off (fun _ => False) w (w.alloc x) := fun x => (Off.refl _ w).alloc _
 by_cases h1 : 0 ≤ s
 ·have e1 : decide (0 ≤ s) = true := decide_eq_true h1
  by_cases h2 : s ≤ 2
  ·have e2 : decide (s ≤ 2) = true := decide_eq_true h2
   by_cases h3 : 0 ≤ i
   ·have e3 : decide (0 ≤ i) = true := decide_eq_true h3
    have hb : mbB s i = decide (i ≤ 1099511627776) := decide_eq_decide.2 ⟨fun h => h.2.2.2, fun h => ⟨h1, h2, h3, h⟩⟩
    rw [hb]
    clear hb
    go_enter Try.func37, Try.ntmps37
    go_wp2_with fail
    go_ret
    exact ⟨rfl, o1 _⟩
   ·have e3 : decide (0 ≤ i) = false := decide_eq_false h3
    have hb : mbB s i = false := decide_eq_false (fun h => h3 h.2.2.1)
    rw [hb]
    clear hb
    go_enter Try.func37, Try.ntmps37
    go_wp2_with fail
    go_ret
    exact ⟨rfl, o1 _⟩
  ·have e2 : decide (s ≤ 2) = false := decide_eq_false h2
   have hb : mbB s i = false := decide_eq_false (fun h => h2 h.2.1)
   rw [hb]
   clear hb
   go_enter Try.func37, Try.ntmps37
   go_wp2_with fail
   go_ret
   exact ⟨rfl, o1 _⟩
 ·have e1 : decide (0 ≤ s) = false := decide_eq_false h1
  have hb : mbB s i = false := decide_eq_false (fun h => h1 h.1)
  rw [hb]
  clear hb
  go_enter Try.func37, Try.ntmps37
  go_wp2_with fail
  go_ret
  exact ⟨rfl, o1 _⟩
theorem mb_of {s i : Int} (h : mbB s i = true) : 0 ≤ s ∧ s ≤ 2 ∧ 0 ≤ i ∧ i ≤ 1099511627776 := by simpa [mbB] using h
end Go.Proofs.Ytmbphlkohlggfaa
