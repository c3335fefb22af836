/- Items of several texts. -/
import Derived.Test.YtmbphlkohlggfaaGreatAPt20
namespace Go.Proofs.YtmbphlkohlggfaaGreat
set_option maxRecDepth 100000
open Go.RowKit
def mbB (s i : Int) : Bool := decide (0 ≤ s ∧ s ≤ 2 ∧ 0 ≤ i ∧ i ≤ 1099511627776)
theorem results_mem2 {fn : Func} {p u : Tmp} (h : fn.results = #[.cell p 60, .tmp u]) {tmps : Array Value} {w : World} {b : Nat} {x y : Int} (hp : tmps.getD p undef = .pointer (some ⟨b, 0, none⟩)) {v : Value} (hu : tmps.getD u undef = v) (hc : Cel b 60 #[.int .i64 x, .int .i64 y] w) :
  (results fn tmps).run Tryz.prog w = .ok (.tuple #[.agg #[.int .i64 x, .int .i64 y], v]) w := by
 rw [results_cell_tmp h]
 have ha : (asAddr (.pointer (some ⟨b, 0, none⟩))).run Tryz.prog w = .ok ⟨b, 0, none⟩ w := rfl
 rw [hp, hu, ha]
 obtain ⟨d, hd⟩ : ∃ d, Tryz.prog.underlying 60 = some (.struct d) := ⟨_, Tryz.underlying60⟩
 have hv := run_loadVar_row (P := Tryz.prog) w b 60 60 #[.int .i64 x, .int .i64 y] (0, 0) (.struct d) hc.is hd rfl (by kernel_rfl)
 simp only [Result.andThen, hv]
theorem Cel.st2 {b : Nat} {t : TypeId} {x y : Value} {w : World} (h : Cel b t #[x, y] w) (u v : Value) : Cel b t #[u, v] ((w.setCell ⟨b, 0, none⟩ u).setCell ⟨b, 1, none⟩ v) := (h.set 0 u).set 1 v
theorem Off.st2 {D : Nat → Prop} {a w : World} (h : Off D a w) {b : Nat} (hb : D b ∨ a.heap.size ≤ b) (u v : Value) : Off D a ((w.setCell ⟨b, 0, none⟩ u).setCell ⟨b, 1, none⟩ v) := (h.setCell hb u).setCell hb v
set_option maxHeartbeats 1000000 in
theorem mmay_any (s i : Int) (w : World) : Calls Tryz.prog 64 #[.agg #[.int .i64 s, .int .i64 i]] w fun e w' => e = .returned (.bool (mbB s i)) ∧ Off (fun _ => False) w w' := by
 have o1 : ∀ x, Off (fun _ => False) w (w.alloc x) := fun x => (Off.refl _ w).alloc _
 by_cases h1 : 0 ≤ s
 ·have e1 : decide (0 ≤ s) = true := decide_eq_true h1
  by_cases h2 : s ≤ 2
  ·have e2 : decide (s ≤ 2) = true := decide_eq_true h2
   by_cases h3 : 0 ≤ i
   ·have e3 : decide (0 ≤ i) = true := decide_eq_true h3
    have hb : mbB s i = decide (i ≤ 1099511627776) := decide_eq_decide.2 ⟨fun h => h.2.2.2, fun h => ⟨h1, h2, h3, h⟩⟩
    rw [hb]
    clear hb
    go_enter Tryz.func64, Tryz.ntmps64
    go_wp2_with fail
    go_ret
    exact ⟨rfl, o1 _⟩
   ·have e3 : decide (0 ≤ i) = false := decide_eq_false h3
    have hb : mbB s i = false := decide_eq_false (fun h => h3 h.2.2.1)
    rw [hb]
    clear hb
    go_enter Tryz.func64, Tryz.ntmps64
    go_wp2_with fail
    go_ret
    exact ⟨rfl, o1 _⟩
  ·have e2 : decide (s ≤ 2) = false := decide_eq_false h2
   have hb : mbB s i = false := decide_eq_false (fun h => h2 h.2.1)
   rw [hb]
   clear hb
   go_enter Tryz.func64, Tryz.ntmps64
   go_wp2_with fail
   go_ret
   exact ⟨rfl, o1 _⟩
 ·have e1 : decide (0 ≤ s) = false := decide_eq_false h1
  have hb : mbB s i = false := decide_eq_false (fun h => h1 h.1)
  rw [hb]
  clear hb
  go_enter Tryz.func64, Tryz.ntmps64
  go_wp2_with fail
  go_ret
  exact ⟨rfl, o1 _⟩
theorem mb_of {s i : Int} (h : mbB s i = true) : 0 ≤ s ∧ s ≤ 2 ∧ 0 ≤ i ∧ i ≤ 1099511627776 := by simpa [mbB] using h
set_option maxHeartbeats 1000000 in
theorem zmaym_any (s i : Int) (w : World) : Calls Tryz.prog 39 #[.agg #[.int .i64 s, .int .i64 i]] w fun e w' => e = .returned (.bool (mbB s i)) ∧ Off (fun _ => False) w w' := by
 have o1 : ∀ x, Off (fun _ => False) w (w.alloc x) := fun x => (Off.refl _ w).alloc _
 by_cases h1 : 0 ≤ s
 ·have e1 : decide (0 ≤ s) = true := decide_eq_true h1
  by_cases h2 : s ≤ 2
  ·have e2 : decide (s ≤ 2) = true := decide_eq_true h2
   by_cases h3 : 0 ≤ i
   ·have e3 : decide (0 ≤ i) = true := decide_eq_true h3
    have hb : mbB s i = decide (i ≤ 1099511627776) := decide_eq_decide.2 ⟨fun h => h.2.2.2, fun h => ⟨h1, h2, h3, h⟩⟩
    rw [hb]
    clear hb
    go_enter Tryz.func39, Tryz.ntmps39
    go_wp2_with fail
    go_ret
    exact ⟨rfl, o1 _⟩
   ·have e3 : decide (0 ≤ i) = false := decide_eq_false h3
    have hb : mbB s i = false := decide_eq_false (fun h => h3 h.2.2.1)
    rw [hb]
    clear hb
    go_enter Tryz.func39, Tryz.ntmps39
    go_wp2_with fail
    go_ret
    exact ⟨rfl, o1 _⟩
  ·have e2 : decide (s ≤ 2) = false := decide_eq_false h2
   have hb : mbB s i = false := decide_eq_false (fun h => h2 h.2.1)
   rw [hb]
   clear hb
   go_enter Tryz.func39, Tryz.ntmps39
   go_wp2_with fail
   go_ret
   exact ⟨rfl, o1 _⟩
 ·have e1 : decide (0 ≤ s) = false := decide_eq_false h1
  have hb : mbB s i = false := decide_eq_false (fun h => h1 h.1)
  rw [hb]
  clear hb
  go_enter Tryz.func39, Tryz.ntmps39
  go_wp2_with fail
  go_ret
  exact ⟨rfl, o1 _⟩
end Go.Proofs.YtmbphlkohlggfaaGreat
