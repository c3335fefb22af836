/- Next. -/
import Derived.Test.YtfkpnmmcdhibbacVec2
import Derived.Laws.ResultCell
namespace Go.Proofs.Ytfkpnmmcdhibbac
open Go.RowKit

theorem results_dot {fn : Func} {p u : Tmp} (h : fn.results = #[.cell p 34, .tmp u]) {tmps : Array Value} {w : World} {b : Nat} {x y : Int} (hp : tmps.getD p undef = .pointer (some ⟨b, 0, none⟩)) {v : Value} (hu : tmps.getD u undef = v) (hc : Cel b 34 #[.int .i64 x, .int .i64 y] w) :
    (results fn tmps).run Try.prog w = .ok (.tuple #[.agg #[.int .i64 x, .int .i64 y], v]) w := by
  rw [results_cell_tmp h]
  have ha : (asAddr (.pointer (some ⟨b, 0, none⟩))).run Try.prog w = .ok ⟨b, 0, none⟩ w := rfl
  rw [hp, hu, ha]
  obtain ⟨d, hd⟩ : ∃ d, Try.prog.underlying 34 = some (.struct d) := ⟨_, Try.underlying34⟩
  have hv := run_loadVar_row (P := Try.prog) w b 34 34 #[.int .i64 x, .int .i64 y] (0, 0) (.struct d) hc.is hd rfl (by kernel_rfl)
  simp only [Result.andThen, hv]

theorem wrap64 {x : Int} (h0 : -9223372036854775808 ≤ x) (h1 : x ≤ 9223372036854775807) : IntKind.i64.wrap x = x := by
  simp only [IntKind.wrap, IntKind.bits, IntKind.signed]
  go_num
theorem Cel.new1 (w : World) (o : Obj) (t : TypeId) (cs : Array Value) : Cel (w.heap.size + 1) t cs ((w.alloc o).alloc (.cells cs t)) := by
  have := Cel.new (w.alloc o) t cs
  simp only [World.size_alloc] at this
  exact this
theorem not_any (x : Bool) (w : World) : (Op.unary .not (.bool x)).run Try.prog w = .ok (.bool (!x)) w := rfl

/-- What Next tells: the dot's node, its number, the error. -/
def nextV (f : Nat → Int) (n : Int) : Int × Int × Int :=
  if nodeB n = false then (0, 0, 1) else if 1099511627776 ≤ f n.toNat then (0, 0, 11) else (n, f n.toNat + 1, 0)

set_option maxRecDepth 100000 in
theorem next_any (f : Nat → Int) (hr : ∀ j, j < 8 → -9223372036854775808 ≤ f j) (n : Int) (w : World) :
    Calls Try.prog 11 #[.agg #[.int .i64 (f 0), .int .i64 (f 1), .int .i64 (f 2), .int .i64 (f 3), .int .i64 (f 4), .int .i64 (f 5), .int .i64 (f 6), .int .i64 (f 7)], .int .i64 n] w fun e w' => e = .returned (.tuple #[.agg #[.int .i64 (nextV f n).1, .int .i64 (nextV f n).2.1], .int .i64 (nextV f n).2.2]) ∧ Off (fun _ => False) w w' := by
  have hnot := not_any
  have O2 : ∀ x y, Off (fun _ => False) w ((w.alloc x).alloc y) := fun x y => ((Off.refl _ w).alloc _).alloc _
  by_cases h0 : nodeB n = true
  · obtain ⟨m, hm, rfl⟩ : ∃ m : Nat, m < 8 ∧ n = (m : Int) := by
      simp only [nodeB, decide_eq_true_eq] at h0
      exact ⟨n.toNat, by omega, by omega⟩
    have ha := at_vec w.heap.size hm
    have hc : ∀ x, ((w.alloc (.cells #[.int .i64 (f 0), .int .i64 (f 1), .int .i64 (f 2), .int .i64 (f 3), .int .i64 (f 4), .int .i64 (f 5), .int .i64 (f 6), .int .i64 (f 7)] 24)).alloc x).cell? ⟨w.heap.size, m, none⟩ = some (.int .i64 (f m)) := fun x => (((Cel.new w _ _).alloc x).cell m).trans (vec_get f hm)
    have hv1 := vec_get f hm
    by_cases h1 : 1099511627776 ≤ f m
    · have e1 : decide (1099511627776 ≤ f m) = true := by simp; omega
      have hv : Hid (nextV f m = (0, 0, 11)) := by show nextV f m = _; simp [nextV, h0, h1]
      go_enter Try.func11, Try.ntmps11
      go_wp2_with fail
      refine (node_any _ _).mono ?_
      rintro e w1 ⟨rfl, hw⟩
      rw [hw]; clear hw w1
      rw [h0]
      go_wp2_with fail
      refine bodyPost_ret (results_dot rfl rfl rfl (Cel.new1 w _ _ _)) rfl ?_
      rw [hv.out]
      exact ⟨rfl, O2 _ _⟩
    · have e1 : decide (1099511627776 ≤ f m) = false := by simp; omega
      have hv : Hid (nextV f m = ((m : Int), f m + 1, 0)) := by show nextV f m = _; simp [nextV, h0, h1]
      have hw2 : IntKind.i64.wrap (f m + 1) = f m + 1 := by
        have := hr m hm
        exact wrap64 (by omega) (by omega)
      go_enter Try.func11, Try.ntmps11
      go_wp2_with fail
      refine (node_any _ _).mono ?_
      rintro e w1 ⟨rfl, hw⟩
      rw [hw]; clear hw w1
      rw [h0]
      go_wp2_with fail
      refine bodyPost_ret (results_dot rfl rfl rfl (Cel.new1 w _ _ _)) rfl ?_
      rw [hv.out]
      exact ⟨rfl, O2 _ _⟩
  · have h0 : nodeB n = false := by simpa using h0
    have hv : Hid (nextV f n = (0, 0, 1)) := by show nextV f n = _; simp [nextV, h0]
    go_enter Try.func11, Try.ntmps11
    go_wp2_with fail
    refine (node_any _ _).mono ?_
    rintro e w1 ⟨rfl, hw⟩
    rw [hw]; clear hw w1
    rw [h0]
    go_wp2_with fail
    refine bodyPost_ret (results_dot rfl rfl rfl (Cel.new1 w _ _ _)) rfl ?_
    rw [hv.out]
    exact ⟨rfl, O2 _ _⟩
end Go.Proofs.Ytfkpnmmcdhibbac
