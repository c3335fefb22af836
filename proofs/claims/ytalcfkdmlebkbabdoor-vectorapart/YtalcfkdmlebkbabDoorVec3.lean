/- Next, used. -/
import Derived.Test.YtalcfkdmlebkbabDoorVec2
import Derived.Laws.ResultCell
namespace Go.Proofs.YtalcfkdmlebkbabDoor
open Go.RowKit

theorem results_dot {fn : Func} {p u : Tmp} (h : fn.results = #[.cell p 23, .tmp u]) {tmps : Array Value} {w : World} {b : Nat} {x y : Int} (hp : tmps.getD p undef = .pointer (some ⟨b, 0, none⟩)) {v : Value} (hu : tmps.getD u undef = v) (hc : Cel b 23 #[.int .i64 x, .int .i64 y] w) :
    (results fn tmps).run Tryd.prog w = .ok (.tuple #[.agg #[.int .i64 x, .int .i64 y], v]) w := by
  rw [results_cell_tmp h]
  have ha : (asAddr (.pointer (some ⟨b, 0, none⟩))).run Tryd.prog w = .ok ⟨b, 0, none⟩ w := rfl
  rw [hp, hu, ha]
  obtain ⟨d, hd⟩ : ∃ d, Tryd.prog.underlying 23 = some (.struct d) := ⟨_, Tryd.underlying23⟩
  have hv := run_loadVar_row (P := Tryd.prog) w b 23 23 #[.int .i64 x, .int .i64 y] (0, 0) (.struct d) hc.is hd rfl (by kernel_rfl)
  simp only [Result.andThen, hv]

theorem wrap64 {x : Int} (h0 : -9223372036854775808 ≤ x) (h1 : x ≤ 9223372036854775807) : IntKind.i64.wrap x = x := by
  simp only [IntKind.wrap, IntKind.bits, IntKind.signed]
  go_num
theorem Cel.new1 (w : World) (o : Obj) (t : TypeId) (cs : Array Value) : Cel (w.heap.size + 1) t cs ((w.alloc o).alloc (.cells cs t)) := by
  have := Cel.new (w.alloc o) t cs
  simp only [World.size_alloc] at this
  exact this
theorem not_any (x : Bool) (w : World) : (Op.unary .not (.bool x)).run Tryd.prog w = .ok (.bool (!x)) w := rfl

/-- What Next tells: the dot's node, its number, the error. -/
def nextV (f : Nat → Int) (n : Int) : Int × Int × Int :=
  if nodeB n = false then (0, 0, 1) else if 1099511627776 ≤ f n.toNat then (0, 0, 11) else (n, f n.toNat + 1, 0)

set_option maxRecDepth 100000 in
theorem next_any (f : Nat → Int) (hr : ∀ j, j < 8 → -9223372036854775808 ≤ f j) (n : Int) (w : World) :
    Calls Tryd.prog 10 #[.agg #[.int .i64 (f 0), .int .i64 (f 1), .int .i64 (f 2), .int .i64 (f 3), .int .i64 (f 4), .int .i64 (f 5), .int .i64 (f 6), .int .i64 (f 7)], .int .i64 n] w fun e w' => e = .returned (.tuple #[.agg #[.int .i64 (nextV f n).1, .int .i64 (nextV f n).2.1], .int .i64 (nextV f n).2.2]) ∧ Off (fun _ => False) w w' := by
  have hnot := not_any
  have O2 : ∀ x y, Off (fun _ => False) w ((w.alloc x).alloc y) := fun x y => ((Off.refl _ w).alloc _).alloc _
  by_cases h0 : nodeB n = true
  · obtain ⟨m, hm, rfl⟩ : ∃ m : Nat, m < 8 ∧ n = (m : Int) := by
      simp only [nodeB, decide_eq_true_eq] at h0
      exact ⟨n.toNat, by omega, by omega⟩
    have ha := at_vec w.heap.size hm
    have hc : ∀ x, ((w.alloc (.cells #[.int .i64 (f 0), .int .i64 (f 1), .int .i64 (f 2), .int .i64 (f 3), .int .i64 (f 4), .int .i64 (f 5), .int .i64 (f 6), .int .i64 (f 7)] 25)).alloc x).cell? ⟨w.heap.size, m, none⟩ = some (.int .i64 (f m)) := fun x => (((Cel.new w _ _).alloc x).cell m).trans (vec_get f hm)
    have hv1 := vec_get f hm
    by_cases h1 : 1099511627776 ≤ f m
    · have e1 : decide (1099511627776 ≤ f m) = true := by simp; omega
      have hv : Hid (nextV f m = (0, 0, 11)) := by show nextV f m = _; simp [nextV, h0, h1]
      go_enter Tryd.func10, Tryd.ntmps10
      go_wp2_with fail
      refine (node_any _ _).mono ?_
      rintro e w1 ⟨rfl, hw⟩
      rw [hw]; clear hw w1
      rw [h0]
      go_wp2_with fail
      refine bodyPost_ret (results_dot rfl rfl rfl (Cel.new1 w _ _ _)) rfl ?_
      rw [hv.out]
      exact ⟨rfl, O2 _ _⟩
    · have e1 : decide (1099511627776 ≤ f m) = false := by simp; omega
      have hv : Hid (nextV f m = ((m : Int), f m + 1, 0)) := by show nextV f m = _; simp [nextV, h0, h1]
      have hw2 : IntKind.i64.wrap (f m + 1) = f m + 1 := by
        have := hr m hm
        exact wrap64 (by omega) (by omega)
      go_enter Tryd.func10, Tryd.ntmps10
      go_wp2_with fail
      refine (node_any _ _).mono ?_
      rintro e w1 ⟨rfl, hw⟩
      rw [hw]; clear hw w1
      rw [h0]
      go_wp2_with fail
      refine bodyPost_ret (results_dot rfl rfl rfl (Cel.new1 w _ _ _)) rfl ?_
      rw [hv.out]
      exact ⟨rfl, O2 _ _⟩
  · have h0 : nodeB n = false := by simpa using h0
    have hv : Hid (nextV f n = (0, 0, 1)) := by show nextV f n = _; simp [nextV, h0]
    go_enter Tryd.func10, Tryd.ntmps10
    go_wp2_with fail
    refine (node_any _ _).mono ?_
    rintro e w1 ⟨rfl, hw⟩
    rw [hw]; clear hw w1
    rw [h0]
    go_wp2_with fail
    refine bodyPost_ret (results_dot rfl rfl rfl (Cel.new1 w _ _ _)) rfl ?_
    rw [hv.out]
    exact ⟨rfl, O2 _ _⟩

/-- How many counts there are up to the last that is not 0. -/
def lastV (f : Nat → Int) : Nat → Nat
  | 0 => 0
  | n + 1 => if f n = 0 then lastV f n else n + 1
theorem lastV_le (f : Nat → Int) (n : Nat) : lastV f n ≤ n := by
  induction n with
  | zero => simp [lastV]
  | succ n ih => simp only [lastV]; split <;> omega
set_option maxRecDepth 100000 in
theorem used_any (f : Nat → Int) (w : World) : Calls Tryd.prog 16 #[.agg #[.int .i64 (f 0), .int .i64 (f 1), .int .i64 (f 2), .int .i64 (f 3), .int .i64 (f 4), .int .i64 (f 5), .int .i64 (f 6), .int .i64 (f 7)]] w fun e w' => e = .returned (.int .i64 ((lastV f 8 : Nat) : Int)) ∧ Off (fun _ => False) w w' := by
  go_enter Tryd.func16, Tryd.ntmps16
  go_wp2_with fail
  go_loopw [3] (fun y wr => ∃ n : Nat, y = .int .i64 (n : Int) ∧ n ≤ 8 ∧ lastV f n = lastV f 8 ∧ Cel w.heap.size 25 #[.int .i64 (f 0), .int .i64 (f 1), .int .i64 (f 2), .int .i64 (f 3), .int .i64 (f 4), .int .i64 (f 5), .int .i64 (f 6), .int .i64 (f 7)] wr ∧ Off (fun _ => False) w wr) (fun y _ => (intOf y).toNat)
  case atStart => exact ⟨8, rfl, by omega, rfl, Cel.new w _ _, (Off.refl _ w).alloc _⟩
  case round =>
    obtain ⟨n, rfl, hn, hl, cb, O⟩ := hrel
    have HL : Hid _ := hl
    have CB : Hid _ := cb
    clear hl cb
    match n, hn, HL with
    | 0, _, HL =>
      go_wp2_with fail
      go_ret
      exact ⟨by rw [← HL.out]; rfl, O⟩
    | m + 1, hn, HL =>
      have hm : m < 8 := by omega
      have hd : decide ((0 : Int) < ((m + 1 : Nat) : Int)) = true := by simp
      have hw2 : IntKind.i64.wrap (((m + 1 : Nat) : Int) - 1) = (m : Int) := by
        rw [show ((m + 1 : Nat) : Int) - 1 = (m : Int) by omega]
        exact wrap64 (by omega) (by omega)
      have ha := at_vec w.heap.size hm
      have hc : wr.cell? ⟨w.heap.size, m, none⟩ = some (.int .i64 (f m)) := (CB.out.cell m).trans (vec_get f hm)
      by_cases h0 : f m = 0
      · have e0 : (f m == 0) = true := by simp [h0]
        go_wp2_with fail
        go_roundw
        case rel =>
          refine ⟨m, rfl, by omega, ?_, CB.out, O⟩
          rw [← HL.out]
          simp [lastV, h0]
        case measure => simp [intOf]
      · have e0 : (f m == 0) = false := by simp [h0]
        go_wp2_with fail
        go_ret
        refine ⟨?_, O⟩
        rw [← HL.out]
        simp [lastV, h0]
end Go.Proofs.YtalcfkdmlebkbabDoor
