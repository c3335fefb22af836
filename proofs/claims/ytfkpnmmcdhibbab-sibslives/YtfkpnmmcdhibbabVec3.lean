/- Several texts in one. -/
import Derived.Test.YtfkpnmmcdhibbabVec
import Derived.Laws.ResultCell
/- isNode, May, Less, Next. -/
namespace Go.Proofs.Ytfkpnmmcdhibbab
open Go.RowKit

def nodeB (n : Int) : Bool := decide (0 ≤ n ∧ n < 8)
def mayB (f : Nat → Int) : Bool := @decide (∀ j, j < 8 → 0 ≤ f j ∧ f j ≤ 1099511627776) (dec8 (fun j => 0 ≤ f j ∧ f j ≤ 1099511627776) (fun _ => inferInstance))
def lessB (a b c d : Int) : Bool := decide (a < c ∨ a = c ∧ b < d)

theorem node_any (n : Int) (w : World) : Calls Try.prog 56 #[.int .i64 n] w fun e w' => e = .returned (.bool (nodeB n)) ∧ w' = w := by
  by_cases h0 : 0 ≤ n
  · by_cases h1 : n < 8
    · have hb : nodeB n = true := by simp [nodeB]; omega
      have e0 : decide (0 ≤ n) = true := by simp; omega
      have e1 : decide (n < 8) = true := by simp; omega
      go_enter Try.func56, Try.ntmps56
      go_wp2
      go_ret
      exact ⟨by first | rfl | (rw [hb]; rfl), rfl⟩
    · have hb : nodeB n = false := by simp [nodeB]; omega
      have e0 : decide (0 ≤ n) = true := by simp; omega
      have e1 : decide (n < 8) = false := by simp; omega
      go_enter Try.func56, Try.ntmps56
      go_wp2
      go_ret
      exact ⟨by first | rfl | (rw [hb]; rfl), rfl⟩
  · have hb : nodeB n = false := by simp [nodeB]; omega
    have e0 : decide (0 ≤ n) = false := by simp; omega
    go_enter Try.func56, Try.ntmps56
    go_wp2
    go_ret
    exact ⟨by first | rfl | (rw [hb]; rfl), rfl⟩

set_option maxRecDepth 100000 in
theorem may_any (f : Nat → Int) (w : World) : Calls Try.prog 33 #[.agg #[.int .i64 (f 0), .int .i64 (f 1), .int .i64 (f 2), .int .i64 (f 3), .int .i64 (f 4), .int .i64 (f 5), .int .i64 (f 6), .int .i64 (f 7)]] w fun e w' => e = .returned (.bool (mayB f)) ∧ Off (fun _ => False) w w' := by
  go_enter Try.func33, Try.ntmps33
  go_wp2_with fail
  go_loopw [6] (fun y wr => ∃ n : Nat, y = .int .i64 (n : Int) ∧ n ≤ 8 ∧ (∀ j, j < n → 0 ≤ f j ∧ f j ≤ 1099511627776) ∧ Off (fun _ => False) w wr) (fun y _ => (8 - intOf y).toNat)
  case atStart => exact ⟨0, rfl, by omega, by simp, (Off.refl _ w).alloc _⟩
  case round =>
    obtain ⟨n, rfl, hn, hg, O⟩ := hrel
    have HG : Hid _ := hg
    clear hg
    by_cases h : n < 8
    · have hd : decide ((n : Int) < 8) = true := by simp; omega
      have hi := idx_vec f h
      by_cases h0 : f n < 0
      · have e0 : decide (f n < 0) = true := by simp; omega
        go_wp2_with fail
        go_ret
        refine ⟨?_, O⟩
        have hb : mayB f = false := by
          simp only [mayB, decide_eq_false_iff_not]
          intro hx
          have := hx n h
          omega
        rw [hb]; rfl
      · have e0 : decide (f n < 0) = false := by simp; omega
        by_cases h1 : 1099511627776 < f n
        · have e1 : decide (1099511627776 < f n) = true := by simp; omega
          go_wp2_with fail
          go_ret
          refine ⟨?_, O⟩
          have hb : mayB f = false := by
            simp only [mayB, decide_eq_false_iff_not]
            intro hx
            have := hx n h
            omega
          rw [hb]; rfl
        · have e1 : decide (1099511627776 < f n) = false := by simp; omega
          go_wp2_with fail
          go_roundw
          case rel =>
            refine ⟨n + 1, by go_num, by omega, fun j hj => ?_, O⟩
            rcases Nat.lt_or_ge j n with h2 | h2
            · exact HG.out j h2
            · obtain rfl : j = n := by omega
              omega
          case measure => simp [intOf]; omega
    · obtain rfl : n = 8 := by omega
      go_wp2_with fail
      go_ret
      refine ⟨?_, O⟩
      have hb : mayB f = true := by
        simp only [mayB, decide_eq_true_eq]
        exact HG.out
      rw [hb]; rfl

theorem less_any (a b c d : Int) (w : World) : Calls Try.prog 50 #[.agg #[.int .i64 a, .int .i64 b], .agg #[.int .i64 c, .int .i64 d]] w fun e w' => e = .returned (.bool (lessB a b c d)) ∧ Off (fun _ => False) w w' := by
  have o2 : ∀ x y, Off (fun _ => False) w ((w.alloc x).alloc y) := fun x y => ((Off.refl _ w).alloc _).alloc _
  by_cases h0 : a = c
  · have e0 : (a != c) = false := by simp [h0]
    have hb : lessB a b c d = decide (b < d) := by simp [lessB, h0]
    go_enter Try.func50, Try.ntmps50
    go_wp2
    go_ret
    exact ⟨by first | rfl | (rw [hb]; rfl), o2 _ _⟩
  · have e0 : (a != c) = true := by simp [h0]
    have hb : lessB a b c d = decide (a < c) := by simp [lessB, h0]
    go_enter Try.func50, Try.ntmps50
    go_wp2
    go_ret
    exact ⟨by first | rfl | (rw [hb]; rfl), o2 _ _⟩
end Go.Proofs.Ytfkpnmmcdhibbab

/- Next. -/
namespace Go.Proofs.Ytfkpnmmcdhibbab
open Go.RowKit

theorem results_dot {fn : Func} {p u : Tmp} (h : fn.results = #[.cell p 31, .tmp u]) {tmps : Array Value} {w : World} {b : Nat} {x y : Int} (hp : tmps.getD p undef = .pointer (some ⟨b, 0, none⟩)) {v : Value} (hu : tmps.getD u undef = v) (hc : Cel b 31 #[.int .i64 x, .int .i64 y] w) :
    (results fn tmps).run Try.prog w = .ok (.tuple #[.agg #[.int .i64 x, .int .i64 y], v]) w := by
  rw [results_cell_tmp h]
  have ha : (asAddr (.pointer (some ⟨b, 0, none⟩))).run Try.prog w = .ok ⟨b, 0, none⟩ w := rfl
  rw [hp, hu, ha]
  obtain ⟨d, hd⟩ : ∃ d, Try.prog.underlying 31 = some (.struct d) := ⟨_, Try.underlying31⟩
  have hv := run_loadVar_row (P := Try.prog) w b 31 31 #[.int .i64 x, .int .i64 y] (0, 0) (.struct d) hc.is hd rfl (by kernel_rfl)
  simp only [Result.andThen, hv]

theorem wrap64 {x : Int} (h0 : -9223372036854775808 ≤ x) (h1 : x ≤ 9223372036854775807) : IntKind.i64.wrap x = x := by
  simp only [IntKind.wrap, IntKind.bits, IntKind.signed]
  go_num
theorem Cel.new1 (w : World) (o : Obj) (t : TypeId) (cs : Array Value) : Cel (w.heap.size + 1) t cs ((w.alloc o).alloc (.cells cs t)) := by
  have := Cel.new (w.alloc o) t cs
  simp only [World.size_alloc] at this
  exact this
theorem not_any (x : Bool) (w : World) : (Op.unary .not (.bool x)).run Try.prog w = .ok (.bool (!x)) w := rfl

/-- What Next tells: the dot's node, its number, the error. -/
def nextV (f : Nat → Int) (n : Int) : Int × Int × Int :=
  if nodeB n = false then (0, 0, 1) else if 1099511627776 ≤ f n.toNat then (0, 0, 11) else (n, f n.toNat + 1, 0)

set_option maxRecDepth 100000 in
theorem next_any (f : Nat → Int) (hr : ∀ j, j < 8 → -9223372036854775808 ≤ f j) (n : Int) (w : World) :
    Calls Try.prog 35 #[.agg #[.int .i64 (f 0), .int .i64 (f 1), .int .i64 (f 2), .int .i64 (f 3), .int .i64 (f 4), .int .i64 (f 5), .int .i64 (f 6), .int .i64 (f 7)], .int .i64 n] w fun e w' => e = .returned (.tuple #[.agg #[.int .i64 (nextV f n).1, .int .i64 (nextV f n).2.1], .int .i64 (nextV f n).2.2]) ∧ Off (fun _ => False) w w' := by
  have hnot := not_any
  have O2 : ∀ x y, Off (fun _ => False) w ((w.alloc x).alloc y) := fun x y => ((Off.refl _ w).alloc _).alloc _
  by_cases h0 : nodeB n = true
  · obtain ⟨m, hm, rfl⟩ : ∃ m : Nat, m < 8 ∧ n = (m : Int) := by
      simp only [nodeB, decide_eq_true_eq] at h0
      exact ⟨n.toNat, by omega, by omega⟩
    have ha := at_vec w.heap.size hm
    have hc : ∀ x, ((w.alloc (.cells #[.int .i64 (f 0), .int .i64 (f 1), .int .i64 (f 2), .int .i64 (f 3), .int .i64 (f 4), .int .i64 (f 5), .int .i64 (f 6), .int .i64 (f 7)] 23)).alloc x).cell? ⟨w.heap.size, m, none⟩ = some (.int .i64 (f m)) := fun x => (((Cel.new w _ _).alloc x).cell m).trans (vec_get f hm)
    have hv1 := vec_get f hm
    by_cases h1 : 1099511627776 ≤ f m
    · have e1 : decide (1099511627776 ≤ f m) = true := by simp; omega
      have hv : Hid (nextV f m = (0, 0, 11)) := by show nextV f m = _; simp [nextV, h0, h1]
      go_enter Try.func35, Try.ntmps35
      go_wp2_with fail
      refine (node_any _ _).mono ?_
      rintro e w1 ⟨rfl, hw⟩
      rw [hw]; clear hw w1
      rw [h0]
      go_wp2_with fail
      refine bodyPost_ret (results_dot rfl rfl rfl (Cel.new1 w _ _ _)) rfl ?_
      rw [hv.out]
      exact ⟨rfl, O2 _ _⟩
    · have e1 : decide (1099511627776 ≤ f m) = false := by simp; omega
      have hv : Hid (nextV f m = ((m : Int), f m + 1, 0)) := by show nextV f m = _; simp [nextV, h0, h1]
      have hw2 : IntKind.i64.wrap (f m + 1) = f m + 1 := by
        have := hr m hm
        exact wrap64 (by omega) (by omega)
      go_enter Try.func35, Try.ntmps35
      go_wp2_with fail
      refine (node_any _ _).mono ?_
      rintro e w1 ⟨rfl, hw⟩
      rw [hw]; clear hw w1
      rw [h0]
      go_wp2_with fail
      refine bodyPost_ret (results_dot rfl rfl rfl (Cel.new1 w _ _ _)) rfl ?_
      rw [hv.out]
      exact ⟨rfl, O2 _ _⟩
  · have h0 : nodeB n = false := by simpa using h0
    have hv : Hid (nextV f n = (0, 0, 1)) := by show nextV f n = _; simp [nextV, h0]
    go_enter Try.func35, Try.ntmps35
    go_wp2_with fail
    refine (node_any _ _).mono ?_
    rintro e w1 ⟨rfl, hw⟩
    rw [hw]; clear hw w1
    rw [h0]
    go_wp2_with fail
    refine bodyPost_ret (results_dot rfl rfl rfl (Cel.new1 w _ _ _)) rfl ?_
    rw [hv.out]
    exact ⟨rfl, O2 _ _⟩
end Go.Proofs.Ytfkpnmmcdhibbab
