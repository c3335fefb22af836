/- The calls of the program's view that only read. -/
import Derived.Test.YtakijikehpblfaaVd16
import Derived.Test.YtakijikehpblfaaTake14
namespace Go.Proofs.Ytakijikehpblfaa
set_option maxRecDepth 100000
open Go.RowKit

/-- Is k a node? -/
def hasB (n : Nat) (k : Int) : Bool := decide (0 ≤ k ∧ k < (n : Int))
/-- Another one? -/
def othB (n s : Nat) (k : Int) : Bool := decide (0 ≤ k ∧ k < (n : Int) ∧ k ≠ (s : Int))
theorem hasB_of {n : Nat} {k : Int} (h : hasB n k = true) : ∃ i : Nat, k = (i : Int) ∧ i < n := by
  have h := of_decide_eq_true h
  exact ⟨k.toNat, by omega, by omega⟩
theorem hasB_nat {n i : Nat} : hasB n (i : Int) = decide (i < n) := decide_eq_decide.2 (by omega)
theorem othB_of {n s : Nat} {k : Int} (h : othB n s k = true) : ∃ i : Nat, k = (i : Int) ∧ i < n ∧ i ≠ s := by
  have h := of_decide_eq_true h
  exact ⟨k.toNat, by omega, by omega, by omega⟩

theorem has_cell {p n : Nat} (k : Int) {w : World} (c0 : w.cell? ⟨p, 0, none⟩ = some (.int .i64 (n : Int))) : Calls Try.prog 25 #[.pointer (some ⟨p, 0, none⟩), .int .i64 k] w fun e w' => e = .returned (.bool (hasB n k)) ∧ w' = w := by
  by_cases h1 : 0 ≤ k
  · have e1 : decide (k ≥ 0) = true := decide_eq_true h1
    have e2 : decide (0 ≤ k) = true := decide_eq_true h1
    have hb : hasB n k = decide (k < (n : Int)) := decide_eq_decide.2 ⟨fun h => h.2, fun h => ⟨h1, h⟩⟩
    rw [hb]
    clear hb h1
    generalize (n : Int) = z at *
    go_enter Try.func25, Try.ntmps25
    go_wp2_with fail
    go_ret
    exact ⟨rfl, rfl⟩
  · have e1 : decide (k ≥ 0) = false := decide_eq_false h1
    have e2 : decide (0 ≤ k) = false := decide_eq_false h1
    have hb : hasB n k = false := decide_eq_false (fun h => h1 h.1)
    rw [hb]
    clear hb h1
    go_enter Try.func25, Try.ntmps25
    go_wp2_with fail
    go_ret
    exact ⟨rfl, rfl⟩
theorem has_any {p : Nat} {d : VD} (k : Int) {w : World} (h : Vw p d w) : Calls Try.prog 25 #[.pointer (some ⟨p, 0, none⟩), .int .i64 k] w fun e w' => e = .returned (.bool (hasB d.n k)) ∧ w' = w := has_cell k h.c0
theorem has_nil (k : Int) (w : World) : Calls Try.prog 25 #[.pointer none, .int .i64 k] w fun e w' => e = .returned (.bool false) ∧ w' = w := by
  go_enter Try.func25, Try.ntmps25
  go_wp2_with fail
  go_ret
  exact ⟨rfl, rfl⟩
theorem other_any {p : Nat} {d : VD} (k : Int) {w : World} (h : Vw p d w) : Calls Try.prog 32 #[.pointer (some ⟨p, 0, none⟩), .int .i64 k] w fun e w' => e = .returned (.bool (othB d.n d.self k)) ∧ w' = w := by
  have H1 : Hid _ := has_any k h
  have c1 := h.c1
  clear h
  have hb : Hid (othB d.n d.self k = (hasB d.n k && decide (k ≠ (d.self : Int)))) := by
    show _ = _
    unfold othB hasB
    by_cases h : k = (d.self : Int) <;> simp [h]
  generalize hh : hasB d.n k = b at *
  clear hh
  go_enter Try.func32, Try.ntmps32
  go_wp2_with fail
  refine Calls.mono H1.out ?_
  rintro e w2 ⟨rfl, hw⟩
  rw [hw]
  clear hw w2
  cases b
  · go_wp2_with fail
    go_ret
    rw [hb.out]
    exact ⟨rfl, rfl⟩
  · go_wp2_with fail
    go_ret
    rw [hb.out]
    exact ⟨by simp [bne]; rfl, rfl⟩
theorem state_any {p : Nat} {d : VD} (k : Int) {w : World} (h : Vw p d w) : Calls Try.prog 13 #[.pointer (some ⟨p, 0, none⟩), .int .i64 k] w fun e w' => e = .returned (.int .i64 (if hasB d.n k = true then (d.m k.toNat).1 else 2)) ∧ w' = w := by
  have H1 : Hid _ := has_any k h
  have HV : Hid _ := h
  clear h
  cases hh : hasB d.n k
  · rw [hh] at H1
    rw [if_neg (by simp)]
    go_enter Try.func13, Try.ntmps13
    go_wp2_with fail
    refine Calls.mono H1.out ?_
    rintro e w2 ⟨rfl, hw⟩
    rw [hw]
    clear hw w2
    go_wp2_with fail
    go_ret
    exact ⟨rfl, rfl⟩
  · obtain ⟨i, rfl, hi⟩ := hasB_of hh
    rw [hh] at H1
    have hn := HV.out.n8
    have x0 := HV.out.m0 hi
    rw [if_pos rfl, Int.toNat_natCast]
    generalize (d.m i).1 = x at *
    go_enter Try.func13, Try.ntmps13
    go_wp2_with fail
    refine Calls.mono H1.out ?_
    rintro e w2 ⟨rfl, hw⟩
    rw [hw]
    clear hw w2
    go_wp2_with fail
    go_ret
    exact ⟨rfl, rfl⟩
theorem missed_any {p : Nat} {d : VD} (k : Int) {w : World} (h : Vw p d w) : Calls Try.prog 22 #[.pointer (some ⟨p, 0, none⟩), .int .i64 k] w fun e w' => e = .returned (.int .i64 (if hasB d.n k = true then d.op k.toNat else 0)) ∧ w' = w := by
  have H1 : Hid _ := has_any k h
  have HV : Hid _ := h
  clear h
  cases hh : hasB d.n k
  · rw [hh] at H1
    rw [if_neg (by simp)]
    go_enter Try.func22, Try.ntmps22
    go_wp2_with fail
    refine Calls.mono H1.out ?_
    rintro e w2 ⟨rfl, hw⟩
    rw [hw]
    clear hw w2
    go_wp2_with fail
    go_ret
    exact ⟨rfl, rfl⟩
  · obtain ⟨i, rfl, hi⟩ := hasB_of hh
    rw [hh] at H1
    have hn := HV.out.n8
    have x0 := HV.out.op hi
    rw [if_pos rfl, Int.toNat_natCast]
    generalize d.op i = x at *
    go_enter Try.func22, Try.ntmps22
    go_wp2_with fail
    refine Calls.mono H1.out ?_
    rintro e w2 ⟨rfl, hw⟩
    rw [hw]
    clear hw w2
    go_wp2_with fail
    go_ret
    exact ⟨rfl, rfl⟩
theorem state_nil (k : Int) (w : World) : Calls Try.prog 13 #[.pointer none, .int .i64 k] w fun e w' => e = .returned (.int .i64 2) ∧ w' = w := by
  have H1 : Hid _ := has_nil k w
  go_enter Try.func13, Try.ntmps13
  go_wp2_with fail
  refine Calls.mono H1.out ?_
  rintro e w2 ⟨rfl, hw⟩
  rw [hw]
  clear hw w2
  go_wp2_with fail
  go_ret
  exact ⟨rfl, rfl⟩
theorem other_nil (k : Int) (w : World) : Calls Try.prog 32 #[.pointer none, .int .i64 k] w fun e w' => e = .returned (.bool false) ∧ w' = w := by
  have H1 : Hid _ := has_nil k w
  go_enter Try.func32, Try.ntmps32
  go_wp2_with fail
  refine Calls.mono H1.out ?_
  rintro e w2 ⟨rfl, hw⟩
  rw [hw]
  clear hw w2
  go_wp2_with fail
  go_ret
  exact ⟨rfl, rfl⟩
theorem missed_nil (k : Int) (w : World) : Calls Try.prog 22 #[.pointer none, .int .i64 k] w fun e w' => e = .returned (.int .i64 0) ∧ w' = w := by
  have H1 : Hid _ := has_nil k w
  go_enter Try.func22, Try.ntmps22
  go_wp2_with fail
  refine Calls.mono H1.out ?_
  rintro e w2 ⟨rfl, hw⟩
  rw [hw]
  clear hw w2
  go_wp2_with fail
  go_ret
  exact ⟨rfl, rfl⟩
end Go.Proofs.Ytakijikehpblfaa
