/- The other calls of a reader. -/
import Derived.Test.YtgnchloclkjalaaWRnum
namespace Go.Proofs.Ytgnchloclkjalaa
open Go.RowKit

/-- A call that left the reader as s'. -/
def Took (T : TypeId) (D : Nat → Prop) (b : Nat) (s' : RS) (w w' : World) : Prop := Rdr T D b s' w' ∧ Off (fun c => c = b) w w'

theorem unzig_even {n : Nat} (h : n % 2 = 0) : unzig n = ((n / 2 : Nat) : Int) := by simp [unzig, h]
theorem unzig_odd {n : Nat} (h : n % 2 = 1) : unzig n = -((n / 2 : Nat) : Int) - 1 := by simp [unzig, h]

set_option maxRecDepth 100000 in
theorem rint_any {D : Nat → Prop} {b : Nat} {s : RS} {w : World} (hR : Rdr 53 D b s w) :
    Calls Try.prog 28 #[.pointer (some ⟨b, 0, none⟩)] w fun e w' => e = .returned (.int .i64 (intS s).1) ∧ Rdr 53 D b (intS s).2 w' ∧ Off (fun c => c = b) w w' := by
  have hn := (num_ok hR.ok).2.1
  simp only [intS]
  obtain ⟨n, en⟩ : ∃ n, n = (numS s).1 := ⟨_, rfl⟩
  rw [← en] at hn ⊢
  have h1 := u64_odd n hn
  have hh : (n : Int) / 2 = ((n / 2 : Nat) : Int) := by omega
  have EN : Hid _ := en
  clear en
  obtain ⟨k, ek⟩ : ∃ k, k = n / 2 := ⟨_, rfl⟩
  have hk : k < 9223372036854775808 := by omega
  rw [← ek] at hh
  rcases Nat.mod_two_eq_zero_or_one n with h | h
  · rw [h] at h1
    have hz : Hid (unzig n = (k : Int)) := by rw [ek]; exact unzig_even h
    have x1 : bits .and .u64 (n : Int) 1 = 0 := h1
    have x2 := xor_none k hk
    clear h h1 ek
    go_enter Try.func28, Try.ntmps28
    go_wp2_with fail
    refine (rnum_any hR).mono ?_
    rw [← EN.out]
    rintro e w1 ⟨rfl, R1, o1⟩
    go_wp2_with fail
    go_ret
    rw [hz.out]
    exact ⟨rfl, R1, o1⟩
  · rw [h] at h1
    have hz : Hid (unzig n = -(k : Int) - 1) := by rw [ek]; exact unzig_odd h
    have x1 : bits .and .u64 (n : Int) 1 = 1 := h1
    have x2 := xor_ones k hk
    clear h h1 ek
    go_enter Try.func28, Try.ntmps28
    go_wp2_with fail
    refine (rnum_any hR).mono ?_
    rw [← EN.out]
    rintro e w1 ⟨rfl, R1, o1⟩
    go_wp2_with fail
    go_ret
    rw [hz.out]
    exact ⟨rfl, R1, o1⟩

theorem rleft_any {D : Nat → Prop} {b : Nat} {s : RS} {w : World} (hR : Rdr 53 D b s w) :
    Calls Try.prog 22 #[.pointer (some ⟨b, 0, none⟩)] w fun e w' => e = .returned (.int .i64 ((s.1.length : Nat) : Int)) ∧ w' = w := by
  obtain ⟨tad, cap, h1, -⟩ := hR.is
  have c0 : w.cell? ⟨b, 0, none⟩ = some (.slice tad s.1.length cap) := by rw [h1.cell]; rfl
  clear h1 hR
  go_enter Try.func22, Try.ntmps22
  go_wp2_with fail
  go_ret
  exact ⟨rfl, rfl⟩

set_option maxRecDepth 100000 in
theorem rend_any {D : Nat → Prop} {b : Nat} {s : RS} {w : World} (hR : Rdr 53 D b s w) :
    Calls Try.prog 21 #[.pointer (some ⟨b, 0, none⟩)] w fun e w' => e = .returned (.int .i64 ((endS s : Nat) : Int)) ∧ w' = w := by
  obtain ⟨tad, cap, h1, -⟩ := hR.is
  have c0 : w.cell? ⟨b, 0, none⟩ = some (.slice tad s.1.length cap) := by rw [h1.cell]; rfl
  have c1 : w.cell? ⟨b, 1, none⟩ = some (.int .i64 ((s.2 : Nat) : Int)) := by rw [h1.cell]; rfl
  clear h1 hR
  obtain ⟨l, er⟩ := s
  simp only at c0 c1
  by_cases her : er = 0
  · have hd : (((er : Nat) : Int) == 0) = true := by rw [beq_iff_eq]; omega
    by_cases hl : l = []
    · have HE : Hid (endS (l, er) = er) := by
        show endS (l, er) = er
        simp [endS, hl]
      have hd2 : decide (0 < l.length) = false := by simp [hl]
      have HER : Hid _ := her
      clear her hl
      go_enter Try.func21, Try.ntmps21
      go_wp2_with fail
      go_ret
      rw [HE.out]
      exact ⟨rfl, rfl⟩
    · have HE : Hid (endS (l, er) = 3) := by
        show endS (l, er) = 3
        simp [endS, hl, her]
      have hl' : 0 < l.length := List.length_pos_iff.2 hl
      have hd2 : decide (0 < l.length) = true := by simp; omega
      clear her hl
      go_enter Try.func21, Try.ntmps21
      go_wp2_with fail
      go_ret
      rw [HE.out]
      exact ⟨rfl, rfl⟩
  · have HE : Hid (endS (l, er) = er) := by
      show endS (l, er) = er
      simp [endS, her]
    have hd : (((er : Nat) : Int) == 0) = false := by rw [beq_eq_false_iff_ne]; omega
    go_enter Try.func21, Try.ntmps21
    go_wp2_with fail
    go_ret
    rw [HE.out]
    exact ⟨rfl, rfl⟩
end Go.Proofs.Ytgnchloclkjalaa
