/- The other calls of the reference's reader. -/
import Derived.Test.YtalcfkdmlebkbaaDoorRefN
namespace Go.Proofs.YtalcfkdmlebkbaaDoor
open Go.RowKit

theorem Rdr.cells {T : TypeId} {D : Nat → Prop} {b : Nat} {l : List Nat} {er : Nat} {w : World} (h : Rdr T D b (l, er) w) : ∃ tad cap, w.cell? ⟨b, 0, none⟩ = some (.slice tad l.length cap) ∧ w.cell? ⟨b, 1, none⟩ = some (.int .i64 ((er : Nat) : Int)) ∧ w.frozen? ⟨b, 0, none⟩ = false ∧ Cel b T #[.slice tad l.length cap, .int .i64 ((er : Nat) : Int)] w ∧ Lie D w tad cap l := by
  obtain ⟨tad, cap, h1, h2⟩ := h.is
  exact ⟨tad, cap, by rw [h1.cell]; rfl, by rw [h1.cell]; rfl, h1.free 0, h1, h2⟩

set_option maxRecDepth 100000 in
theorem frint_any {D : Nat → Prop} {b : Nat} {s : RS} {w : World} (hR : Rdr 51 D b s w) :
    Calls Tryd.prog 44 #[.pointer (some ⟨b, 0, none⟩)] w fun e w' => e = .returned (.int .i64 (intS s).1) ∧ Rdr 51 D b (intS s).2 w' ∧ Off (fun c => c = b) w w' := by
  have hno := num_ok hR.ok
  simp only [intS]
  obtain ⟨n, l, er, en⟩ : ∃ n l er, numS s = (n, (l, er)) := ⟨_, _, _, rfl⟩
  rw [en] at hno ⊢
  have hn : n < 18446744073709551616 := hno.2.1
  have hz0 : er ≠ 0 → n = 0 := hno.2.2.1
  have EN : Hid _ := en
  clear en hno
  by_cases her : er = 0
  · have hd : (((er : Nat) : Int) == 0) = true := by rw [beq_iff_eq]; omega
    have HER : Hid _ := her
    clear her hz0
    have h1 := u64_odd n hn
    have hh : (n : Int) / 2 = ((n / 2 : Nat) : Int) := by omega
    obtain ⟨k, ek⟩ : ∃ k, k = n / 2 := ⟨_, rfl⟩
    have hk : k < 9223372036854775808 := by omega
    rw [← ek] at hh
    rcases Nat.mod_two_eq_zero_or_one n with h | h
    · rw [h] at h1
      have hz : Hid (unzig n = (k : Int)) := by rw [ek]; exact unzig_even h
      have x1 : bits .and .u64 (n : Int) 1 = 0 := h1
      have x2 := xor_none k hk
      clear h h1 ek
      go_enter Tryd.func44, Tryd.ntmps44
      go_wp2_with fail
      refine (frnum_any hR).mono ?_
      rw [EN.out]
      rintro e w1 ⟨rfl, R1, o1⟩
      obtain ⟨tad, cap, c0, c1, f0, -, -⟩ := R1.cells
      go_wp2_with fail
      go_ret
      simp only [hz.out]
      exact ⟨rfl, R1, o1⟩
    · rw [h] at h1
      have hz : Hid (unzig n = -(k : Int) - 1) := by rw [ek]; exact unzig_odd h
      have x1 : bits .and .u64 (n : Int) 1 = 1 := h1
      have x2 := xor_ones k hk
      clear h h1 ek
      go_enter Tryd.func44, Tryd.ntmps44
      go_wp2_with fail
      refine (frnum_any hR).mono ?_
      rw [EN.out]
      rintro e w1 ⟨rfl, R1, o1⟩
      obtain ⟨tad, cap, c0, c1, f0, -, -⟩ := R1.cells
      go_wp2_with fail
      go_ret
      simp only [hz.out]
      exact ⟨rfl, R1, o1⟩
  · have hd : (((er : Nat) : Int) == 0) = false := by rw [beq_eq_false_iff_ne]; omega
    have HN0 : Hid (unzig n = 0) := by
      show unzig n = 0
      rw [hz0 her]
      simp [unzig]
    clear hz0
    go_enter Tryd.func44, Tryd.ntmps44
    go_wp2_with fail
    refine (frnum_any hR).mono ?_
    rw [EN.out]
    rintro e w1 ⟨rfl, R1, o1⟩
    obtain ⟨tad, cap, c0, c1, f0, -, -⟩ := R1.cells
    go_wp2_with fail
    go_ret
    simp only [HN0.out]
    exact ⟨rfl, R1, o1⟩

set_option maxRecDepth 100000 in
theorem frend_any {D : Nat → Prop} {b : Nat} {s : RS} {w : World} (hR : Rdr 51 D b s w) :
    Calls Tryd.prog 33 #[.pointer (some ⟨b, 0, none⟩)] w fun e w' => e = .returned (.int .i64 ((endS s : Nat) : Int)) ∧ w' = w := by
  obtain ⟨l, er⟩ := s
  obtain ⟨tad, cap, c0, c1, -, -, -⟩ := hR.cells
  clear hR
  by_cases her : er = 0
  · have hd : (((er : Nat) : Int) == 0) = true := by rw [beq_iff_eq]; omega
    by_cases hl : l = []
    · have HE : Hid (endS (l, er) = er) := by
        show endS (l, er) = er
        simp [endS, hl]
      have hd2 : decide (0 < l.length) = false := by simp [hl]
      have HER : Hid _ := her
      clear her hl
      go_enter Tryd.func33, Tryd.ntmps33
      go_wp2_with fail
      go_ret
      rw [HE.out]
      exact ⟨rfl, rfl⟩
    · have HE : Hid (endS (l, er) = 3) := by
        show endS (l, er) = 3
        simp [endS, hl, her]
      have hl' : 0 < l.length := List.length_pos_iff.2 hl
      have hd2 : decide (0 < l.length) = true := by simp; omega
      clear her hl
      go_enter Tryd.func33, Tryd.ntmps33
      go_wp2_with fail
      go_ret
      rw [HE.out]
      exact ⟨rfl, rfl⟩
  · have HE : Hid (endS (l, er) = er) := by
      show endS (l, er) = er
      simp [endS, her]
    have hd : (((er : Nat) : Int) == 0) = false := by rw [beq_eq_false_iff_ne]; omega
    go_enter Tryd.func33, Tryd.ntmps33
    go_wp2_with fail
    go_ret
    rw [HE.out]
    exact ⟨rfl, rfl⟩
end Go.Proofs.YtalcfkdmlebkbaaDoor
