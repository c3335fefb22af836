/- awake. -/
import Derived.Test.YtalcfkdmlebkbaaDoorCov
namespace Go.Proofs.YtalcfkdmlebkbaaDoor
open Go.RowKit

theorem aw_with : withV zer 1 2 = upd zer 1 2 := by
  have hn : nodeB 1 = true := by decide
  have h : withV zer 1 2 = upd zer 1 (max (zer 1) 2) := by simp [withV, hn]
  rw [h]
  rfl
theorem aw_text : textV (withV zer 1 2) = [48, 44, 50] := by
  have hw := aw_with
  have hl : lastV (upd zer 1 2) 8 = 2 := by decide
  have h0 : Lib.itoa 0 = [48] := by simp [Lib.itoa, Lib.decDigits]
  have h2 : Lib.itoa 2 = [50] := by simp [Lib.itoa, Lib.decDigits]
  rw [hw, textV, hl]
  simp [textL, upd, zer, h0, h2]
theorem aw_covers : coversB (withV zer 1 2) 1 2 = true := by
  have hw := aw_with
  rw [hw]
  decide
theorem aw_leq : leqB (withV zer 1 2) zer = false := by
  have hw := aw_with
  rw [hw]
  simp only [leqB, decide_eq_false_iff_not]
  intro h
  have := h 1 (by decide)
  simp [upd, zer] at this
theorem aw_range : ∀ j, j < 8 → -9223372036854775808 ≤ withV zer 1 2 j ∧ withV zer 1 2 j ≤ 9223372036854775807 := by
  have hw := aw_with
  rw [hw]
  intro j _
  simp only [upd, zer]
  split <;> decide

set_option maxRecDepth 100000 in
set_option maxHeartbeats 1000000 in
theorem awake_any (w : World) (ht : Tab w) : Calls Tryd.prog 23 #[] w fun e w' => e = .returned (.bool true) ∧ Off (fun _ => False) w w' := by
  have hnot := not_any
  obtain ⟨g, hg⟩ : ∃ g, g = withV zer 1 2 := ⟨_, rfl⟩
  have A1 := aw_text
  have A2 := aw_covers
  have A3 := aw_leq
  have A4 := aw_range
  rw [← hg] at A1 A2 A3 A4
  have W0 : ∀ w : World, Calls Tryd.prog 19 #[.agg #[.int .i64 (zer 0), .int .i64 (zer 1), .int .i64 (zer 2), .int .i64 (zer 3), .int .i64 (zer 4), .int .i64 (zer 5), .int .i64 (zer 6), .int .i64 (zer 7)], .agg #[.int .i64 1, .int .i64 2]] w fun e w' => e = .returned (.agg #[.int .i64 (g 0), .int .i64 (g 1), .int .i64 (g 2), .int .i64 (g 3), .int .i64 (g 4), .int .i64 (g 5), .int .i64 (g 6), .int .i64 (g 7)]) ∧ Off (fun _ => False) w w' := fun w => by
    have := with_any zer 1 2 w
    rw [← hg] at this
    exact this
  clear hg
  have H1 : Hid _ := A1
  have H2 : Hid _ := A2
  have H3 : Hid _ := A3
  have H4 : Hid _ := A4
  clear A1 A2 A3 A4
  go_enter Tryd.func23, Tryd.ntmps23
  go_wp2_with fail
  refine (W0 _).mono ?_
  rintro e w1 ⟨rfl, o1⟩
  have T1 := ht.off o1 (fun _ _ h => h)
  go_wp2_with fail
  have C1 := Cel.new w1 23 #[.int .i64 (g 0), .int .i64 (g 1), .int .i64 (g 2), .int .i64 (g 3), .int .i64 (g 4), .int .i64 (g 5), .int .i64 (g 6), .int .i64 (g 7)]
  have O1 : Off (fun _ => False) w (w1.alloc (.cells #[.int .i64 (g 0), .int .i64 (g 1), .int .i64 (g 2), .int .i64 (g 3), .int .i64 (g 4), .int .i64 (g 5), .int .i64 (g 6), .int .i64 (g 7)] 23)) := o1.alloc _
  have T2 := ht.off O1 (fun _ _ h => h)
  refine (text_any g H4.out _ T2).mono ?_
  rintro e w2 ⟨rfl, o2⟩
  rw [H1.out]
  have C2 := C1.off o2 (fun h => h)
  have O2 : Off (fun _ => False) w w2 := O1.trans o2 (fun _ _ h => h)
  obtain ⟨c0, c1, c2, c3, c4, c5, c6, c7⟩ := cel8 C2
  have HC2 : Hid _ := C2
  clear C2 C1 o2 O1 T2
  go_wp2_with fail
  refine (covers_any g 1 2 _).mono ?_
  rw [H2.out]
  rintro e w3 ⟨rfl, o3⟩
  clear c0 c1 c2 c3 c4 c5 c6 c7
  have C3 := HC2.out.off o3 (fun h => h)
  have O3 : Off (fun _ => False) w w3 := O2.trans o3 (fun _ _ h => h)
  obtain ⟨c0, c1, c2, c3, c4, c5, c6, c7⟩ := cel8 C3
  clear C3 HC2 o3 O2
  go_wp2_with fail
  refine (leq_any g zer _).mono ?_
  rw [H3.out]
  rintro e w4 ⟨rfl, o4⟩
  have O4 : Off (fun _ => False) w w4 := O3.trans o4 (fun _ _ h => h)
  go_wp2_with fail
  go_ret
  exact ⟨rfl, O4⟩
end Go.Proofs.YtalcfkdmlebkbaaDoor
