/- The reference's NewView. -/
import Derived.Test.YtakijikehpblfaaRv16
namespace Go.Proofs.Ytakijikehpblfaa
set_option maxRecDepth 100000
open Go.RowKit

theorem clN_eq2 (n : Int) : max 0 (min n 8) = (clN n : Int) := by unfold clN; omega
theorem rnew_no {q v : Int} (hh : hasB (clN q) v = false) (w : World) : Calls Try.prog 10 #[.int .i64 q, .int .i64 v] w fun e w' => e = .returned (.pointer none) ∧ w' = w := by
  have hmx := max_int0 0 (min q 8)
  have hmn := min_int0 q 8
  have hle := clN_le q
  rw [clN_eq2] at hmx
  generalize clN q = n at *
  by_cases h1 : 0 ≤ v
  · have h2 : (n : Int) ≤ v := by
      have h := of_decide_eq_false hh
      omega
    clear hh
    go_enter Try.func10, Try.ntmps10
    go_wp2_with fail
    go_ret
    exact ⟨rfl, rfl⟩
  · clear hh
    go_enter Try.func10, Try.ntmps10
    go_wp2_with fail
    go_ret
    exact ⟨rfl, rfl⟩
theorem mrow_of {a n : Nat} {w : World} (h : Cel a 46 (madeM n) w) : MRow a n (fun _ => (0, 0)) w := ⟨_, h, fun _ hi => ⟨madeM_at (by omega), madeM_at (by omega)⟩⟩
theorem irow_of {a n : Nat} {w : World} (h : Cel a 3 (madeI n) w) : IRow a n (fun _ => 0) w := ⟨_, h, fun _ hi => madeI_at hi⟩
theorem Cel.new3 (w : World) (x y z : Obj) (t : TypeId) (cs : Array Value) : Cel (w.heap.size + 1 + 1 + 1) t cs ((((w.alloc x).alloc y).alloc z).alloc (.cells cs t)) := by
  have := Cel.new (((w.alloc x).alloc y).alloc z) t cs
  simp only [World.size_alloc] at this
  exact this
set_option maxHeartbeats 1000000 in
theorem rnew_yes {q : Int} {i : Nat} (hi : i < clN q) (w : World) : Calls Try.prog 10 #[.int .i64 q, .int .i64 (i : Int)] w fun e w' => ∃ Q a b c, e = .returned (.pointer (some ⟨Q, 0, none⟩)) ∧ RVw Q a b c (d0 (clN q) i) w' ∧ (w.heap.size ≤ Q ∧ w.heap.size ≤ a ∧ w.heap.size ≤ b ∧ w.heap.size ≤ c) ∧ Off (fun _ => False) w w' := by
  have hmx := max_int0 0 (min q 8)
  have hmn := min_int0 q 8
  have hle := clN_le q
  rw [clN_eq2] at hmx
  generalize clN q = n at *
  have hin : (i : Int) < (n : Int) := by omega
  have mkM := makeM n (by omega)
  have mkI := makeI n (by omega)
  go_enter Try.func10, Try.ntmps10
  go_wp2_with fail
  go_region
  all_goals
    go_wp2_with fail
    go_ret
  all_goals refine ⟨_, _, _, _, rfl, ⟨(Cel.new3 w _ _ _ _ _).drew, ?_, ?_, ?_, ?_, hle, hi⟩, ?_, (((((Off.refl _ w).alloc _).alloc _).alloc _).alloc _).drew⟩
  all_goals first
    | exact mrow_of ((((Cel.new w _ _).alloc _).alloc _).alloc _).drew
    | exact mrow_of (((Cel.new1 w _ _ _).alloc _).alloc _).drew
    | exact mrow_of ((Cel.new2 w _ _ _ _).alloc _).drew
    | exact irow_of ((((Cel.new w _ _).alloc _).alloc _).alloc _).drew
    | exact irow_of (((Cel.new1 w _ _ _).alloc _).alloc _).drew
    | exact irow_of ((Cel.new2 w _ _ _ _).alloc _).drew
    | (show _ ≠ _; omega)
    | omega
end Go.Proofs.Ytakijikehpblfaa
