/- What is known of what came in: members, rows of members. -/
import Derived.Test.YtgnchloclkjalaaArb
import Derived.Test.YtgnchloclkjalaaMb
namespace Go.Proofs.Ytgnchloclkjalaa
open Go.ChangeShapes Go.WideShapes Go.ChangeAt Go.RowKit

theorem cellsM : Try.prog.cellsOf 23 = 2 := by kernel_rfl
theorem cells2 : Try.prog.cellsOf 2 = 1 := by kernel_rfl
theorem cells3 : Try.prog.cellsOf 3 = 1 := by kernel_rfl
theorem list2 {α : Type} (l : List α) (h : (⟨l⟩ : Array α).size = 2) : ∃ a b, l = [a, b] := by
  match l, h with
  | [a, b], _ => exact ⟨a, b, rfl⟩
set_option maxRecDepth 100000 in
theorem argM {H : Type} {enc : TypeId × Value → H} {W : World} {base B fuel : Nat} {spare : Nat → Bool} {held : Bool} {v : Value} {x : DataW H × List MemPlace}
    (hv : Value.okWide Try.prog W .any base 23 v) (hf : DataW.trod enc Try.prog W B spare held fuel 23 v.cells.toList = some x) :
    ∃ n N : Int, v = .agg #[.int .i64 n, .int .i64 N] ∧ (-9223372036854775808 ≤ n ∧ n ≤ 9223372036854775807) ∧ (-9223372036854775808 ≤ N ∧ N ≤ 9223372036854775807) := by
  obtain ⟨cs, rfl, hs, -⟩ : ∃ cs, v = .agg cs ∧ cs.size = Try.prog.cellsOf 23 ∧ Row.okWide Try.prog W .any base 23 cs := by
    simpa [Value.okWide, Try.underlying23] using hv
  rw [cellsM] at hs
  obtain ⟨l⟩ := cs
  obtain ⟨c0, c1, rfl⟩ := list2 l hs
  obtain ⟨y0, y1, m, -, -, h0, h1⟩ := trod_struct2 Try.underlying23 hf
  simp only [cells3, cells2] at h0 h1
  obtain ⟨n, e0, -, w0⟩ := DataW.trod_int Try.underlying3 h0
  obtain ⟨N, e1, -, w1⟩ := DataW.trod_int Try.underlying2 h1
  have i0 : c0 = .int .i64 n := (List.cons.inj (show [c0] = [.int .i64 n] from e0)).1
  have i1 : c1 = .int .i64 N := (List.cons.inj (show [c1] = [.int .i64 N] from e1)).1
  subst i0 i1
  refine ⟨n, N, rfl, ?_, ?_⟩
  · exact wfI w0
  · exact wfI w1

end Go.Proofs.Ytgnchloclkjalaa
