/- What the arguments of the laws are: vectors, dots; the table that the row lists. -/
import Derived.Test.YtalcfkdmlebkbaaDoorCards
import Derived.Test.YtalcfkdmlebkbaaDoorTie
import Derived.WalkKit
import Derived.ProofKit
import Derived.OpenShut
import Derived.ChangeSame
import Derived.Deep.DeepHandedRow
import Derived.Lib.LaidTab
import Derived.LaidMore
import Derived.Below
import Derived.Test.YtalcfkdmlebkbaaDoorAwake
namespace Go.Proofs.YtalcfkdmlebkbaaDoor
open Go.ChangeShapes Go.WideShapes Go.ChangeAt Go.RowKit

theorem cellsV : Tryd.prog.cellsOf 23 = 8 := by kernel_rfl
theorem cellsD : Tryd.prog.cellsOf 25 = 2 := by kernel_rfl
theorem cells2 : Tryd.prog.cellsOf 2 = 1 := by kernel_rfl
theorem cells3 : Tryd.prog.cellsOf 3 = 1 := by kernel_rfl
theorem list8 {α : Type} (l : List α) (h : (⟨l⟩ : Array α).size = 8) : ∃ a b c d e f g i, l = [a, b, c, d, e, f, g, i] := by
  match l, h with
  | [a, b, c, d, e, f, g, i], _ => exact ⟨a, b, c, d, e, f, g, i, rfl⟩
theorem list2 {α : Type} (l : List α) (h : (⟨l⟩ : Array α).size = 2) : ∃ a b, l = [a, b] := by
  match l, h with
  | [a, b], _ => exact ⟨a, b, rfl⟩
def fn8 (a b c d e f g i : Int) : Nat → Int
  | 0 => a
  | 1 => b
  | 2 => c
  | 3 => d
  | 4 => e
  | 5 => f
  | 6 => g
  | _ => i
theorem wfI {n : Int} (h : (Lit.int .i64 n).wf = true) : -9223372036854775808 ≤ n ∧ n ≤ 9223372036854775807 := by
  simp [Lit.wf] at h
  exact h
set_option maxRecDepth 100000 in
theorem argV {H : Type} {enc : TypeId × Value → H} {W : World} {base B fuel : Nat} {spare : Nat → Bool} {held : Bool} {v : Value} {x : DataW H × List MemPlace}
    (hv : Value.okWide Tryd.prog W .any base 23 v) (hf : DataW.trod enc Tryd.prog W B spare held fuel 23 v.cells.toList = some x) :
    ∃ f : Nat → Int, v = .agg #[.int .i64 (f 0), .int .i64 (f 1), .int .i64 (f 2), .int .i64 (f 3), .int .i64 (f 4), .int .i64 (f 5), .int .i64 (f 6), .int .i64 (f 7)] ∧ ∀ j, j < 8 → -9223372036854775808 ≤ f j ∧ f j ≤ 9223372036854775807 := by
  obtain ⟨cs, rfl, hs, -⟩ : ∃ cs, v = .agg cs ∧ cs.size = Tryd.prog.cellsOf 23 ∧ Row.okWide Tryd.prog W .any base 23 cs := by
    simpa [Value.okWide, Tryd.underlying23] using hv
  rw [cellsV] at hs
  obtain ⟨l⟩ := cs
  obtain ⟨c0, c1, c2, c3, c4, c5, c6, c7, rfl⟩ := list8 l hs
  obtain ⟨xs, m, -, -, -, hlen, hel⟩ := DataW.trod_array Tryd.underlying23 hf
  rw [cells2] at hel
  have get : ∀ (i : Nat) (c : Value), i < 8 → (([c0, c1, c2, c3, c4, c5, c6, c7] : List Value).drop (i * 1)).take 1 = [c] → ∃ n : Int, c = .int .i64 n ∧ -9223372036854775808 ≤ n ∧ n ≤ 9223372036854775807 := by
    intro i c hi hc
    have h := hel i hi
    have hc' : List.take 1 (List.drop (i * 1) (Value.agg #[c0, c1, c2, c3, c4, c5, c6, c7]).cells.toList) = [c] := hc
    rw [hc', List.getElem?_eq_getElem (by omega)] at h
    obtain ⟨n, e, -, wf⟩ := DataW.trod_int Tryd.underlying2 h
    refine ⟨n, (List.cons.inj e).1, ?_⟩
    exact wfI wf
  obtain ⟨n0, rfl, r0⟩ := get 0 c0 (by omega) rfl
  obtain ⟨n1, rfl, r1⟩ := get 1 c1 (by omega) rfl
  obtain ⟨n2, rfl, r2⟩ := get 2 c2 (by omega) rfl
  obtain ⟨n3, rfl, r3⟩ := get 3 c3 (by omega) rfl
  obtain ⟨n4, rfl, r4⟩ := get 4 c4 (by omega) rfl
  obtain ⟨n5, rfl, r5⟩ := get 5 c5 (by omega) rfl
  obtain ⟨n6, rfl, r6⟩ := get 6 c6 (by omega) rfl
  obtain ⟨n7, rfl, r7⟩ := get 7 c7 (by omega) rfl
  refine ⟨fn8 n0 n1 n2 n3 n4 n5 n6 n7, rfl, fun j hj => ?_⟩
  obtain rfl | rfl | rfl | rfl | rfl | rfl | rfl | rfl : j = 0 ∨ j = 1 ∨ j = 2 ∨ j = 3 ∨ j = 4 ∨ j = 5 ∨ j = 6 ∨ j = 7 := by omega
  all_goals assumption
set_option maxRecDepth 100000 in
theorem argD {H : Type} {enc : TypeId × Value → H} {W : World} {base B fuel : Nat} {spare : Nat → Bool} {held : Bool} {v : Value} {x : DataW H × List MemPlace}
    (hv : Value.okWide Tryd.prog W .any base 25 v) (hf : DataW.trod enc Tryd.prog W B spare held fuel 25 v.cells.toList = some x) :
    ∃ n N : Int, v = .agg #[.int .i64 n, .int .i64 N] ∧ (-9223372036854775808 ≤ n ∧ n ≤ 9223372036854775807) ∧ (-9223372036854775808 ≤ N ∧ N ≤ 9223372036854775807) := by
  obtain ⟨cs, rfl, hs, -⟩ : ∃ cs, v = .agg cs ∧ cs.size = Tryd.prog.cellsOf 25 ∧ Row.okWide Tryd.prog W .any base 25 cs := by
    simpa [Value.okWide, Tryd.underlying25] using hv
  rw [cellsD] at hs
  obtain ⟨l⟩ := cs
  obtain ⟨c0, c1, rfl⟩ := list2 l hs
  obtain ⟨y0, y1, m, -, -, h0, h1⟩ := trod_struct2 Tryd.underlying25 hf
  simp only [cells3, cells2] at h0 h1
  obtain ⟨n, e0, -, w0⟩ := DataW.trod_int Tryd.underlying3 h0
  obtain ⟨N, e1, -, w1⟩ := DataW.trod_int Tryd.underlying2 h1
  have i0 : c0 = .int .i64 n := (List.cons.inj (show [c0] = [.int .i64 n] from e0)).1
  have i1 : c1 = .int .i64 N := (List.cons.inj (show [c1] = [.int .i64 N] from e1)).1
  subst i0 i1
  refine ⟨n, N, rfl, ?_, ?_⟩
  · exact wfI w0
  · exact wfI w1

theorem gPow : Tryd.prog.globalNamed "internal/strconv.uint64pow10" = some 0 := by kernel_rfl
theorem tPow : (Tryd.prog.globals[0]?).map (·.type) = some 117 := by kernel_rfl
theorem uPow : Tryd.prog.underlying 117 = some (.array 20 86) := by kernel_rfl
theorem cPow : Tryd.prog.cellsOf 117 = 20 := by kernel_rfl
theorem tab_of {W : World} {rest : List (String × DataW Unit)} (h : laidMet Tryd.prog (("math/bits.deBruijn32tab", Rows.laid_math_bits_deBruijn32tab) :: ("math/bits.deBruijn64tab", Rows.laid_math_bits_deBruijn64tab) :: ("internal/strconv.uint64pow10", Rows.laid_internal_strconv_uint64pow10) :: rest) W) : Tab W := by
  obtain ⟨ps, ⟨_, _, _, _, _, _, _, _, _, _, ⟨_, _, _, _, _, _, _, _, _, _, ⟨g', t', cs, fuel, p, q, hg', ht', hvar, hd, _, _⟩, _⟩, _⟩, _⟩ := h
  obtain rfl := Option.some.inj (gPow.symm.trans hg')
  obtain rfl := Option.some.inj (tPow.symm.trans ht')
  have he : Tryd.prog.underlying 86 = some (.int .u64) := by kernel_rfl
  have hce : Tryd.prog.cellsOf 86 = 1 := by kernel_rfl
  have hd' : DataW.trod _ Tryd.prog W 0 _ _ fuel 117 cs.toList = some (Lib.tabData .u64 Lib.pow10Tab, p) := hd
  refine ⟨?_⟩
  unfold Lib.TabIs
  rw [hvar, ← Lib.cells_of_tab uPow he hce cPow hd']
end Go.Proofs.YtalcfkdmlebkbaaDoor
