/- The reference's May and Join; Leq; Refute of both; awake. -/
import Derived.Test.YtakijikehpblfabMb
namespace Go.Proofs.Ytakijikehpblfab
set_option maxRecDepth 100000
open Go.RowKit

def eqM (s i t j : Int) : Bool := decide (s = t ∧ i = j)
def leqM (s i t j : Int) : Bool := eqM (jS s i t j) (jI s i t j) t j
def rA (i t j : Int) : Bool := mayB t j && decide (t ≠ 0 ∧ i ≤ j ∧ j < 1099511627776)
def rB (i t j : Int) : Bool := mayB t j && decide (i < j)
def rfS (s i t j : Int) : Int := if rA i t j = true ∨ rB i t j = true then 0 else s
def rfI (_s i t j : Int) : Int := if rA i t j = true then j + 1 else if rB i t j = true then j else i
def rfB (_s i t j : Int) : Bool := rA i t j || rB i t j
theorem may_of {s i : Int} (h : mayB s i = true) : 0 ≤ s ∧ s ≤ 2 ∧ 0 ≤ i ∧ i ≤ 1099511627776 := by simpa [mayB] using h
theorem eql_mem (a b c d : Int) (W : World) : (binOp .eql 31 (.agg #[.int .i64 a, .int .i64 b]) (.agg #[.int .i64 c, .int .i64 d])).run Try.prog W = .ok (.bool (eqM a b c d)) W := by
  go_simp
  unfold eqM
  by_cases h1 : a = c <;> by_cases h2 : b = d <;> simp [h1, h2]
theorem neq_mem (a b c d : Int) (W : World) : (binOp .neq 31 (.agg #[.int .i64 a, .int .i64 b]) (.agg #[.int .i64 c, .int .i64 d])).run Try.prog W = .ok (.bool (!eqM a b c d)) W := by
  go_simp
  unfold eqM
  by_cases h1 : a = c <;> by_cases h2 : b = d <;> simp [h1, h2]

end Go.Proofs.Ytakijikehpblfab
