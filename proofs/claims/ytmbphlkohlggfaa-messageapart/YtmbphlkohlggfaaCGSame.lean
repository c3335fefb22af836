/- Items of several texts. -/
import Derived.Deep.Cut
import Derived.Test.YtmbphlkohlggfaaCSam
namespace Go.Proofs.Ytmbphlkohlggfaa
open Go.RowKit
theorem neq_dot5 (a b c d : Int) (W : World) : (binOp .neq 42 (.agg #[.int .i64 a, .int .i64 b]) (.agg #[.int .i64 c, .int .i64 d])).run Try.prog W = .ok (.bool (!decide (a = c ∧ b = d))) W := by
 go_simp
 by_cases h1 : a = c <;> by_cases h2 : b = d <;> simp [h1, h2]
end Go.Proofs.Ytmbphlkohlggfaa
