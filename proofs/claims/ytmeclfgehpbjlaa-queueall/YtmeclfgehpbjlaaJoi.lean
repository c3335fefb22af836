/- The contract of sibs.Join. -/
import Derived.Test.YtmeclfgehpbjlaaSib
namespace Go.Proofs.Ytmeclfgehpbjlaa
open Go.RowKit

theorem min_any (n m : Nat) (h : m = min n 16) (ts : Array TypeId) (t : TypeId) (W : World) : (Builtin.min_ ts t #[.int .i64 (n : Int), .int .i64 16]).run Try.prog W = .ok (.int .i64 (m : Int)) W := by
  rw [run_min_int2]
  congr 2
  split <;> omega

end Go.Proofs.Ytmeclfgehpbjlaa
