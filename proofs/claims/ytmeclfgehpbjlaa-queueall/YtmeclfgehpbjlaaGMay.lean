/- The reference: May of Sibs. -/
import Derived.Test.YtmeclfgehpbjlaaRefA
namespace Go.Proofs.Ytmeclfgehpbjlaa
open Go.RowKit

theorem ok_big {n : Nat} {d : Bool} (h : 200 < n) : okData n d = false := by
  cases d
  · simp [okData]; omega
  · simp [okData]; omega
theorem ok_dead {n : Nat} (h : ¬ n = 0) : okData n true = false := by simp [okData, h]
theorem ok_zero {n : Nat} (h : n = 0) : okData n true = true := by simp [okData, h]
theorem ok_small {n : Nat} (h : n ≤ 200) : okData n false = true := by simp [okData, h]
end Go.Proofs.Ytmeclfgehpbjlaa
