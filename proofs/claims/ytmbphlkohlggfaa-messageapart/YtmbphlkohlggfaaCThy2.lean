/- Items of several texts. -/
import Derived.Lib.SlBytesConst
import Derived.Deep.Cut
import Derived.Deep.RegionWith
import Derived.Test.YtmbphlkohlggfaaCCpy
namespace Go.Proofs.Ytmbphlkohlggfaa
theorem cov_iff {f : Nat → Int} {n N : Int} : coversB f n N = true ↔ 0 ≤ n ∧ n < 8 ∧ 1 ≤ N ∧ N ≤ f n.toNat := by simp [coversB]
end Go.Proofs.Ytmbphlkohlggfaa
