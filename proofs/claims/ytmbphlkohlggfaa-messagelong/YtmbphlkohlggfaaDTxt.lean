/- Items of several texts. -/
import Derived.Test.YtmbphlkohlggfaaDMem
namespace Go.Proofs.Ytmbphlkohlggfaa
open Go.RowKit
theorem toL (s : ByteArray) : s.toList = s.data.toList := by
 obtain ⟨⟨a⟩⟩ := s
 simp
end Go.Proofs.Ytmbphlkohlggfaa
