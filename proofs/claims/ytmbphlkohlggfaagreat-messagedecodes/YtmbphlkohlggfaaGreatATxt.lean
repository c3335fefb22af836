/- Items of several texts. -/
import Derived.Test.YtmbphlkohlggfaaGreatAMem
namespace Go.Proofs.YtmbphlkohlggfaaGreat
open Go.RowKit
theorem toL (s : ByteArray) : s.toList = s.data.toList := by
 obtain ⟨⟨a⟩⟩ := s
 simp
end Go.Proofs.YtmbphlkohlggfaaGreat
