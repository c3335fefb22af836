/- Items of several texts. -/
import Derived.Test.YtmbphlkohlggfabAMem
namespace Go.Proofs.Ytmbphlkohlggfab
open Go.RowKit
theorem toL (s : ByteArray) : s.toList = s.data.toList := by
 obtain ⟨⟨a⟩⟩ := s
 simp
end Go.Proofs.Ytmbphlkohlggfab
