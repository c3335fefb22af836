/- Items of several texts. -/
import Derived.Test.YtmeclfgehpbjlaaYMem
namespace Go.Proofs.Ytmeclfgehpbjlaa
open Go.RowKit
theorem toL (s : ByteArray) : s.toList = s.data.toList := by
 obtain ⟨⟨a⟩⟩ := s
 simp
end Go.Proofs.Ytmeclfgehpbjlaa
