/- Items of several texts. -/
import Derived.Test.YtmeclfgehpbjlaaZMem
namespace Go.Proofs.Ytmeclfgehpbjlaa
open Go.RowKit
theorem toL (s : ByteArray) : s.toList = s.data.toList := by
 obtain ⟨⟨a⟩⟩ := s
 simp
end Go.Proofs.Ytmeclfgehpbjlaa
