/- Items of several texts. -/
import Derived.Test.YtmjmgdbhmbjmaaaCMem
namespace Go.Proofs.Ytmjmgdbhmbjmaaa
open Go.RowKit
theorem toL (s : ByteArray) : s.toList = s.data.toList := by
 obtain ⟨⟨a⟩⟩ := s
 simp
end Go.Proofs.Ytmjmgdbhmbjmaaa
