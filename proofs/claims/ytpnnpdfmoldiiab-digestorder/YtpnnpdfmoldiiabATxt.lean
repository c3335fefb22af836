/- Items of several texts. -/
import Derived.Test.YtpnnpdfmoldiiabAMem
namespace Go.Proofs.Ytpnnpdfmoldiiab
open Go.RowKit
theorem toL (s : ByteArray) : s.toList = s.data.toList := by
 obtain ⟨⟨a⟩⟩ := s
 simp
end Go.Proofs.Ytpnnpdfmoldiiab
