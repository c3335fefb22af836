/- Items of several texts. -/
import Derived.Test.YtpnnpdfmoldiiaaQMem
namespace Go.Proofs.Ytpnnpdfmoldiiaa
open Go.RowKit
theorem toL (s : ByteArray) : s.toList = s.data.toList := by
 obtain ⟨⟨a⟩⟩ := s
 simp
end Go.Proofs.Ytpnnpdfmoldiiaa
