/- Items of several texts. -/
import Derived.Deep.Cut
import Derived.Lib.SlBytesConst
import Derived.Test.YtpnnpdfmoldiiaaCLiv
import Derived.Test.YtpnnpdfmoldiiaaCDot5
import Derived.Test.YtpnnpdfmoldiiaaCGSame
namespace Go.Proofs.Ytpnnpdfmoldiiaa
open Go.RowKit
def keyB (s : ByteArray) : Bool := decide (1 ≤ s.size) && decide (s.size ≤ 32)
end Go.Proofs.Ytpnnpdfmoldiiaa
