/- Items of several texts. -/
import Derived.Deep.Cut
import Derived.Laws.OwnMore
import Derived.Lib.SlBytesConst
import Derived.Test.YtpnnpdfmoldiiaaCPut
import Derived.Test.YtpnnpdfmoldiiaaCLiv
import Derived.Test.YtpnnpdfmoldiiaaCWVR
namespace Go.Proofs.Ytpnnpdfmoldiiaa
open Go.RowKit
def nodeP (n : Nat) : Int := RowKit.wrap64 (n : Int)
end Go.Proofs.Ytpnnpdfmoldiiaa

namespace Go.Proofs.Ytpnnpdfmoldiiaa
open Go.RowKit
theorem rdV_ok {s : RS} (h : Ok s) : ∀ n, Ok (rdV s n)
 | 0 => h
 | n + 1 => (num_ok (rdV_ok h n)).1
end Go.Proofs.Ytpnnpdfmoldiiaa
