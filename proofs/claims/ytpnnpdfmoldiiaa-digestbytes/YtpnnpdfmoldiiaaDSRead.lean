/- Items of several texts. -/
import Derived.Deep.Cut
import Derived.Laws.OwnMore
import Derived.Test.YtpnnpdfmoldiiaaDPut
import Derived.Test.YtpnnpdfmoldiiaaDThy2
import Derived.Test.YtpnnpdfmoldiiaaDRefA
import Derived.Test.YtpnnpdfmoldiiaaDWVR
namespace Go.Proofs.Ytpnnpdfmoldiiaa
open Go.RowKit
def nodeP (n : Nat) : Int := RowKit.wrap64 (n : Int)
def nodeR (n : Nat) : Int := ((min n 1073741824 : Nat) : Int)
end Go.Proofs.Ytpnnpdfmoldiiaa

namespace Go.Proofs.Ytpnnpdfmoldiiaa
open Go.RowKit
theorem rdV_ok {s : RS} (h : Ok s) : ∀ n, Ok (rdV s n)
 | 0 => h
 | n + 1 => (num_ok (rdV_ok h n)).1
end Go.Proofs.Ytpnnpdfmoldiiaa
