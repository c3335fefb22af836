/- Items of several texts. -/
import Derived.Deep.Cut
import Derived.Deep.RegionHeld
import Derived.Test.YtpnnpdfmoldiiaaBLiv
import Derived.Test.YtpnnpdfmoldiiaaBTxt
import Derived.Test.YtpnnpdfmoldiiaaBTbJ
namespace Go.Proofs.Ytpnnpdfmoldiiaa
open Go.RowKit
def ecs (e : E) : List Value := [.string e.key, .int .i64 (e.f 0), .int .i64 (e.f 1), .int .i64 (e.f 2), .int .i64 (e.f 3), .int .i64 (e.f 4), .int .i64 (e.f 5), .int .i64 (e.f 6), .int .i64 (e.f 7), .slice e.a e.l.length e.cap]
end Go.Proofs.Ytpnnpdfmoldiiaa
