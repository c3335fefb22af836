/- Items of several texts. -/
import Derived.Deep.Cut
import Derived.Deep.RegionHeld
import Derived.Lib.SlBytesConst
import Derived.Test.YtpnnpdfmoldiiaaDLiv
import Derived.Test.YtpnnpdfmoldiiaaDTxt
import Derived.Test.YtpnnpdfmoldiiaaDTbJ
namespace Go.Proofs.Ytpnnpdfmoldiiaa
open Go.RowKit
def aw8 (a b : Int) : Nat → Int
 | 0 => a
 | 1 => b
 | _ => 0
end Go.Proofs.Ytpnnpdfmoldiiaa
