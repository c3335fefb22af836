/- The reference's Live. -/
import Derived.Test.YtfhacfedklaaiaaLiv
import Derived.Test.YtfhacfedklaaiaaGMay
import Derived.Deep.Cut
namespace Go.Proofs.Ytfhacfedklaaiaa
open Go.RowKit

end Go.Proofs.Ytfhacfedklaaiaa
