/- The reference's insert. -/
import Derived.Test.YtfkpnmmcdhibbabInsP
import Derived.Test.YtfkpnmmcdhibbabRefA
import Derived.Deep.Cut
namespace Go.Proofs.Ytfkpnmmcdhibbab
open Go.RowKit

end Go.Proofs.Ytfkpnmmcdhibbab
