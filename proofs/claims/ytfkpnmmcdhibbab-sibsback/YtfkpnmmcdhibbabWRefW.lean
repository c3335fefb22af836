/- A writer of the reference. -/
import Derived.Test.YtfkpnmmcdhibbabWFlag
namespace Go.Proofs.Ytfkpnmmcdhibbab
open Go.RowKit

end Go.Proofs.Ytfkpnmmcdhibbab
