/- The reference: May, Less, Join, Covers. -/
import Derived.Test.YtbagahlphnafdabAwk
namespace Go.Proofs.Ytbagahlphnafdab
open Go.RowKit

end Go.Proofs.Ytbagahlphnafdab
