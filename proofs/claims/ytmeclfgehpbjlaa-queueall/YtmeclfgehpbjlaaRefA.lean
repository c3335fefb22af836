/- The reference: May, Less, Join, Covers. -/
import Derived.Test.YtmeclfgehpbjlaaAwk
namespace Go.Proofs.Ytmeclfgehpbjlaa
open Go.RowKit

end Go.Proofs.Ytmeclfgehpbjlaa
