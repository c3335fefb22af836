/- The contract of table's Join. -/
import Derived.Test.YtmeclfgehpbjlaaTop
namespace Go.Proofs.Ytmeclfgehpbjlaa
open Go.RowKit

end Go.Proofs.Ytmeclfgehpbjlaa
