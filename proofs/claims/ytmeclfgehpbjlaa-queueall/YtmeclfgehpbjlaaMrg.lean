/- The contract of sibs.merge. -/
import Derived.Test.YtmeclfgehpbjlaaThy0
namespace Go.Proofs.Ytmeclfgehpbjlaa
open Go.RowKit

end Go.Proofs.Ytmeclfgehpbjlaa
