/- The contract of sibs.merge. -/
import Derived.Test.YtmeclfgehpbjlabThy0
namespace Go.Proofs.Ytmeclfgehpbjlab
open Go.RowKit

end Go.Proofs.Ytmeclfgehpbjlab
