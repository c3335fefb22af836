/- What Compact of a log does; a log that there isn't. -/
import Derived.Test.YtmdhcoplhibbeabWal2
import Derived.Test.YtmdhcoplhibbeabRws8
namespace Go.Proofs.Ytmdhcoplhibbeab
open Go.RowKit

end Go.Proofs.Ytmdhcoplhibbeab
