/- The contracts of Len, Get, Reap. -/
import Derived.Test.YtmeclfgehpbjlaaTbJ
import Derived.Deep.Cut
import Derived.Deep.RegionHeld
namespace Go.Proofs.Ytmeclfgehpbjlaa
open Go.RowKit

end Go.Proofs.Ytmeclfgehpbjlaa
