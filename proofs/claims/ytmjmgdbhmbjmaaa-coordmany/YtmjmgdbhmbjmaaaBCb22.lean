/- Items of several texts. -/
import Derived.Test.YtmjmgdbhmbjmaaaBCl22
namespace Go.Proofs.Ytmjmgdbhmbjmaaa
set_option maxRecDepth 100000
open Go.RowKit
def vInt : Value → Int
 | .int _ q => q
 | _ => 0
end Go.Proofs.Ytmjmgdbhmbjmaaa
