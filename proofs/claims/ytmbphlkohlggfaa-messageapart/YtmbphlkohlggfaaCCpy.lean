/- Items of several texts. -/
import Derived.Lib.Bytealg
import Derived.Lib.BytesEntry
import Derived.Laws.Externs
import Derived.Test.YtmbphlkohlggfaaCMay
namespace Go.Proofs.Ytmbphlkohlggfaa
open Go.RowKit
def zeroV : V := ⟨0, 0, none, 0, [], false⟩
end Go.Proofs.Ytmbphlkohlggfaa
