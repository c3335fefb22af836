/- Items of several texts. -/
import Derived.Test.YtmbphlkohlggfaaDQt18
import Derived.Test.YtmbphlkohlggfaaDKee
import Derived.Test.YtmbphlkohlggfaaDDg0
namespace Go.Proofs.Ytmbphlkohlggfaa
set_option maxRecDepth 100000
open Go.RowKit
theorem Try.infoMb : (Try.prog.info? 63).map (fun i => (i.zero, i.size, i.bytes)) = some (some (.agg #[.int .i64 0, .int .i64 0]), 2, 16) := by kernel_rfl
end Go.Proofs.Ytmbphlkohlggfaa
