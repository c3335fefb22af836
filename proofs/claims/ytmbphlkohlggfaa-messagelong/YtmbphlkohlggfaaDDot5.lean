/- Items of several texts. -/
import Derived.Lib.SlBytesConst
import Derived.Test.YtmbphlkohlggfaaDLiv
import Derived.Test.YtmbphlkohlggfaaDGMay
namespace Go.Proofs.Ytmbphlkohlggfaa
open Go.RowKit
def dcs (d : Int × Int) : List Value := [.int .i64 d.1, .int .i64 d.2]
theorem dcs_len (d : Int × Int) : (dcs d).length = 2 := rfl
theorem dcs_one (d : Int × Int) : ∀ u ∈ dcs d, u.oneCell' = true := by simp [dcs, Value.oneCell']
theorem Try.infoDt : (Try.prog.info? 42).map (fun i => (i.zero, i.size, i.bytes)) = some (some (.agg #[.int .i64 0, .int .i64 0]), 2, 16) := by kernel_rfl
end Go.Proofs.Ytmbphlkohlggfaa
