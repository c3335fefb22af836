/- Items of several texts. -/
import Derived.Deep.Cut
import Derived.Deep.RegionHeld
import Derived.Lib.SlBytesConst
import Derived.Test.YtmeclfgehpbjlaaYLiv
import Derived.Test.YtmeclfgehpbjlaaYTxt
import Derived.Test.YtmeclfgehpbjlaaYKee
import Derived.Test.YtmeclfgehpbjlaaYDot5
import Derived.Test.YtmeclfgehpbjlaaYGSame
namespace Go.Proofs.Ytmeclfgehpbjlaa
open Go.RowKit
def ecs (e : E) : List Value := [.string e.key, .int .i64 (e.f 0), .int .i64 (e.f 1), .int .i64 (e.f 2), .int .i64 (e.f 3), .int .i64 (e.f 4), .int .i64 (e.f 5), .int .i64 (e.f 6), .int .i64 (e.f 7), .slice e.a e.l.length e.cap]
theorem ecs_len (e : E) : (ecs e).length = 10 := rfl
theorem ecs_one (e : E) : ∀ u ∈ ecs e, u.oneCell' = true := by simp [ecs, Value.oneCell']
theorem Try.infoE : (Try.prog.info? 96).map (fun i => (i.zero, i.size, i.bytes)) = some (some (.agg #[.string ⟨#[]⟩, .int .i64 0, .int .i64 0, .int .i64 0, .int .i64 0, .int .i64 0, .int .i64 0, .int .i64 0, .int .i64 0, .slice none 0 0]), 10, 104) := by kernel_rfl
end Go.Proofs.Ytmeclfgehpbjlaa
