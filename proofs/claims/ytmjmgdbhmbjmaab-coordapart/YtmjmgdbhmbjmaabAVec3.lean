/- Items of several texts. -/
import Derived.Laws.ResultCell
import Derived.Test.YtmjmgdbhmbjmaabAVec2
namespace Go.Proofs.Ytmjmgdbhmbjmaab
open Go.RowKit
theorem wrap64 {x : Int} (h0 : -9223372036854775808 ≤ x) (h1 : x ≤ 9223372036854775807) : IntKind.i64.wrap x = x := by
 simp only [IntKind.wrap, IntKind.bits, IntKind.signed]
 go_num
theorem Cel.new1 (w : World) (o : Obj) (t : TypeId) (cs : Array Value) : Cel (w.heap.size + 1) t cs ((w.alloc o).alloc (.cells cs t)) := by
 have := Cel.new (w.alloc o) t cs
 simp only [World.size_alloc] at this
 exact this
theorem not_any (x : Bool) (w : World) : (Op.unary .not (.bool x)).run Try.prog w = .ok (.bool (!x)) w := rfl
end Go.Proofs.Ytmjmgdbhmbjmaab
