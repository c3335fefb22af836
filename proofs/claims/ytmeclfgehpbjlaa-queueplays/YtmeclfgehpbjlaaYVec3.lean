/- Items of several texts. -/
import Derived.Laws.ResultCell
import Derived.Test.YtmeclfgehpbjlaaYVec
namespace Go.Proofs.Ytmeclfgehpbjlaa
open Go.RowKit
theorem Cel.new1 (w : World) (o : Obj) (t : TypeId) (cs : Array Value) : Cel (w.heap.size + 1) t cs ((w.alloc o).alloc (.cells cs t)) := by
 have := Cel.new (w.alloc o) t cs
 simp only [World.size_alloc] at this
 exact this
theorem not_any (x : Bool) (w : World) : (Op.unary .not (.bool x)).run Try.prog w = .ok (.bool (!x)) w := rfl
end Go.Proofs.Ytmeclfgehpbjlaa
