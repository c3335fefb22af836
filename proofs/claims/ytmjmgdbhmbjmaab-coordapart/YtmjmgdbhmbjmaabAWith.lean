/- Items of several texts. -/
import Derived.Test.YtmjmgdbhmbjmaabATake
namespace Go.Proofs.Ytmjmgdbhmbjmaab
open Go.RowKit
theorem Cel.new2 (w : World) (o p : Obj) (t : TypeId) (cs : Array Value) : Cel (w.heap.size + 2) t cs (((w.alloc o).alloc p).alloc (.cells cs t)) := by
 have := Cel.new ((w.alloc o).alloc p) t cs
 simp only [World.size_alloc] at this
 exact this
end Go.Proofs.Ytmjmgdbhmbjmaab
