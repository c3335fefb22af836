/- With. -/
import Derived.Test.YtmeclfgehpbjlaaTake
namespace Go.Proofs.Ytmeclfgehpbjlaa
open Go.RowKit

def withV (f : Nat → Int) (n N : Int) : Nat → Int := if nodeB n = true then upd f n.toNat (max (f n.toNat) N) else f
theorem Cel.new2 (w : World) (o p : Obj) (t : TypeId) (cs : Array Value) : Cel (w.heap.size + 2) t cs (((w.alloc o).alloc p).alloc (.cells cs t)) := by
  have := Cel.new ((w.alloc o).alloc p) t cs
  simp only [World.size_alloc] at this
  exact this
end Go.Proofs.Ytmeclfgehpbjlaa
