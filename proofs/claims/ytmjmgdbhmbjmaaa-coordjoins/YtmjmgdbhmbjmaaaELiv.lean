/- Items of several texts. -/
import Derived.Test.YtmjmgdbhmbjmaaaEPut
namespace Go.Proofs.Ytmjmgdbhmbjmaaa
open Go.RowKit
structure OwnG {α : Type} (e : TypeId) (size : Nat) (cs : α → List Value) (w : World) (a : Option Addr) (cap : Nat) (l : List α) : Prop where
 row : w.ownsRow 0 e size (.slice a l.length cap) l.length (l.flatMap cs)
theorem OwnG.off {α : Type} {e : TypeId} {size : Nat} {cs : α → List Value} {D : Nat → Prop} {w w' : World} {a : Option Addr} {cap : Nat} {l : List α} (h : OwnG e size cs w a cap l) (k : Off D w w') (hD : ∀ c, c < w.heap.size → blk a = some c → ¬ D c) : OwnG e size cs w' a cap l := by
 refine ⟨h.row.1, ?_⟩
 rcases h.row.2 with h2 | ⟨g, c, cur, hv, hg, hh, r⟩
 ·exact .inl h2
 ·have hlt := lt_of_block hh
  simp only [Value.slice.injEq] at hv
  obtain ⟨rfl, -, rfl⟩ := hv
  exact .inr ⟨g, _, cur, rfl, hg, (k.block g hlt (hD g hlt rfl)).trans hh, r⟩
theorem OwnG.nil {α : Type} (e : TypeId) (size : Nat) (cs : α → List Value) (w : World) : OwnG e size cs w none 0 [] := ⟨World.ownsRow_nil w 0 _ size⟩
theorem OwnG.lt {α : Type} {e : TypeId} {size : Nat} {cs : α → List Value} {w : World} {a : Option Addr} {cap : Nat} {l : List α} (h : OwnG e size cs w a cap l) : ∀ c, blk a = some c → c < w.heap.size := fun c hc =>
 (World.ownsRow.lt h.row c (by rw [blk_own]; exact hc)).2
end Go.Proofs.Ytmjmgdbhmbjmaaa
