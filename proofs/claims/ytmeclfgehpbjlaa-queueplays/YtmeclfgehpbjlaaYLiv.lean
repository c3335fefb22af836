/- Items of several texts. -/
import Derived.Deep.Cut
import Derived.Test.YtmeclfgehpbjlaaYOwn
namespace Go.Proofs.Ytmeclfgehpbjlaa
open Go.RowKit
structure OwnG {α : Type} (e : TypeId) (size : Nat) (cs : α → List Value) (w : World) (a : Option Addr) (cap : Nat) (l : List α) : Prop where
 row : w.ownsRow 0 e size (.slice a l.length cap) l.length (l.flatMap cs)
theorem OwnG.off {α : Type} {e : TypeId} {size : Nat} {cs : α → List Value} {D : Nat → Prop} {w w' : World} {a : Option Addr} {cap : Nat} {l : List α} (h : OwnG e size cs w a cap l) (k : Off D w w') (hD : ∀ c, c < w.heap.size → blk a = some c → ¬ D c) : OwnG e size cs w' a cap l := by
 refine ⟨h.row.1, ?_⟩
 rcases h.row.2 with h2 | ⟨g, c, cur, hv, hg, hh, r⟩
 ·exact .inl h2
 ·have hlt := lt_of_block hh
  simp only [Value.slice.injEq] at hv
  obtain ⟨rfl, -, rfl⟩ := hv
  exact .inr ⟨g, _, cur, rfl, hg, (k.block g hlt (hD g hlt rfl)).trans hh, r⟩
theorem OwnG.nil {α : Type} (e : TypeId) (size : Nat) (cs : α → List Value) (w : World) : OwnG e size cs w none 0 [] := ⟨World.ownsRow_nil w 0 _ size⟩
theorem OwnG.lt {α : Type} {e : TypeId} {size : Nat} {cs : α → List Value} {w : World} {a : Option Addr} {cap : Nat} {l : List α} (h : OwnG e size cs w a cap l) : ∀ c, blk a = some c → c < w.heap.size := fun c hc =>
 (World.ownsRow.lt h.row c (by rw [blk_own]; exact hc)).2
theorem flat_get {α : Type} {cs : α → List Value} {size : Nat} (hcs : ∀ x, (cs x).length = size) {l : List α} {i j : Nat} {x : α} {u : Value} (h : l[i]? = some x) (hu : (cs x)[j]? = some u) : (l.flatMap cs)[i * size + j]? = some u := by
 have hj : j < size := by
  obtain ⟨h, -⟩ := List.getElem?_eq_some_iff.1 hu
  rwa [hcs] at h
 induction l generalizing i with
 | nil => simp at h
 | cons y l ih =>
  cases i with
  | zero =>
   simp at h
   subst h
   simp only [Nat.zero_mul, Nat.zero_add, List.flatMap_cons]
   rw [List.getElem?_append_left (by rw [hcs]; exact hj)]
   exact hu
  | succ i =>
   have := ih (i := i) (by simpa using h)
   rw [List.flatMap_cons, List.getElem?_append_right (by rw [hcs, Nat.succ_mul]; omega), hcs]
   rw [show (i + 1) * size + j - size = i * size + j by rw [Nat.succ_mul]; omega]
   exact this
theorem OwnG.at_ {α : Type} {e : TypeId} {size : Nat} {cs : α → List Value} {w : World} {a : Option Addr} {cap : Nat} {l : List α} (h : OwnG e size cs w a cap l) (hcs : ∀ x, (cs x).length = size) {i : Nat} {x : α} (hi : l[i]? = some x) : ∃ g, a = some ⟨g, 0, none⟩ ∧ ∀ j u, (cs x)[j]? = some u → w.cell? ⟨g, i * size + j, none⟩ = some u := by
 rcases h.row.2 with ⟨hv, h0⟩ | ⟨g, c, cur, hv, hb, hh, hc, hm, -⟩
 ·obtain rfl : l = [] := List.eq_nil_of_length_eq_zero h0
  simp at hi
 ·simp only [Value.slice.injEq] at hv
  obtain ⟨rfl, -, rfl⟩ := hv
  refine ⟨g, rfl, fun j u hu => ?_⟩
  have := World.ownsRow.cells h.row (g := g) rfl _ _ (flat_get hcs hi hu)
  rw [add_lit, Nat.zero_add] at this
  exact this
end Go.Proofs.Ytmeclfgehpbjlaa
