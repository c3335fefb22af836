/- Items of several texts. -/
import Derived.Test.YtpnnpdfmoldiiaaRows
import Derived.WalkKit
import Derived.ProofKit
import Derived.Below
import Derived.Laws.NewBlocks
import Derived.Laws.AppendOwnNone
import Derived.Maps.AppendAt
import Derived.Laws.BytesArg
import Derived.Laws.Cover3
namespace Go.Proofs.Ytpnnpdfmoldiiaa
open Go.RowKit
theorem lsA {α : Type _} {l : List α} {i : Nat} {a : α} : l.toArray.setIfInBounds i a = (l.set i a).toArray := List.setIfInBounds_toArray ..
theorem lsZ {α : Type _} {a b : α} {l : List α} : (a :: l).set 0 b = b :: l := rfl
theorem lsS {α : Type _} {a b : α} {l : List α} {n : Nat} : (a :: l).set (n + 1) b = a :: l.set n b := rfl
structure Off (D : Nat → Prop) (w w' : World) : Prop where
  os : w'.os = w.os
  tape : w'.tape = w.tape
  output : w'.output = w.output
  size : w.heap.size ≤ w'.heap.size
  block : ∀ k, k < w.heap.size → ¬ D k → w'.heap[k]? = w.heap[k]?
theorem Off.refl (D : Nat → Prop) (w : World) : Off D w w := ⟨rfl, rfl, rfl, Nat.le_refl _, fun _ _ _ => rfl⟩
theorem Off.trans {D E : Nat → Prop} {a b c : World} (h : Off D a b) (k : Off E b c) (hE : ∀ i, i < a.heap.size → E i → D i) : Off D a c :=
  ⟨k.os.trans h.os, k.tape.trans h.tape, k.output.trans h.output, Nat.le_trans h.size k.size,
   fun i hi hD => (k.block i (Nat.lt_of_lt_of_le hi h.size) (fun e => hD (hE i hi e))).trans (h.block i hi hD)⟩
theorem Off.mono {D E : Nat → Prop} {a b : World} (h : Off D a b) (hE : ∀ i, i < a.heap.size → D i → E i) : Off E a b := ⟨h.os, h.tape, h.output, h.size, fun i hi hD => h.block i hi (fun e => hD (hE i hi e))⟩
theorem Off.drew {D : Nat → Prop} {a w : World} (h : Off D a w) : Off D a w.drew := ⟨h.os, h.tape, h.output, h.size, h.block⟩
theorem Off.alloc {D : Nat → Prop} {a w : World} (h : Off D a w) (o : Obj) : Off D a (w.alloc o) :=
  ⟨h.os, h.tape, h.output, Nat.le_trans h.size (by simp [World.size_alloc]), fun i hi hD => (Below.heap_alloc w o i (Nat.lt_of_lt_of_le hi h.size)).trans (h.block i hi hD)⟩
theorem Off.setCell {D : Nat → Prop} {a w : World} (h : Off D a w) {p : Addr} (hp : D p.block ∨ a.heap.size ≤ p.block) (u : Value) : Off D a (w.setCell p u) :=
  ⟨h.os, h.tape, h.output, by simpa [World.setCell] using h.size, fun i hi hD => (Below.heap_setCell w p u i (fun e => by
    rcases hp with hp | hp
    · exact hD (e ▸ hp)
    · omega)).trans (h.block i hi hD)⟩
theorem Off.below {D : Nat → Prop} {a w : World} (h : Off D a w) {B : Nat} (hB : B ≤ a.heap.size) (hD : ∀ k, D k → B ≤ k) : Below B a w :=
  ⟨h.os, h.tape, h.output, h.size, fun k hk => h.block k (Nat.lt_of_lt_of_le hk hB) (fun e => by have := hD k e; omega)⟩
theorem Off.grown {D : Nat → Prop} {a w w' : World} {row : Option Nat} (h : Off D a w) (hg : w.grownBy w' row) (hr : ∀ k, row = some k → D k ∨ a.heap.size ≤ k) : Off D a w' :=
  ⟨hg.os.trans h.os, hg.tape.trans h.tape, hg.output.trans h.output, Nat.le_trans h.size hg.size, fun i hi hD => (hg.block i (Nat.lt_of_lt_of_le hi h.size) (fun e => by
    rcases hr i e.symm with r | r
    · exact hD r
    · omega)).trans (h.block i hi hD)⟩
structure Cel (b : Nat) (t : TypeId) (cs : Array Value) (w : World) : Prop where
  is : w.heap[b]? = some (.cells cs t (0, 0))
theorem Cel.lt {b : Nat} {t : TypeId} {cs : Array Value} {w : World} (h : Cel b t cs w) : b < w.heap.size := lt_of_block h.is
theorem Cel.cell {b : Nat} {t : TypeId} {cs : Array Value} {w : World} (h : Cel b t cs w) (o : Nat) : w.cell? ⟨b, o, none⟩ = cs[o]? := by
  simp [World.cell?, h.is]
theorem Cel.free {b : Nat} {t : TypeId} {cs : Array Value} {w : World} (h : Cel b t cs w) (o : Nat) : w.frozen? ⟨b, o, none⟩ = false := by
  simp [World.frozen?, h.is]
theorem Cel.set {b : Nat} {t : TypeId} {cs : Array Value} {w : World} (h : Cel b t cs w) (o : Nat) (u : Value) : Cel b t (cs.setIfInBounds o u) (w.setCell ⟨b, o, none⟩ u) :=
  ⟨heap_setCell_same w b o cs t u h.is⟩
theorem Cel.other {b : Nat} {t : TypeId} {cs : Array Value} {w : World} (h : Cel b t cs w) {p : Addr} (hp : b ≠ p.block) (u : Value) : Cel b t cs (w.setCell p u) :=
  ⟨(Below.heap_setCell w p u b hp).trans h.is⟩
theorem Cel.alloc {b : Nat} {t : TypeId} {cs : Array Value} {w : World} (h : Cel b t cs w) (o : Obj) : Cel b t cs (w.alloc o) :=
  ⟨(Below.heap_alloc w o b h.lt).trans h.is⟩
theorem Cel.drew {b : Nat} {t : TypeId} {cs : Array Value} {w : World} (h : Cel b t cs w) : Cel b t cs w.drew := ⟨h.is⟩
theorem Cel.off {D : Nat → Prop} {b : Nat} {t : TypeId} {cs : Array Value} {w w' : World} (h : Cel b t cs w) (k : Off D w w') (hb : ¬ D b) : Cel b t cs w' :=
  ⟨(k.block b h.lt hb).trans h.is⟩
theorem Cel.new (w : World) (t : TypeId) (cs : Array Value) : Cel w.heap.size t cs (w.alloc (.cells cs t)) := ⟨heap_alloc_new w _⟩
theorem cell_lt {w : World} {a : Addr} {v : Value} (h : w.cell? a = some v) : a.block < w.heap.size := by
  rcases Nat.lt_or_ge a.block w.heap.size with h1 | h1
  · exact h1
  · have e : w.heap[a.block]? = none := by simp; omega
    simp [World.cell?, e] at h
def vl (bs : List Nat) : List Value := bs.map fun (b : Nat) => Value.int .u8 (b : Int)
theorem vl_get (bs : List Nat) (i : Nat) (h : i < bs.length) : (vl bs)[i]? = some (.int .u8 ((bs.getD i 0 : Nat) : Int)) := by
  simp [vl, h]
theorem vl_lt {bs : List Nat} {j : Nat} {u : Value} (h : (vl bs)[j]? = some u) : j < bs.length := by
  obtain ⟨h, -⟩ := List.getElem?_eq_some_iff.1 h
  simpa [vl] using h
def blk (t : Option Addr) : Option Nat := t.map (·.block)
theorem blk_own (t : Option Addr) (n c : Nat) : (Value.slice t n c).ownBlock = blk t := by cases t <;> rfl
structure Src (w : World) (tad : Option Addr) (cap : Nat) (bs : List Nat) : Prop where
  is : (tad = none ∧ bs = [] ∧ cap = 0) ∨ ∃ ad, tad = some ad ∧ ∀ j u, (vl bs)[j]? = some u → w.cell? (ad.add j) = some u
theorem add_lit (g o j : Nat) : (⟨g, o, none⟩ : Addr).add j = ⟨g, o + j, none⟩ := by unfold Addr.add; split <;> simp_all
theorem add_block (a : Addr) (j : Nat) : (a.add j).block = a.block := by unfold Addr.add; split <;> simp_all
theorem Src.off {D : Nat → Prop} {w w' : World} {tad : Option Addr} {cap : Nat} {bs : List Nat} (h : Src w tad cap bs) (k : Off D w w') (hD : ∀ c, c < w.heap.size → blk tad = some c → ¬ D c) : Src w' tad cap bs := by
  obtain ⟨h⟩ := h
  rcases h with h | ⟨ad, rfl, h⟩
  · exact ⟨.inl h⟩
  · refine ⟨.inr ⟨ad, rfl, fun j u hj => ?_⟩⟩
    have h1 := h j u hj
    have h2 := cell_lt h1
    rw [← h1]
    exact World.cell?_of_block (k.block _ h2 (hD _ h2 (by rw [add_block]; rfl)))
end Go.Proofs.Ytpnnpdfmoldiiaa
