/- What a call leaves of the blocks that were there; the cells of a block. -/
import Derived.Test.YtapopmcdnpplbaaRows
import Derived.WalkKit
import Derived.ProofKit
import Derived.Below
import Derived.Laws.NewBlocks
import Derived.Laws.LoneSync
import Derived.Deep.RegionHeld
import Derived.BigRegion
import Derived.BigQuiet
import Derived.Deep.Cut
import Derived.Deep.CutBlock
namespace Go.Proofs.Ytapopmcdnpplbaa
open Go.RowKit

/-- Behind: new blocks; of the old ones at most those of D have turned. -/
structure Off (D : Nat → Prop) (w w' : World) : Prop where
  os : w'.os = w.os
  tape : w'.tape = w.tape
  output : w'.output = w.output
  size : w.heap.size ≤ w'.heap.size
  block : ∀ k, k < w.heap.size → ¬ D k → w'.heap[k]? = w.heap[k]?

theorem Off.refl (D : Nat → Prop) (w : World) : Off D w w := ⟨rfl, rfl, rfl, Nat.le_refl _, fun _ _ _ => rfl⟩
theorem Off.trans {D E : Nat → Prop} {a b c : World} (h : Off D a b) (k : Off E b c) (hE : ∀ i, i < a.heap.size → E i → D i) : Off D a c :=
  ⟨k.os.trans h.os, k.tape.trans h.tape, k.output.trans h.output, Nat.le_trans h.size k.size,
   fun i hi hD => (k.block i (Nat.lt_of_lt_of_le hi h.size) (fun e => hD (hE i hi e))).trans (h.block i hi hD)⟩
theorem Off.mono {D E : Nat → Prop} {a b : World} (h : Off D a b) (hE : ∀ i, i < a.heap.size → D i → E i) : Off E a b := ⟨h.os, h.tape, h.output, h.size, fun i hi hD => h.block i hi (fun e => hD (hE i hi e))⟩
theorem Off.drew {D : Nat → Prop} {a w : World} (h : Off D a w) : Off D a w.drew := ⟨h.os, h.tape, h.output, h.size, h.block⟩
theorem Off.alloc {D : Nat → Prop} {a w : World} (h : Off D a w) (o : Obj) : Off D a (w.alloc o) :=
  ⟨h.os, h.tape, h.output, Nat.le_trans h.size (by simp [World.size_alloc]), fun i hi hD => (Below.heap_alloc w o i (Nat.lt_of_lt_of_le hi h.size)).trans (h.block i hi hD)⟩
theorem Off.setCell {D : Nat → Prop} {a w : World} (h : Off D a w) {p : Addr} (hp : D p.block ∨ a.heap.size ≤ p.block) (u : Value) : Off D a (w.setCell p u) :=
  ⟨h.os, h.tape, h.output, by simpa [World.setCell] using h.size, fun i hi hD => (Below.heap_setCell w p u i (fun e => by
    rcases hp with hp | hp
    · exact hD (e ▸ hp)
    · omega)).trans (h.block i hi hD)⟩
theorem Off.below {D : Nat → Prop} {a w : World} (h : Off D a w) {B : Nat} (hB : B ≤ a.heap.size) (hD : ∀ k, D k → B ≤ k) : Below B a w :=
  ⟨h.os, h.tape, h.output, h.size, fun k hk => h.block k (Nat.lt_of_lt_of_le hk hB) (fun e => by have := hD k e; omega)⟩
theorem Off.grown {D : Nat → Prop} {a w w' : World} {row : Option Nat} (h : Off D a w) (hg : w.grownBy w' row) (hr : ∀ k, row = some k → D k ∨ a.heap.size ≤ k) : Off D a w' :=
  ⟨hg.os.trans h.os, hg.tape.trans h.tape, hg.output.trans h.output, Nat.le_trans h.size hg.size, fun i hi hD => (hg.block i (Nat.lt_of_lt_of_le hi h.size) (fun e => by
    rcases hr i e.symm with r | r
    · exact hD r
    · omega)).trans (h.block i hi hD)⟩

/-- The cells of a block, none of them frozen. -/
structure Cel (b : Nat) (t : TypeId) (cs : Array Value) (w : World) : Prop where
  is : w.heap[b]? = some (.cells cs t (0, 0))
theorem Cel.lt {b : Nat} {t : TypeId} {cs : Array Value} {w : World} (h : Cel b t cs w) : b < w.heap.size := lt_of_block h.is
theorem Cel.cell {b : Nat} {t : TypeId} {cs : Array Value} {w : World} (h : Cel b t cs w) (o : Nat) : w.cell? ⟨b, o, none⟩ = cs[o]? := by
  simp [World.cell?, h.is]
theorem Cel.free {b : Nat} {t : TypeId} {cs : Array Value} {w : World} (h : Cel b t cs w) (o : Nat) : w.frozen? ⟨b, o, none⟩ = false := by
  simp [World.frozen?, h.is]
theorem Cel.set {b : Nat} {t : TypeId} {cs : Array Value} {w : World} (h : Cel b t cs w) (o : Nat) (u : Value) : Cel b t (cs.setIfInBounds o u) (w.setCell ⟨b, o, none⟩ u) :=
  ⟨heap_setCell_same w b o cs t u h.is⟩
theorem Cel.other {b : Nat} {t : TypeId} {cs : Array Value} {w : World} (h : Cel b t cs w) {p : Addr} (hp : b ≠ p.block) (u : Value) : Cel b t cs (w.setCell p u) :=
  ⟨(Below.heap_setCell w p u b hp).trans h.is⟩
theorem Cel.alloc {b : Nat} {t : TypeId} {cs : Array Value} {w : World} (h : Cel b t cs w) (o : Obj) : Cel b t cs (w.alloc o) :=
  ⟨(Below.heap_alloc w o b h.lt).trans h.is⟩
theorem Cel.drew {b : Nat} {t : TypeId} {cs : Array Value} {w : World} (h : Cel b t cs w) : Cel b t cs w.drew := ⟨h.is⟩
theorem Cel.off {D : Nat → Prop} {b : Nat} {t : TypeId} {cs : Array Value} {w w' : World} (h : Cel b t cs w) (k : Off D w w') (hb : ¬ D b) : Cel b t cs w' :=
  ⟨(k.block b h.lt hb).trans h.is⟩
theorem Cel.new (w : World) (t : TypeId) (cs : Array Value) : Cel w.heap.size t cs (w.alloc (.cells cs t)) := ⟨heap_alloc_new w _⟩

theorem cell_lt {w : World} {a : Addr} {v : Value} (h : w.cell? a = some v) : a.block < w.heap.size := by
  rcases Nat.lt_or_ge a.block w.heap.size with h1 | h1
  · exact h1
  · have e : w.heap[a.block]? = none := by simp; omega
    simp [World.cell?, e] at h

def blk (t : Option Addr) : Option Nat := t.map (·.block)
theorem Off.keep {D : Nat → Prop} {w w' : World} (h : Off D w w') {b o : Nat} {v : Value} (hc : w.cell? ⟨b, o, none⟩ = some v) (hD : ¬ D b) : w'.cell? ⟨b, o, none⟩ = some v := by
  rw [← hc]
  exact World.cell?_of_block (a := ⟨b, o, none⟩) (h.block b (cell_lt hc) hD)
theorem max_int (a b : Int) : ∀ ts t W, (Builtin.max_ ts t #[.int .i64 a, .int .i64 b]).run Try.prog W = .ok (.int .i64 (max a b)) W := by
  intro ts t W
  go_simp
  split <;> omega
theorem min_int (a b : Int) : ∀ ts t W, (Builtin.min_ ts t #[.int .i64 a, .int .i64 b]).run Try.prog W = .ok (.int .i64 (min a b)) W := by
  intro ts t W
  go_simp
  split <;> omega
theorem take_at {P : Program} {md : Region.Mode} {ops : Array Oper} {Q : Exit → Act → World → Prop} {S : World → Prop} {i : Nat} {oi : Oper} (d : Nat) {v : Value} {fuel : Nat} {listed : Array Bool} {a : Act} {w : World} (hi : ops[i]? = some oi) (hd : oi.dst = some d)
    (hs : Region.noSelect ops = true) (hf : Region.free md ops listed i = true) (hr : (Region.ready md ops listed).contains i = true)
    (hQ : ∀ c a w, Q (.panic c) (a.put oi.dst v) w → Q (.panic c) a w) (hy : YieldsIf P ops S oi v a) (hS : S w)
    (h : wpAnyH P md ops Q S fuel (listed.setIfInBounds i true) (a.put (some d) v) w) : wpAnyH P md ops Q S (fuel + 1) listed a w :=
  wpAnyH_take hi hs hf hr hQ hy hS (by rw [hd]; exact h)

theorem Cel.new1 (w : World) (o : Obj) (t : TypeId) (cs : Array Value) : Cel (w.heap.size + 1) t cs ((w.alloc o).alloc (.cells cs t)) := by
  have := Cel.new (w.alloc o) t cs
  rwa [World.size_alloc] at this
end Go.Proofs.Ytapopmcdnpplbaa
