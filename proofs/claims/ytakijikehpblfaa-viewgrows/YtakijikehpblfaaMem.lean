/- What a call leaves of the blocks that were there; rows of bytes: handed in, a call's own, a reader's rest. -/
import Derived.Test.YtakijikehpblfaaRows
import Derived.WalkKit
import Derived.ProofKit
import Derived.Below
import Derived.Laws.NewBlocks
import Derived.Laws.AppendOwnNone
import Derived.Maps.AppendAt
import Derived.Laws.BytesArg
import Derived.Laws.Cover3
namespace Go.Proofs.Ytakijikehpblfaa
open Go.RowKit

/-- Behind: new blocks; of the old ones at most those of D have turned. -/
structure Off (D : Nat → Prop) (w w' : World) : Prop where
  os : w'.os = w.os
  tape : w'.tape = w.tape
  output : w'.output = w.output
  size : w.heap.size ≤ w'.heap.size
  block : ∀ k, k < w.heap.size → ¬ D k → w'.heap[k]? = w.heap[k]?

theorem Off.refl (D : Nat → Prop) (w : World) : Off D w w := ⟨rfl, rfl, rfl, Nat.le_refl _, fun _ _ _ => rfl⟩
theorem Off.trans {D E : Nat → Prop} {a b c : World} (h : Off D a b) (k : Off E b c) (hE : ∀ i, i < a.heap.size → E i → D i) : Off D a c :=
  ⟨k.os.trans h.os, k.tape.trans h.tape, k.output.trans h.output, Nat.le_trans h.size k.size,
   fun i hi hD => (k.block i (Nat.lt_of_lt_of_le hi h.size) (fun e => hD (hE i hi e))).trans (h.block i hi hD)⟩
theorem Off.mono {D E : Nat → Prop} {a b : World} (h : Off D a b) (hE : ∀ i, i < a.heap.size → D i → E i) : Off E a b := ⟨h.os, h.tape, h.output, h.size, fun i hi hD => h.block i hi (fun e => hD (hE i hi e))⟩
theorem Off.drew {D : Nat → Prop} {a w : World} (h : Off D a w) : Off D a w.drew := ⟨h.os, h.tape, h.output, h.size, h.block⟩
theorem Off.alloc {D : Nat → Prop} {a w : World} (h : Off D a w) (o : Obj) : Off D a (w.alloc o) :=
  ⟨h.os, h.tape, h.output, Nat.le_trans h.size (by simp [World.size_alloc]), fun i hi hD => (Below.heap_alloc w o i (Nat.lt_of_lt_of_le hi h.size)).trans (h.block i hi hD)⟩
theorem Off.setCell {D : Nat → Prop} {a w : World} (h : Off D a w) {p : Addr} (hp : D p.block ∨ a.heap.size ≤ p.block) (u : Value) : Off D a (w.setCell p u) :=
  ⟨h.os, h.tape, h.output, by simpa [World.setCell] using h.size, fun i hi hD => (Below.heap_setCell w p u i (fun e => by
    rcases hp with hp | hp
    · exact hD (e ▸ hp)
    · omega)).trans (h.block i hi hD)⟩
theorem Off.below {D : Nat → Prop} {a w : World} (h : Off D a w) {B : Nat} (hB : B ≤ a.heap.size) (hD : ∀ k, D k → B ≤ k) : Below B a w :=
  ⟨h.os, h.tape, h.output, h.size, fun k hk => h.block k (Nat.lt_of_lt_of_le hk hB) (fun e => by have := hD k e; omega)⟩
theorem Off.grown {D : Nat → Prop} {a w w' : World} {row : Option Nat} (h : Off D a w) (hg : w.grownBy w' row) (hr : ∀ k, row = some k → D k ∨ a.heap.size ≤ k) : Off D a w' :=
  ⟨hg.os.trans h.os, hg.tape.trans h.tape, hg.output.trans h.output, Nat.le_trans h.size hg.size, fun i hi hD => (hg.block i (Nat.lt_of_lt_of_le hi h.size) (fun e => by
    rcases hr i e.symm with r | r
    · exact hD r
    · omega)).trans (h.block i hi hD)⟩

/-- The cells of a block, none of them frozen. -/
structure Cel (b : Nat) (t : TypeId) (cs : Array Value) (w : World) : Prop where
  is : w.heap[b]? = some (.cells cs t (0, 0))
theorem Cel.lt {b : Nat} {t : TypeId} {cs : Array Value} {w : World} (h : Cel b t cs w) : b < w.heap.size := lt_of_block h.is
theorem Cel.cell {b : Nat} {t : TypeId} {cs : Array Value} {w : World} (h : Cel b t cs w) (o : Nat) : w.cell? ⟨b, o, none⟩ = cs[o]? := by
  simp [World.cell?, h.is]
theorem Cel.free {b : Nat} {t : TypeId} {cs : Array Value} {w : World} (h : Cel b t cs w) (o : Nat) : w.frozen? ⟨b, o, none⟩ = false := by
  simp [World.frozen?, h.is]
theorem Cel.set {b : Nat} {t : TypeId} {cs : Array Value} {w : World} (h : Cel b t cs w) (o : Nat) (u : Value) : Cel b t (cs.setIfInBounds o u) (w.setCell ⟨b, o, none⟩ u) :=
  ⟨heap_setCell_same w b o cs t u h.is⟩
theorem Cel.other {b : Nat} {t : TypeId} {cs : Array Value} {w : World} (h : Cel b t cs w) {p : Addr} (hp : b ≠ p.block) (u : Value) : Cel b t cs (w.setCell p u) :=
  ⟨(Below.heap_setCell w p u b hp).trans h.is⟩
theorem Cel.alloc {b : Nat} {t : TypeId} {cs : Array Value} {w : World} (h : Cel b t cs w) (o : Obj) : Cel b t cs (w.alloc o) :=
  ⟨(Below.heap_alloc w o b h.lt).trans h.is⟩
theorem Cel.drew {b : Nat} {t : TypeId} {cs : Array Value} {w : World} (h : Cel b t cs w) : Cel b t cs w.drew := ⟨h.is⟩
theorem Cel.off {D : Nat → Prop} {b : Nat} {t : TypeId} {cs : Array Value} {w w' : World} (h : Cel b t cs w) (k : Off D w w') (hb : ¬ D b) : Cel b t cs w' :=
  ⟨(k.block b h.lt hb).trans h.is⟩
theorem Cel.new (w : World) (t : TypeId) (cs : Array Value) : Cel w.heap.size t cs (w.alloc (.cells cs t)) := ⟨heap_alloc_new w _⟩

theorem cell_lt {w : World} {a : Addr} {v : Value} (h : w.cell? a = some v) : a.block < w.heap.size := by
  rcases Nat.lt_or_ge a.block w.heap.size with h1 | h1
  · exact h1
  · have e : w.heap[a.block]? = none := by simp; omega
    simp [World.cell?, e] at h

/-- The cells of bytes. -/
def vl (bs : List Nat) : List Value := bs.map fun (b : Nat) => Value.int .u8 (b : Int)
theorem vl_len (bs : List Nat) : (vl bs).length = bs.length := by simp [vl]
theorem vl_append (a b : List Nat) : vl (a ++ b) = vl a ++ vl b := by simp [vl]
theorem vl_one (bs : List Nat) : ∀ u ∈ vl bs, u.oneCell' = true := by
  intro u hu
  simp only [vl, List.mem_map] at hu
  obtain ⟨i, -, rfl⟩ := hu
  rfl
theorem vl_get (bs : List Nat) (i : Nat) (h : i < bs.length) : (vl bs)[i]? = some (.int .u8 ((bs.getD i 0 : Nat) : Int)) := by
  simp [vl, h]
theorem vl_lt {bs : List Nat} {j : Nat} {u : Value} (h : (vl bs)[j]? = some u) : j < bs.length := by
  obtain ⟨h, -⟩ := List.getElem?_eq_some_iff.1 h
  simpa [vl] using h

def blk (t : Option Addr) : Option Nat := t.map (·.block)
theorem blk_own (t : Option Addr) (n c : Nat) : (Value.slice t n c).ownBlock = blk t := by cases t <;> rfl

/-- A slice that reads as these bytes. -/
structure Src (w : World) (tad : Option Addr) (cap : Nat) (bs : List Nat) : Prop where
  is : (tad = none ∧ bs = [] ∧ cap = 0) ∨ ∃ ad, tad = some ad ∧ ∀ j u, (vl bs)[j]? = some u → w.cell? (ad.add j) = some u
/-- A row of the call's own, with these bytes. -/
structure OwnR (w : World) (tad : Option Addr) (cap : Nat) (bs : List Nat) : Prop where
  row : w.ownsRow 0 5 1 (.slice tad bs.length cap) bs.length (vl bs)

theorem Src.nil (w : World) : Src w none 0 [] := ⟨.inl ⟨rfl, rfl, rfl⟩⟩
theorem OwnR.nil (w : World) : OwnR w none 0 [] := ⟨World.ownsRow_nil w 0 _ 1⟩
theorem add_lit (g o j : Nat) : (⟨g, o, none⟩ : Addr).add j = ⟨g, o + j, none⟩ := by unfold Addr.add; split <;> simp_all
theorem add_block (a : Addr) (j : Nat) : (a.add j).block = a.block := by unfold Addr.add; split <;> simp_all
theorem Src.off {D : Nat → Prop} {w w' : World} {tad : Option Addr} {cap : Nat} {bs : List Nat} (h : Src w tad cap bs) (k : Off D w w') (hD : ∀ c, c < w.heap.size → blk tad = some c → ¬ D c) : Src w' tad cap bs := by
  obtain ⟨h⟩ := h
  rcases h with h | ⟨ad, rfl, h⟩
  · exact ⟨.inl h⟩
  · refine ⟨.inr ⟨ad, rfl, fun j u hj => ?_⟩⟩
    have h1 := h j u hj
    have h2 := cell_lt h1
    rw [← h1]
    exact World.cell?_of_block (k.block _ h2 (hD _ h2 (by rw [add_block]; rfl)))
theorem OwnR.off {D : Nat → Prop} {w w' : World} {tad : Option Addr} {cap : Nat} {bs : List Nat} (h : OwnR w tad cap bs) (k : Off D w w') (hD : ∀ c, c < w.heap.size → blk tad = some c → ¬ D c) : OwnR w' tad cap bs := by
  refine ⟨h.row.1, ?_⟩
  rcases h.row.2 with h2 | ⟨g, c, cur, hv, hg, hh, r⟩
  · exact .inl h2
  · have hlt := lt_of_block hh
    simp only [Value.slice.injEq] at hv
    obtain ⟨rfl, -, rfl⟩ := hv
    exact .inr ⟨g, _, cur, rfl, hg, (k.block g hlt (hD g hlt rfl)).trans hh, r⟩
theorem OwnR.lt {w : World} {tad : Option Addr} {cap : Nat} {bs : List Nat} (h : OwnR w tad cap bs) : ∀ c, blk tad = some c → c < w.heap.size := fun c hc =>
  (World.ownsRow.lt h.row c (by rw [blk_own]; exact hc)).2
theorem OwnR.src {w : World} {tad : Option Addr} {cap : Nat} {bs : List Nat} (h : OwnR w tad cap bs) : Src w tad cap bs := by
  rcases h.row.2 with ⟨hv, h0⟩ | ⟨g, c, cur, hv, -⟩
  · simp only [Value.slice.injEq] at hv
    exact ⟨.inl ⟨hv.1, List.eq_nil_of_length_eq_zero h0, hv.2.2⟩⟩
  · simp only [Value.slice.injEq] at hv
    obtain ⟨rfl, -, rfl⟩ := hv
    exact ⟨.inr ⟨_, rfl, World.ownsRow.cells h.row (g := g) rfl⟩⟩
theorem OwnR.shape {w : World} {tad : Option Addr} {cap : Nat} {bs : List Nat} (h : OwnR w tad cap bs) : (tad = none ∧ bs = [] ∧ cap = 0) ∨ ∃ g, tad = some ⟨g, 0, none⟩ ∧ g < w.heap.size ∧ bs.length ≤ cap ∧ ∀ j u, (vl bs)[j]? = some u → w.cell? ⟨g, j, none⟩ = some u := by
  rcases h.row.2 with ⟨hv, h0⟩ | ⟨g, c, cur, hv, hb, hh, hc, -⟩
  · simp only [Value.slice.injEq] at hv
    exact .inl ⟨hv.1, List.eq_nil_of_length_eq_zero h0, hv.2.2⟩
  · simp only [Value.slice.injEq] at hv
    obtain ⟨rfl, -, rfl⟩ := hv
    refine .inr ⟨g, rfl, lt_of_block hh, hc, fun j u hj => ?_⟩
    have := World.ownsRow.cells h.row (g := g) rfl j u hj
    rw [add_lit] at this
    simpa using this

theorem Try.infoB : (Try.prog.info? 5).map (fun i => (i.zero, i.size, i.bytes)) = some (some (.int .u8 0), 1, 1) := by kernel_rfl

theorem src_new (w : World) (x : Nat) : Src (w.alloc (.cells #[.int .u8 (x : Int)] 5)) (some ⟨w.heap.size, 0, none⟩) 1 [x] := by
  refine ⟨.inr ⟨_, rfl, fun j u hj => ?_⟩⟩
  match j, hj with
  | 0, hj => simp [vl] at hj; subst hj; simp [Addr.add]

/-- What is left of a reader's row. -/
structure Lie (D : Nat → Prop) (w : World) (tad : Option Addr) (cap : Nat) (bs : List Nat) : Prop where
  is : (tad = none ∧ bs = [] ∧ cap = 0) ∨ ∃ g off, tad = some ⟨g, off, none⟩ ∧ D g ∧ bs.length ≤ cap ∧ ∀ j u, (vl bs)[j]? = some u → w.cell? ⟨g, off + j, none⟩ = some u
theorem Lie.nil (D : Nat → Prop) (w : World) : Lie D w none 0 [] := ⟨.inl ⟨rfl, rfl, rfl⟩⟩
theorem Lie.cap {D : Nat → Prop} {w : World} {tad : Option Addr} {cap : Nat} {bs : List Nat} (h : Lie D w tad cap bs) : bs.length ≤ cap := by
  rcases h.is with ⟨-, rfl, rfl⟩ | ⟨_, _, -, -, h, -⟩
  · simp
  · exact h
theorem Lie.off {D E : Nat → Prop} {w w' : World} {tad : Option Addr} {cap : Nat} {bs : List Nat} (h : Lie D w tad cap bs) (k : Off E w w') (hD : ∀ c, c < w.heap.size → D c → ¬ E c) : Lie D w' tad cap bs := by
  rcases h.is with h | ⟨g, off, rfl, hg, hc, h⟩
  · exact ⟨.inl h⟩
  · refine ⟨.inr ⟨g, off, rfl, hg, hc, fun j u hj => ?_⟩⟩
    have h1 := h j u hj
    have h2 := cell_lt h1
    rw [← h1]
    exact World.cell?_of_block (k.block _ h2 (hD _ h2 hg))
theorem Lie.src {D : Nat → Prop} {w : World} {tad : Option Addr} {cap : Nat} {bs : List Nat} (h : Lie D w tad cap bs) : Src w tad cap bs := by
  rcases h.is with h | ⟨g, off, rfl, hg, hc, h⟩
  · exact ⟨.inl h⟩
  · exact ⟨.inr ⟨_, rfl, fun j u hj => by rw [add_lit]; exact h j u hj⟩⟩
theorem OwnR.lie {D : Nat → Prop} {w : World} {tad : Option Addr} {cap : Nat} {bs : List Nat} (h : OwnR w tad cap bs) (hD : ∀ c, blk tad = some c → D c) : Lie D w tad cap bs := by
  rcases h.shape with h | ⟨g, rfl, hg, hc, h⟩
  · exact ⟨.inl h⟩
  · exact ⟨.inr ⟨g, 0, rfl, hD g rfl, hc, fun j u hj => by have := h j u hj; simpa using this⟩⟩
/-- The string of bytes. -/
def strOf (bs : List Nat) : ByteArray := strOfNums (bs.map fun (b : Nat) => (b : Int))
end Go.Proofs.Ytakijikehpblfaa
