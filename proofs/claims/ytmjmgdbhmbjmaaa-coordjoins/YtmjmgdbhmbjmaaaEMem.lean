/- Items of several texts. -/
import Derived.Test.YtmjmgdbhmbjmaaaRows
import Derived.WalkKit
import Derived.ProofKit
import Derived.Below
import Derived.Laws.NewBlocks
import Derived.Laws.AppendOwnNone
import Derived.Maps.AppendAt
import Derived.Laws.BytesArg
import Derived.Laws.Cover3
namespace Go.Proofs.Ytmjmgdbhmbjmaaa
open Go.RowKit
theorem lsA {α : Type _} {l : List α} {i : Nat} {a : α} : l.toArray.setIfInBounds i a = (l.set i a).toArray := List.setIfInBounds_toArray ..
theorem lsZ {α : Type _} {a b : α} {l : List α} : (a :: l).set 0 b = b :: l := rfl
theorem lsS {α : Type _} {a b : α} {l : List α} {n : Nat} : (a :: l).set (n + 1) b = a :: l.set n b := rfl
structure Off (D : Nat → Prop) (w w' : World) : Prop where
  os : w'.os = w.os
  tape : w'.tape = w.tape
  output : w'.output = w.output
  size : w.heap.size ≤ w'.heap.size
  block : ∀ k, k < w.heap.size → ¬ D k → w'.heap[k]? = w.heap[k]?
theorem Off.refl (D : Nat → Prop) (w : World) : Off D w w := ⟨rfl, rfl, rfl, Nat.le_refl _, fun _ _ _ => rfl⟩
theorem Off.trans {D E : Nat → Prop} {a b c : World} (h : Off D a b) (k : Off E b c) (hE : ∀ i, i < a.heap.size → E i → D i) : Off D a c :=
  ⟨k.os.trans h.os, k.tape.trans h.tape, k.output.trans h.output, Nat.le_trans h.size k.size,
   fun i hi hD => (k.block i (Nat.lt_of_lt_of_le hi h.size) (fun e => hD (hE i hi e))).trans (h.block i hi hD)⟩
theorem Off.mono {D E : Nat → Prop} {a b : World} (h : Off D a b) (hE : ∀ i, i < a.heap.size → D i → E i) : Off E a b := ⟨h.os, h.tape, h.output, h.size, fun i hi hD => h.block i hi (fun e => hD (hE i hi e))⟩
theorem Off.drew {D : Nat → Prop} {a w : World} (h : Off D a w) : Off D a w.drew := ⟨h.os, h.tape, h.output, h.size, h.block⟩
theorem Off.alloc {D : Nat → Prop} {a w : World} (h : Off D a w) (o : Obj) : Off D a (w.alloc o) :=
  ⟨h.os, h.tape, h.output, Nat.le_trans h.size (by simp [World.size_alloc]), fun i hi hD => (Below.heap_alloc w o i (Nat.lt_of_lt_of_le hi h.size)).trans (h.block i hi hD)⟩
theorem Off.setCell {D : Nat → Prop} {a w : World} (h : Off D a w) {p : Addr} (hp : D p.block ∨ a.heap.size ≤ p.block) (u : Value) : Off D a (w.setCell p u) :=
  ⟨h.os, h.tape, h.output, by simpa [World.setCell] using h.size, fun i hi hD => (Below.heap_setCell w p u i (fun e => by
    rcases hp with hp | hp
    · exact hD (e ▸ hp)
    · omega)).trans (h.block i hi hD)⟩
theorem Off.below {D : Nat → Prop} {a w : World} (h : Off D a w) {B : Nat} (hB : B ≤ a.heap.size) (hD : ∀ k, D k → B ≤ k) : Below B a w :=
  ⟨h.os, h.tape, h.output, h.size, fun k hk => h.block k (Nat.lt_of_lt_of_le hk hB) (fun e => by have := hD k e; omega)⟩
theorem Off.grown {D : Nat → Prop} {a w w' : World} {row : Option Nat} (h : Off D a w) (hg : w.grownBy w' row) (hr : ∀ k, row = some k → D k ∨ a.heap.size ≤ k) : Off D a w' :=
  ⟨hg.os.trans h.os, hg.tape.trans h.tape, hg.output.trans h.output, Nat.le_trans h.size hg.size, fun i hi hD => (hg.block i (Nat.lt_of_lt_of_le hi h.size) (fun e => by
    rcases hr i e.symm with r | r
    · exact hD r
    · omega)).trans (h.block i hi hD)⟩
structure Cel (b : Nat) (t : TypeId) (cs : Array Value) (w : World) : Prop where
  is : w.heap[b]? = some (.cells cs t (0, 0))
theorem Cel.lt {b : Nat} {t : TypeId} {cs : Array Value} {w : World} (h : Cel b t cs w) : b < w.heap.size := lt_of_block h.is
theorem Cel.cell {b : Nat} {t : TypeId} {cs : Array Value} {w : World} (h : Cel b t cs w) (o : Nat) : w.cell? ⟨b, o, none⟩ = cs[o]? := by
  simp [World.cell?, h.is]
theorem Cel.free {b : Nat} {t : TypeId} {cs : Array Value} {w : World} (h : Cel b t cs w) (o : Nat) : w.frozen? ⟨b, o, none⟩ = false := by
  simp [World.frozen?, h.is]
theorem Cel.set {b : Nat} {t : TypeId} {cs : Array Value} {w : World} (h : Cel b t cs w) (o : Nat) (u : Value) : Cel b t (cs.setIfInBounds o u) (w.setCell ⟨b, o, none⟩ u) :=
  ⟨heap_setCell_same w b o cs t u h.is⟩
theorem Cel.other {b : Nat} {t : TypeId} {cs : Array Value} {w : World} (h : Cel b t cs w) {p : Addr} (hp : b ≠ p.block) (u : Value) : Cel b t cs (w.setCell p u) :=
  ⟨(Below.heap_setCell w p u b hp).trans h.is⟩
theorem Cel.alloc {b : Nat} {t : TypeId} {cs : Array Value} {w : World} (h : Cel b t cs w) (o : Obj) : Cel b t cs (w.alloc o) :=
  ⟨(Below.heap_alloc w o b h.lt).trans h.is⟩
theorem Cel.drew {b : Nat} {t : TypeId} {cs : Array Value} {w : World} (h : Cel b t cs w) : Cel b t cs w.drew := ⟨h.is⟩
theorem Cel.off {D : Nat → Prop} {b : Nat} {t : TypeId} {cs : Array Value} {w w' : World} (h : Cel b t cs w) (k : Off D w w') (hb : ¬ D b) : Cel b t cs w' :=
  ⟨(k.block b h.lt hb).trans h.is⟩
theorem Cel.new (w : World) (t : TypeId) (cs : Array Value) : Cel w.heap.size t cs (w.alloc (.cells cs t)) := ⟨heap_alloc_new w _⟩
theorem cell_lt {w : World} {a : Addr} {v : Value} (h : w.cell? a = some v) : a.block < w.heap.size := by
  rcases Nat.lt_or_ge a.block w.heap.size with h1 | h1
  · exact h1
  · have e : w.heap[a.block]? = none := by simp; omega
    simp [World.cell?, e] at h
def vl (bs : List Nat) : List Value := bs.map fun (b : Nat) => Value.int .u8 (b : Int)
theorem vl_len (bs : List Nat) : (vl bs).length = bs.length := by simp [vl]
theorem vl_append (a b : List Nat) : vl (a ++ b) = vl a ++ vl b := by simp [vl]
theorem vl_one (bs : List Nat) : ∀ u ∈ vl bs, u.oneCell' = true := by
  intro u hu
  simp only [vl, List.mem_map] at hu
  obtain ⟨i, -, rfl⟩ := hu
  rfl
theorem vl_get (bs : List Nat) (i : Nat) (h : i < bs.length) : (vl bs)[i]? = some (.int .u8 ((bs.getD i 0 : Nat) : Int)) := by
  simp [vl, h]
theorem vl_lt {bs : List Nat} {j : Nat} {u : Value} (h : (vl bs)[j]? = some u) : j < bs.length := by
  obtain ⟨h, -⟩ := List.getElem?_eq_some_iff.1 h
  simpa [vl] using h
def blk (t : Option Addr) : Option Nat := t.map (·.block)
theorem blk_own (t : Option Addr) (n c : Nat) : (Value.slice t n c).ownBlock = blk t := by cases t <;> rfl
structure Src (w : World) (tad : Option Addr) (cap : Nat) (bs : List Nat) : Prop where
  is : (tad = none ∧ bs = [] ∧ cap = 0) ∨ ∃ ad, tad = some ad ∧ ∀ j u, (vl bs)[j]? = some u → w.cell? (ad.add j) = some u
structure OwnR (w : World) (tad : Option Addr) (cap : Nat) (bs : List Nat) : Prop where
  row : w.ownsRow 0 5 1 (.slice tad bs.length cap) bs.length (vl bs)
theorem OwnR.nil (w : World) : OwnR w none 0 [] := ⟨World.ownsRow_nil w 0 _ 1⟩
theorem add_lit (g o j : Nat) : (⟨g, o, none⟩ : Addr).add j = ⟨g, o + j, none⟩ := by unfold Addr.add; split <;> simp_all
theorem add_block (a : Addr) (j : Nat) : (a.add j).block = a.block := by unfold Addr.add; split <;> simp_all
theorem Src.off {D : Nat → Prop} {w w' : World} {tad : Option Addr} {cap : Nat} {bs : List Nat} (h : Src w tad cap bs) (k : Off D w w') (hD : ∀ c, c < w.heap.size → blk tad = some c → ¬ D c) : Src w' tad cap bs := by
  obtain ⟨h⟩ := h
  rcases h with h | ⟨ad, rfl, h⟩
  · exact ⟨.inl h⟩
  · refine ⟨.inr ⟨ad, rfl, fun j u hj => ?_⟩⟩
    have h1 := h j u hj
    have h2 := cell_lt h1
    rw [← h1]
    exact World.cell?_of_block (k.block _ h2 (hD _ h2 (by rw [add_block]; rfl)))
theorem OwnR.off {D : Nat → Prop} {w w' : World} {tad : Option Addr} {cap : Nat} {bs : List Nat} (h : OwnR w tad cap bs) (k : Off D w w') (hD : ∀ c, c < w.heap.size → blk tad = some c → ¬ D c) : OwnR w' tad cap bs := by
  refine ⟨h.row.1, ?_⟩
  rcases h.row.2 with h2 | ⟨g, c, cur, hv, hg, hh, r⟩
  · exact .inl h2
  · have hlt := lt_of_block hh
    simp only [Value.slice.injEq] at hv
    obtain ⟨rfl, -, rfl⟩ := hv
    exact .inr ⟨g, _, cur, rfl, hg, (k.block g hlt (hD g hlt rfl)).trans hh, r⟩
theorem OwnR.lt {w : World} {tad : Option Addr} {cap : Nat} {bs : List Nat} (h : OwnR w tad cap bs) : ∀ c, blk tad = some c → c < w.heap.size := fun c hc =>
  (World.ownsRow.lt h.row c (by rw [blk_own]; exact hc)).2
theorem OwnR.src {w : World} {tad : Option Addr} {cap : Nat} {bs : List Nat} (h : OwnR w tad cap bs) : Src w tad cap bs := by
  rcases h.row.2 with ⟨hv, h0⟩ | ⟨g, c, cur, hv, -⟩
  · simp only [Value.slice.injEq] at hv
    exact ⟨.inl ⟨hv.1, List.eq_nil_of_length_eq_zero h0, hv.2.2⟩⟩
  · simp only [Value.slice.injEq] at hv
    obtain ⟨rfl, -, rfl⟩ := hv
    exact ⟨.inr ⟨_, rfl, World.ownsRow.cells h.row (g := g) rfl⟩⟩
theorem Try.infoB : (Try.prog.info? 5).map (fun i => (i.zero, i.size, i.bytes)) = some (some (.int .u8 0), 1, 1) := by kernel_rfl
theorem wpList_app {w : World} {ops : Array Oper} {rest : List Oper} {o : Oper} {a : Act} {Q : Exit → Act → World → Prop} (hgd : o.guard = none) (s x : Operand)
    (ho : o.op = .call { callee := .builtin .append, args := #[s, x], argTypes := #[90, 90] })
    (tad : Option Addr) (cap : Nat) (bs : List Nat) (hs : a.eval s = .slice tad bs.length cap) (hown : OwnR w tad cap bs)
    (xt : Option Addr) (xc : Nat) (xs : List Nat) (hx : a.eval x = .slice xt xs.length xc) (hsrc : Src w xt xc xs) (hb : bs.length + xs.length ≤ 140737488355328)
    (h : ∀ t' c' w' ys, Hid (ys = bs ++ xs) → OwnR w' t' c' ys → Off (fun c => blk tad = some c) w w' → (blk t' = blk tad ∨ blk t' = some w.heap.size) → wpList Try.prog ops Q rest (a.put o.dst (.slice t' ys.length c')) w') :
    wpList Try.prog ops Q (o :: rest) a w := by
  obtain ⟨i0, hi, hz0, hz1, hz2⟩ := info_parts Try.infoB
  rcases hsrc.is with ⟨rfl, rfl, rfl⟩ | ⟨ad, rfl, hc⟩
  · refine wpList_append_own_none hgd s x 90 ho 0 5 i0 1 Try.underlying90 hi _ _ _ hs hown.row hx ?_
    have := h tad cap w bs (show bs = bs ++ [] by simp) hown (Off.refl _ w) (.inl rfl)
    exact this
  · refine wpList_append_own_at w hgd s x 90 ho 0 5 i0 (.int .u8 0) 1 1 Try.underlying90 hi hz0 hz1 hz2 rfl (by decide) _ _ _ hs hown.row ad _ _ (vl xs) hx (by simp [vl_len]) hc (vl_one xs) (by unfold maxLen; omega) (by omega) (Nat.zero_le _) ?_
    intro v' w' own' grow' hnil hat
    rw [← vl_append, ← List.length_append] at own'
    obtain ⟨t', c', rfl⟩ : ∃ t' c', v' = .slice t' (bs ++ xs).length c' := by
      rcases own'.2 with ⟨rfl, h0⟩ | ⟨g, c, cur, hv, -⟩
      · exact ⟨none, 0, by rw [h0]⟩
      · exact ⟨_, _, hv⟩
    rw [blk_own, blk_own] at hat
    rw [blk_own] at grow'
    exact h t' c' w' _ (show bs ++ xs = bs ++ xs from rfl) ⟨own'⟩ ((Off.refl _ w).grown grow' (fun k hk => .inl hk)) hat
theorem eql_nil (a : Option Addr) (l c : Nat) (W : World) : (binOp .eql 90 (.slice a l c) (.slice none 0 0)).run Try.prog W = .ok (.bool a.isNone) W := by
  have h : binOp .eql 90 (.slice a l c) (.slice none 0 0) = (do pure (.bool (← Op.equal 90 (.slice a l c) (.slice none 0 0)))) := rfl
  rw [h]
  simp [run_equal_slice_nil W 90 5 a l c Try.underlying90, Result.andThen]
def strOf (bs : List Nat) : ByteArray := strOfNums (bs.map fun (b : Nat) => (b : Int))
theorem conv_src {w : World} {tad : Option Addr} {cap : Nat} {bs : List Nat} (h : Src w tad cap bs) : (convert 90 9 (.slice tad bs.length cap)).run Try.prog w = .ok (.string (strOf bs)) w := by
  obtain ⟨h⟩ := h
  rcases h with ⟨rfl, rfl, rfl⟩ | ⟨ad, rfl, h⟩
  · exact run_convert_bytes_nil w 90 5 Try.underlying90 Try.underlying5 0 0 9 Try.underlying9
  · have hl : (loadCells ad bs.length).run Try.prog w = .ok ((bs.map fun (b : Nat) => (b : Int)).map (Value.int .u8)).toArray w := by
      have := run_loadCells_list (P := Try.prog) w ad (vl bs) h
      rw [vl_len] at this
      rw [this]
      simp [vl, Function.comp_def]
    rw [run_convert_bytes_string w 90 9 5 _ _ _ Try.underlying90 Try.underlying5 Try.underlying9, run_bytesToString w ad _ _ _ hl]
    congr 2
    rw [foldl_push_bytes]
    simp [strOf, strOfNums, ByteArray.empty, ByteArray.emptyWithCapacity]
    rfl
end Go.Proofs.Ytmjmgdbhmbjmaaa
