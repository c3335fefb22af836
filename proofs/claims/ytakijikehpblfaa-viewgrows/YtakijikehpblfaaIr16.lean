/- Rows of members and numbers in a block of their own. -/
import Derived.Test.YtakijikehpblfaaMg16
import Derived.Test.YtakijikehpblfaaVd16
import Derived.Laws.MakeOwn
namespace Go.Proofs.Ytakijikehpblfaa
set_option maxRecDepth 100000
open Go.RowKit

/-- A block of n members. -/
structure MRow (q n : Nat) (f : Nat → Mb) (w : World) : Prop where
  is : ∃ cs : Array Value, Cel q 46 cs w ∧ ∀ i, i < n → cs[i * 2]? = some (.int .i64 (f i).1) ∧ cs[i * 2 + 1]? = some (.int .i64 (f i).2)
/-- A block of n numbers. -/
structure IRow (q n : Nat) (f : Nat → Int) (w : World) : Prop where
  is : ∃ cs : Array Value, Cel q 3 cs w ∧ ∀ i, i < n → cs[i]? = some (.int .i64 (f i))
theorem MRow.off {D : Nat → Prop} {q n : Nat} {f : Nat → Mb} {w w' : World} (h : MRow q n f w) (k : Off D w w') (hD : ¬ D q) : MRow q n f w' := by
  obtain ⟨cs, hc, h⟩ := h.is
  exact ⟨cs, hc.off k hD, h⟩
theorem IRow.off {D : Nat → Prop} {q n : Nat} {f : Nat → Int} {w w' : World} (h : IRow q n f w) (k : Off D w w') (hD : ¬ D q) : IRow q n f w' := by
  obtain ⟨cs, hc, h⟩ := h.is
  exact ⟨cs, hc.off k hD, h⟩
theorem MRow.lt {q n : Nat} {f : Nat → Mb} {w : World} (h : MRow q n f w) : q < w.heap.size := by obtain ⟨cs, hc, -⟩ := h.is; exact hc.lt
theorem IRow.lt {q n : Nat} {f : Nat → Int} {w : World} (h : IRow q n f w) : q < w.heap.size := by obtain ⟨cs, hc, -⟩ := h.is; exact hc.lt
theorem MRow.m0 {q n : Nat} {f : Nat → Mb} {w : World} (h : MRow q n f w) {i : Nat} (hi : i < n) : w.cell? ⟨q, i * 2, none⟩ = some (.int .i64 (f i).1) := by
  obtain ⟨cs, hc, h⟩ := h.is
  exact (hc.cell _).trans (h i hi).1
theorem MRow.m1 {q n : Nat} {f : Nat → Mb} {w : World} (h : MRow q n f w) {i : Nat} (hi : i < n) : w.cell? ⟨q, i * 2 + 1, none⟩ = some (.int .i64 (f i).2) := by
  obtain ⟨cs, hc, h⟩ := h.is
  exact (hc.cell _).trans (h i hi).2
theorem IRow.at_ {q n : Nat} {f : Nat → Int} {w : World} (h : IRow q n f w) {i : Nat} (hi : i < n) : w.cell? ⟨q, i, none⟩ = some (.int .i64 (f i)) := by
  obtain ⟨cs, hc, h⟩ := h.is
  exact (hc.cell _).trans (h i hi)
theorem MRow.free {q n : Nat} {f : Nat → Mb} {w : World} (h : MRow q n f w) (o : Nat) : w.frozen? ⟨q, o, none⟩ = false := by obtain ⟨cs, hc, -⟩ := h.is; exact hc.free o
theorem IRow.free {q n : Nat} {f : Nat → Int} {w : World} (h : IRow q n f w) (o : Nat) : w.frozen? ⟨q, o, none⟩ = false := by obtain ⟨cs, hc, -⟩ := h.is; exact hc.free o
theorem some_lt {α : Type} {cs : Array α} {i : Nat} {x : α} (h : cs[i]? = some x) : i < cs.size := by
  obtain ⟨h, -⟩ := Array.getElem?_eq_some_iff.1 h
  exact h
theorem MRow.set {q n : Nat} {f : Nat → Mb} {w : World} (h : MRow q n f w) (i : Nat) (hi : i < n) (x : Mb) : MRow q n (upd f i x) ((w.setCell ⟨q, i * 2, none⟩ (.int .i64 x.1)).setCell ⟨q, i * 2 + 1, none⟩ (.int .i64 x.2)) := by
  obtain ⟨cs, hc, h⟩ := h.is
  refine ⟨_, (hc.set _ _).set _ _, fun j hj => ?_⟩
  have h1 := some_lt (h i hi).1
  have h2 := some_lt (h i hi).2
  by_cases e : j = i
  · subst e
    rw [upd_same]
    constructor
    · rw [Array.getElem?_setIfInBounds_ne (by omega), Array.getElem?_setIfInBounds_self_of_lt h1]
    · rw [Array.getElem?_setIfInBounds_self_of_lt (by simpa using h2)]
  · rw [upd_ne _ _ e, Array.getElem?_setIfInBounds_ne (by omega), Array.getElem?_setIfInBounds_ne (by omega), Array.getElem?_setIfInBounds_ne (by omega), Array.getElem?_setIfInBounds_ne (by omega)]
    exact h j hj
theorem MRow.set0 {q n : Nat} {f : Nat → Mb} {w : World} (h : MRow q n f w) (i : Nat) (hi : i < n) (x : Int) : MRow q n (upd f i (x, (f i).2)) (w.setCell ⟨q, i * 2, none⟩ (.int .i64 x)) := by
  obtain ⟨cs, hc, h⟩ := h.is
  refine ⟨_, hc.set _ _, fun j hj => ?_⟩
  have h1 := some_lt (h i hi).1
  by_cases e : j = i
  · subst e
    rw [upd_same, Array.getElem?_setIfInBounds_self_of_lt h1, Array.getElem?_setIfInBounds_ne (by omega)]
    exact ⟨rfl, (h j hj).2⟩
  · rw [upd_ne _ _ e, Array.getElem?_setIfInBounds_ne (by omega), Array.getElem?_setIfInBounds_ne (by omega)]
    exact h j hj
theorem IRow.set {q n : Nat} {f : Nat → Int} {w : World} (h : IRow q n f w) (i : Nat) (hi : i < n) (x : Int) : IRow q n (upd f i x) (w.setCell ⟨q, i, none⟩ (.int .i64 x)) := by
  obtain ⟨cs, hc, h⟩ := h.is
  refine ⟨_, hc.set _ _, fun j hj => ?_⟩
  have h1 := some_lt (h i hi)
  by_cases e : j = i
  · subst e
    rw [upd_same, Array.getElem?_setIfInBounds_self_of_lt h1]
  · rw [upd_ne _ _ e, Array.getElem?_setIfInBounds_ne (by omega)]
    exact h j hj
/-- As a list. -/
def lsM (f : Nat → Mb) (n : Nat) : List Mb := (List.range n).map f
theorem lsM_len (f : Nat → Mb) (n : Nat) : (lsM f n).length = n := by simp [lsM]
theorem lsM_get (f : Nat → Mb) {n i : Nat} (h : i < n) : (lsM f n)[i]? = some (f i) := by simp [lsM, h]
theorem MRow.mls {q n : Nat} {f : Nat → Mb} {w : World} (h : MRow q n f w) (hn : n ≤ 8) : Mls w (some ⟨q, 0, none⟩) n (lsM f n) := by
  refine ⟨by rw [lsM_len]; omega, fun i x hi => ?_⟩
  have hin : i < n := by
    obtain ⟨h, -⟩ := List.getElem?_eq_some_iff.1 hi
    rwa [lsM_len] at h
  rw [lsM_get f hin] at hi
  obtain rfl := Option.some.inj hi
  exact ⟨q, 0, rfl, by rw [Nat.zero_add]; exact h.m0 hin, by rw [Nat.zero_add]; exact h.m1 hin⟩

def madeM (n : Nat) : Array Value := madeCells (Value.agg #[.int .i64 0, .int .i64 0]).cells (n * 2)
def madeI (n : Nat) : Array Value := madeCells (Value.int .i64 0).cells n
theorem madeM_size (n : Nat) : (madeM n).size = n * 2 := by simp [madeM, madeCells]
theorem madeM_at {n j : Nat} (h : j < n * 2) : (madeM n)[j]? = some (.int .i64 0) := by
  have e : (Value.agg #[.int .i64 0, .int .i64 0]).cells = #[.int .i64 0, .int .i64 0] := by kernel_rfl
  unfold madeM
  rw [e]
  simp [madeCells, h]
  rcases Nat.mod_two_eq_zero_or_one j with h | h <;> simp [h]
theorem madeI_at {n j : Nat} (h : j < n) : (madeI n)[j]? = some (.int .i64 0) := by
  simp [madeI, madeCells, h, Value.cells, Nat.mod_one]
theorem Try.infoI : (Try.prog.info? 3).map (fun i => (i.zero, i.size, i.bytes)) = some (some (.int .i64 0), 1, 8) := by kernel_rfl
theorem makeM (n : Nat) (hn : n ≤ 1000) (W : World) : (Instr.makeSlice 29 (.int .i64 (n : Int)) (.int .i64 (n : Int))).run Try.prog W = .ok (.slice (some ⟨W.heap.size, 0, none⟩) n n) (W.alloc (.cells (madeM n) 46)) := by
  obtain ⟨i0, hi, hz0, hz1, hz2⟩ := info_parts Try.infoM
  have h := run_makeSlice (P := Try.prog) W 29 46 i0 (.agg #[.int .i64 0, .int .i64 0]) Try.underlying29 hi hz0 .i64 .i64 (n : Int) (n : Int) (by omega) (by omega) (by rw [hz1]; omega) (by rw [hz2]; omega) (by omega)
  rw [h]
  simp [madeM, hz1]
theorem makeI (n : Nat) (hn : n ≤ 1000) (W : World) : (Instr.makeSlice 35 (.int .i64 (n : Int)) (.int .i64 (n : Int))).run Try.prog W = .ok (.slice (some ⟨W.heap.size, 0, none⟩) n n) (W.alloc (.cells (madeI n) 3)) := by
  obtain ⟨i0, hi, hz0, hz1, hz2⟩ := info_parts Try.infoI
  have h := run_makeSlice (P := Try.prog) W 35 3 i0 (.int .i64 0) Try.underlying35 hi hz0 .i64 .i64 (n : Int) (n : Int) (by omega) (by omega) (by rw [hz1]; omega) (by rw [hz2]; omega) (by omega)
  rw [h]
  simp [madeI, hz1]
theorem MRow.new (w : World) (n : Nat) : MRow w.heap.size n (fun _ => (0, 0)) (w.alloc (.cells (madeM n) 46)) :=
  ⟨_, Cel.new w _ _, fun _ hi => ⟨madeM_at (by omega), madeM_at (by omega)⟩⟩
theorem IRow.new (w : World) (n : Nat) : IRow w.heap.size n (fun _ => 0) (w.alloc (.cells (madeI n) 3)) :=
  ⟨_, Cel.new w _ _, fun _ hi => madeI_at hi⟩
end Go.Proofs.Ytakijikehpblfaa
