/- Rows of numbers in a block of their own. -/
import Derived.Test.YtachdgbgcdplnaaMem17
import Derived.Laws.MakeOwn
namespace Go.Proofs.Ytachdgbgcdplnaa
set_option maxRecDepth 100000
open Go.RowKit

def upd (f : Nat → Int) (i : Nat) (x : Int) (j : Nat) : Int := if j = i then x else f j
theorem upd_same (f : Nat → Int) (i : Nat) (x : Int) : upd f i x i = x := if_pos rfl
theorem upd_ne (f : Nat → Int) {i j : Nat} (x : Int) (h : j ≠ i) : upd f i x j = f j := if_neg h
/-- A block of n numbers, as elements of type t. -/
structure NRow (t : TypeId) (q n : Nat) (f : Nat → Int) (w : World) : Prop where
  is : ∃ cs : Array Value, Cel q t cs w ∧ ∀ i, i < n → cs[i]? = some (.int .i64 (f i))
theorem NRow.off {t : TypeId} {D : Nat → Prop} {q n : Nat} {f : Nat → Int} {w w' : World} (h : NRow t q n f w) (k : Off D w w') (hD : ¬ D q) : NRow t q n f w' := by
  obtain ⟨cs, hc, h⟩ := h.is
  exact ⟨cs, hc.off k hD, h⟩
theorem NRow.lt {t : TypeId} {q n : Nat} {f : Nat → Int} {w : World} (h : NRow t q n f w) : q < w.heap.size := by obtain ⟨cs, hc, -⟩ := h.is; exact hc.lt
theorem NRow.at_ {t : TypeId} {q n : Nat} {f : Nat → Int} {w : World} (h : NRow t q n f w) {i : Nat} (hi : i < n) : w.cell? ⟨q, i, none⟩ = some (.int .i64 (f i)) := by
  obtain ⟨cs, hc, h⟩ := h.is
  exact (hc.cell _).trans (h i hi)
theorem NRow.free {t : TypeId} {q n : Nat} {f : Nat → Int} {w : World} (h : NRow t q n f w) (o : Nat) : w.frozen? ⟨q, o, none⟩ = false := by obtain ⟨cs, hc, -⟩ := h.is; exact hc.free o
theorem some_lt {α : Type} {cs : Array α} {i : Nat} {x : α} (h : cs[i]? = some x) : i < cs.size := by
  obtain ⟨h, -⟩ := Array.getElem?_eq_some_iff.1 h
  exact h
theorem NRow.set {t : TypeId} {q n : Nat} {f : Nat → Int} {w : World} (h : NRow t q n f w) (i : Nat) (hi : i < n) (x : Int) : NRow t q n (upd f i x) (w.setCell ⟨q, i, none⟩ (.int .i64 x)) := by
  obtain ⟨cs, hc, h⟩ := h.is
  refine ⟨_, hc.set _ _, fun j hj => ?_⟩
  have h1 := some_lt (h i hi)
  by_cases e : j = i
  · subst e
    rw [upd_same, Array.getElem?_setIfInBounds_self_of_lt h1]
  · rw [upd_ne _ _ e, Array.getElem?_setIfInBounds_ne (by omega)]
    exact h j hj
theorem info_parts {t : TypeId} {z : Value} {s b : Nat} (h : (Try.prog.info? t).map (fun i => (i.zero, i.size, i.bytes)) = some (some z, s, b)) : ∃ i, Try.prog.info? t = some i ∧ i.zero = some z ∧ i.size = s ∧ i.bytes = b := by
  cases hi : Try.prog.info? t with
  | none => rw [hi] at h; simp at h
  | some i => rw [hi] at h; simp at h; exact ⟨i, rfl, h.1, h.2.1, h.2.2⟩
def madeI (n : Nat) : Array Value := madeCells (Value.int .i64 0).cells n
theorem madeI_at {n j : Nat} (h : j < n) : (madeI n)[j]? = some (.int .i64 0) := by
  simp [madeI, madeCells, h, Value.cells, Nat.mod_one]
theorem Try.infoI : (Try.prog.info? 3).map (fun i => (i.zero, i.size, i.bytes)) = some (some (.int .i64 0), 1, 8) := by kernel_rfl
theorem makeI (n : Nat) (hn : n ≤ 1000) (W : World) : (Instr.makeSlice 32 (.int .i64 (n : Int)) (.int .i64 (n : Int))).run Try.prog W = .ok (.slice (some ⟨W.heap.size, 0, none⟩) n n) (W.alloc (.cells (madeI n) 3)) := by
  obtain ⟨i0, hi, hz0, hz1, hz2⟩ := info_parts Try.infoI
  have h := run_makeSlice (P := Try.prog) W 32 3 i0 (.int .i64 0) Try.underlying32 hi hz0 .i64 .i64 (n : Int) (n : Int) (by omega) (by omega) (by rw [hz1]; omega) (by rw [hz2]; omega) (by omega)
  rw [h]
  simp [madeI, hz1]
def mI1 : Array Value := #[.int .i64 0]
theorem NRow.newI (w : World) (n : Nat) : NRow 3 w.heap.size n (fun _ => 0) (w.alloc (.cells (madeI n) 3)) :=
  ⟨_, Cel.new w _ _, fun _ hi => madeI_at hi⟩
def madeA (n : Nat) : Array Value := madeCells (Value.agg #[.int .i64 0, .int .i64 0, .int .i64 0, .int .i64 0]).cells (n * 4)
theorem madeA_at {n j : Nat} (h : j < n * 4) : (madeA n)[j]? = some (.int .i64 0) := by
  have e : (Value.agg #[.int .i64 0, .int .i64 0, .int .i64 0, .int .i64 0]).cells = #[.int .i64 0, .int .i64 0, .int .i64 0, .int .i64 0] := by kernel_rfl
  unfold madeA
  rw [e]
  simp [madeCells, h]
  have h4 : j % 4 < 4 := Nat.mod_lt _ (by omega)
  generalize j % 4 = k at h4 ⊢
  match k, h4 with
  | 0, _ => rfl
  | 1, _ => rfl
  | 2, _ => rfl
  | 3, _ => rfl
theorem Try.infoA : (Try.prog.info? 30).map (fun i => (i.zero, i.size, i.bytes)) = some (some (.agg #[.int .i64 0, .int .i64 0, .int .i64 0, .int .i64 0]), 4, 32) := by kernel_rfl
theorem makeA (n : Nat) (hn : n ≤ 1000) (W : World) : (Instr.makeSlice 29 (.int .i64 (n : Int)) (.int .i64 (n : Int))).run Try.prog W = .ok (.slice (some ⟨W.heap.size, 0, none⟩) n n) (W.alloc (.cells (madeA n) 30)) := by
  obtain ⟨i0, hi, hz0, hz1, hz2⟩ := info_parts Try.infoA
  have h := run_makeSlice (P := Try.prog) W 29 30 i0 (.agg #[.int .i64 0, .int .i64 0, .int .i64 0, .int .i64 0]) Try.underlying29 hi hz0 .i64 .i64 (n : Int) (n : Int) (by omega) (by omega) (by rw [hz1]; omega) (by rw [hz2]; omega) (by omega)
  rw [h]
  simp [madeA, hz1]
theorem NRow.newA (w : World) (n : Nat) : NRow 30 w.heap.size (n * 4) (fun _ => 0) (w.alloc (.cells (madeA n) 30)) :=
  ⟨_, Cel.new w _ _, fun _ hi => madeA_at hi⟩
end Go.Proofs.Ytachdgbgcdplnaa
