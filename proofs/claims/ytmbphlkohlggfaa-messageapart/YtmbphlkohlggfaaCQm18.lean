/- Items of several texts. -/
import Derived.Test.YtmbphlkohlggfaaCGSame
import Derived.Test.YtmbphlkohlggfaaCQz18
import Derived.Test.YtmbphlkohlggfaaCBks
namespace Go.Proofs.Ytmbphlkohlggfaa
set_option maxRecDepth 100000
open Go.RowKit
theorem neq_mem (a b c d : Int) (W : World) : (binOp .neq 63 (.agg #[.int .i64 a, .int .i64 b]) (.agg #[.int .i64 c, .int .i64 d])).run Try.prog W = .ok (.bool (!decide (a = c ∧ b = d))) W := by
 go_simp
 by_cases h1 : a = c <;> by_cases h2 : b = d <;> simp [h1, h2]
theorem take_map_step {α β : Type} {f : α → β} {xs ys : List α} {i : Nat} {x y : α} (h : (xs.take i).map f = (ys.take i).map f) (hx : xs[i]? = some x) (hy : ys[i]? = some y) (e : f x = f y) : (xs.take (i + 1)).map f = (ys.take (i + 1)).map f := by
 rw [List.take_add_one, List.take_add_one, hx, hy, List.map_append, List.map_append, h]
 simp [e]
theorem map_apart {α β : Type} {f : α → β} {xs ys : List α} {i : Nat} {x y : α} (hx : xs[i]? = some x) (hy : ys[i]? = some y) (e : f x ≠ f y) : xs.map f ≠ ys.map f := by
 intro h
 have := congrArg (fun z => z[i]?) h
 simp only [List.getElem?_map, hx, hy, Option.map_some, Option.some.injEq] at this
 exact e this
theorem map_len {α β : Type} {f : α → β} {xs ys : List α} (h : xs.length ≠ ys.length) : xs.map f ≠ ys.map f := by
 intro e
 have := congrArg List.length e
 rw [List.length_map, List.length_map] at this
 exact h this
theorem map_done {α β : Type} {f : α → β} {xs ys : List α} {i : Nat} (h : (xs.take i).map f = (ys.take i).map f) (hx : i = xs.length) (hy : i = ys.length) : xs.map f = ys.map f := by
 rw [List.take_of_length_le (by omega), List.take_of_length_le (by omega)] at h
 exact h
def v8 (f : Nat → Int) : List Int := [f 0, f 1, f 2, f 3, f 4, f 5, f 6, f 7]
theorem v8_iff {f g : Nat → Int} : eqB f g = true ↔ v8 f = v8 g := by
 unfold eqB v8
 rw [decide_eq_true_iff]
 simp only [List.cons.injEq, and_true]
 constructor
 ·intro h
  exact ⟨h 0 (by omega), h 1 (by omega), h 2 (by omega), h 3 (by omega), h 4 (by omega), h 5 (by omega), h 6 (by omega), h 7 (by omega)⟩
 ·rintro ⟨h0, h1, h2, h3, h4, h5, h6, h7⟩ j hj
  match j, hj with
  | 0, _ => exact h0
  | 1, _ => exact h1
  | 2, _ => exact h2
  | 3, _ => exact h3
  | 4, _ => exact h4
  | 5, _ => exact h5
  | 6, _ => exact h6
  | 7, _ => exact h7
def nK (k : K) : ByteArray × List Int × List A := (k.key, v8 k.f, k.l)
def nE (e : E) : ByteArray × List Int × List A := nK e.abs
def nGK (g : GK) : ByteArray × List Int × List (Int × Int) := (g.key, v8 g.f, g.ds)
def nG (g : G) : ByteArray × List Int × List (Int × Int) := nGK g.abs
theorem sameS_iff {f g : Nat → Int} {l k : List A} : sameS f g l k = true ↔ v8 f = v8 g ∧ l = k := by
 unfold sameS sameR
 rw [Bool.and_eq_true, v8_iff]
 simp
theorem nE_iff {x y : E} : nE x = nE y ↔ x.key = y.key ∧ sameS x.f y.f (cont x.l) (cont y.l) = true := by
 rw [sameS_iff]
 show (x.key, v8 x.f, cont x.l) = (y.key, v8 y.f, cont y.l) ↔ _
 simp only [Prod.mk.injEq]
theorem nG_iff {x y : G} : nG x = nG y ↔ x.key = y.key ∧ eqB x.f y.f = true ∧ x.ds = y.ds := by
 rw [v8_iff]
 show (x.key, v8 x.f, x.ds) = (y.key, v8 y.f, y.ds) ↔ _
 simp only [Prod.mk.injEq]
theorem cellsX_off {w w' : World} {b o : Nat} {u : List Value} (k : Off (fun _ => False) w w') (h : ∀ j v, u[j]? = some v → w.cell? ⟨b, o + j, none⟩ = some v) : ∀ j v, u[j]? = some v → w'.cell? ⟨b, o + j, none⟩ = some v := fun j v hj => by
 have h1 := h j v hj
 rw [← h1]
 exact World.cell?_of_block (a := ⟨b, o + j, none⟩) (k.block b (cell_lt h1) (fun h => h))
end Go.Proofs.Ytmbphlkohlggfaa
