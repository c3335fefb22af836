/- Members: may they be, joined, below, refuted; of the program and of the reference. -/
import Derived.Test.YtakijikehpblfabMem
import Derived.Test.YtakijikehpblfabTake14
import Derived.Laws.ResultCell
namespace Go.Proofs.Ytakijikehpblfab
set_option maxRecDepth 100000
open Go.RowKit

def mayB (s i : Int) : Bool := decide (0 ≤ s ∧ s ≤ 2 ∧ 0 ≤ i ∧ i ≤ 1099511627776)
def jS (s i t j : Int) : Int := if i = j then max s t else if j < i then s else t
def jI (_s i _t j : Int) : Int := if i = j then i else if j < i then i else j
theorem Cel.new2 (w : World) (o p : Obj) (t : TypeId) (cs : Array Value) : Cel (w.heap.size + 2) t cs (((w.alloc o).alloc p).alloc (.cells cs t)) := by
  have := Cel.new ((w.alloc o).alloc p) t cs
  simp only [World.size_alloc] at this
  exact this

theorem results_mem {fn : Func} {p : Tmp} (h : fn.results = #[.cell p 31]) {tmps : Array Value} {w : World} {b : Nat} {x y : Int} (hp : tmps.getD p undef = .pointer (some ⟨b, 0, none⟩)) (hc : Cel b 31 #[.int .i64 x, .int .i64 y] w) :
    (results fn tmps).run Try.prog w = .ok (.agg #[.int .i64 x, .int .i64 y]) w := by
  obtain ⟨d, hd⟩ : ∃ d, Try.prog.underlying 31 = some (.struct d) := ⟨_, Try.underlying31⟩
  exact results_cell_row h tmps w b 31 _ (0, 0) (.struct d) hp hc.is hd rfl (by kernel_rfl)
theorem results_mem2 {fn : Func} {p u : Tmp} (h : fn.results = #[.cell p 31, .tmp u]) {tmps : Array Value} {w : World} {b : Nat} {x y : Int} (hp : tmps.getD p undef = .pointer (some ⟨b, 0, none⟩)) {v : Value} (hu : tmps.getD u undef = v) (hc : Cel b 31 #[.int .i64 x, .int .i64 y] w) :
    (results fn tmps).run Try.prog w = .ok (.tuple #[.agg #[.int .i64 x, .int .i64 y], v]) w := by
  rw [results_cell_tmp h]
  have ha : (asAddr (.pointer (some ⟨b, 0, none⟩))).run Try.prog w = .ok ⟨b, 0, none⟩ w := rfl
  rw [hp, hu, ha]
  obtain ⟨d, hd⟩ : ∃ d, Try.prog.underlying 31 = some (.struct d) := ⟨_, Try.underlying31⟩
  have hv := run_loadVar_row (P := Try.prog) w b 31 31 #[.int .i64 x, .int .i64 y] (0, 0) (.struct d) hc.is hd rfl (by kernel_rfl)
  simp only [Result.andThen, hv]
theorem Cel.st2 {b : Nat} {t : TypeId} {x y : Value} {w : World} (h : Cel b t #[x, y] w) (u v : Value) : Cel b t #[u, v] ((w.setCell ⟨b, 0, none⟩ u).setCell ⟨b, 1, none⟩ v) := (h.set 0 u).set 1 v
theorem Off.st2 {D : Nat → Prop} {a w : World} (h : Off D a w) {b : Nat} (hb : D b ∨ a.heap.size ≤ b) (u v : Value) : Off D a ((w.setCell ⟨b, 0, none⟩ u).setCell ⟨b, 1, none⟩ v) := (h.setCell hb u).setCell hb v
theorem max_int (a b : Int) : ∀ ts t W, (Builtin.max_ ts t #[.int .i64 a, .int .i64 b]).run Try.prog W = .ok (.int .i64 (max a b)) W := by
  intro ts t W
  go_simp
  split <;> omega

end Go.Proofs.Ytakijikehpblfab
