/- Next. -/
import Derived.Test.YtmeclfgehpbjlaaVec2
import Derived.Laws.ResultCell
namespace Go.Proofs.Ytmeclfgehpbjlaa
open Go.RowKit

theorem results_dot {fn : Func} {p u : Tmp} (h : fn.results = #[.cell p 106, .tmp u]) {tmps : Array Value} {w : World} {b : Nat} {x y : Int} (hp : tmps.getD p undef = .pointer (some ⟨b, 0, none⟩)) {v : Value} (hu : tmps.getD u undef = v) (hc : Cel b 106 #[.int .i64 x, .int .i64 y] w) :
    (results fn tmps).run Try.prog w = .ok (.tuple #[.agg #[.int .i64 x, .int .i64 y], v]) w := by
  rw [results_cell_tmp h]
  have ha : (asAddr (.pointer (some ⟨b, 0, none⟩))).run Try.prog w = .ok ⟨b, 0, none⟩ w := rfl
  rw [hp, hu, ha]
  obtain ⟨d, hd⟩ : ∃ d, Try.prog.underlying 106 = some (.struct d) := ⟨_, Try.underlying106⟩
  have hv := run_loadVar_row (P := Try.prog) w b 106 106 #[.int .i64 x, .int .i64 y] (0, 0) (.struct d) hc.is hd rfl (by kernel_rfl)
  simp only [Result.andThen, hv]

theorem wrap64 {x : Int} (h0 : -9223372036854775808 ≤ x) (h1 : x ≤ 9223372036854775807) : IntKind.i64.wrap x = x := by
  simp only [IntKind.wrap, IntKind.bits, IntKind.signed]
  go_num
theorem Cel.new1 (w : World) (o : Obj) (t : TypeId) (cs : Array Value) : Cel (w.heap.size + 1) t cs ((w.alloc o).alloc (.cells cs t)) := by
  have := Cel.new (w.alloc o) t cs
  simp only [World.size_alloc] at this
  exact this
theorem not_any (x : Bool) (w : World) : (Op.unary .not (.bool x)).run Try.prog w = .ok (.bool (!x)) w := rfl

/-- What Next tells: the dot's node, its number, the error. -/
def nextV (f : Nat → Int) (n : Int) : Int × Int × Int :=
  if nodeB n = false then (0, 0, 1) else if 1099511627776 ≤ f n.toNat then (0, 0, 11) else (n, f n.toNat + 1, 0)

end Go.Proofs.Ytmeclfgehpbjlaa
