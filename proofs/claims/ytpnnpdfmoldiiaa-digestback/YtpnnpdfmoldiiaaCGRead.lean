/- Items of several texts. -/
import Derived.Lib.SlBytesConst
import Derived.Test.YtpnnpdfmoldiiaaCLiv
import Derived.Test.YtpnnpdfmoldiiaaCSRead
namespace Go.Proofs.Ytpnnpdfmoldiiaa
open Go.RowKit
theorem results_dot1 {fn : Func} {p : Tmp} (h : fn.results = #[.cell p 81]) {tmps : Array Value} {w : World} {b : Nat} {x y : Int} (hp : tmps.getD p undef = .pointer (some ⟨b, 0, none⟩)) (hc : Cel b 81 #[.int .i64 x, .int .i64 y] w) :
  (results fn tmps).run Try.prog w = .ok (.agg #[.int .i64 x, .int .i64 y]) w := by
 obtain ⟨d, hd⟩ : ∃ d, Try.prog.underlying 81 = some (.struct d) := ⟨_, Try.underlying81⟩
 exact results_cell_row h tmps w b 81 _ (0, 0) (.struct d) hp hc.is hd rfl (by kernel_rfl)
end Go.Proofs.Ytpnnpdfmoldiiaa
