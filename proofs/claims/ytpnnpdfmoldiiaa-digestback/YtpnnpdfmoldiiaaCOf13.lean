/- Items of several texts. -/
import Derived.Test.YtpnnpdfmoldiiaaCArg13
import Derived.Test.YtpnnpdfmoldiiaaCDmy
import Derived.Test.YtpnnpdfmoldiiaaCDof
import Derived.Test.YtpnnpdfmoldiiaaCLaw13
import Derived.Test.YtpnnpdfmoldiiaaCSmd
namespace Go.Proofs.Ytpnnpdfmoldiiaa
open Go.RowKit
theorem dgs_one {b : Nat} {d : G} {w : World} (h : Cel b 27 #[.string d.key, .int .i64 (d.f 0), .int .i64 (d.f 1), .int .i64 (d.f 2), .int .i64 (d.f 3), .int .i64 (d.f 4), .int .i64 (d.f 5), .int .i64 (d.f 6), .int .i64 (d.f 7), .slice d.a d.ds.length d.cap] w) (hr : RowD w d.a d.cap d.ds) : Dgs w (some ⟨b, 0, none⟩) 1 [d] := by
 refine ⟨by simp, by omega, fun i g hi => ?_⟩
 rcases i with _ | i
 ·simp at hi
  subst hi
  refine ⟨b, 0, rfl, fun j u hj => ?_, hr⟩
  rw [show 0 + 0 * 10 + j = j by omega, h.cell j, ← hj, List.getElem?_toArray]
  rfl
 ·simp at hi
end Go.Proofs.Ytpnnpdfmoldiiaa
