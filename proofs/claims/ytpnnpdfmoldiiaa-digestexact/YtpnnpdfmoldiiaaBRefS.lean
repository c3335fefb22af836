/- Items of several texts. -/
import Derived.Laws.OwnMore
import Derived.Deep.Cut
import Derived.Deep.RegionHeld
import Derived.Test.YtpnnpdfmoldiiaaBJoi
import Derived.Test.YtpnnpdfmoldiiaaBThy2
import Derived.Test.YtpnnpdfmoldiiaaBTbJ
import Derived.Test.YtpnnpdfmoldiiaaBLaw10
import Derived.Test.YtpnnpdfmoldiiaaBOrdQ
namespace Go.Proofs.Ytpnnpdfmoldiiaa
open Go.RowKit
section
variable {α : Type} (key : α → ByteArray)
end
theorem ens_one {b : Nat} {v : E} {w : World} (h : ∀ j u, (ecs v)[j]? = some u → w.cell? ⟨b, 0 + j, none⟩ = some u) (hv : Row w v.a v.cap v.l) : Ens w (some ⟨b, 0, none⟩) 1 [v] := by
 refine ⟨by simp, by omega, fun i u hi => ?_⟩
 match i, hi with
 | 0, hi =>
  simp at hi
  subst hi
  exact ⟨b, 0, rfl, h, hv⟩
theorem cel_ens {b : Nat} {v : E} {w : World} (h : Cel b 40 #[.string v.key, .int .i64 (v.f 0), .int .i64 (v.f 1), .int .i64 (v.f 2), .int .i64 (v.f 3), .int .i64 (v.f 4), .int .i64 (v.f 5), .int .i64 (v.f 6), .int .i64 (v.f 7), .slice v.a v.l.length v.cap] w) (hv : Row w v.a v.cap v.l) : Ens w (some ⟨b, 0, none⟩) 1 [v] :=
 ens_one (fun j u hj => by
  rw [Nat.zero_add, h.cell j, ← hj, List.getElem?_toArray]
  rfl) hv
end Go.Proofs.Ytpnnpdfmoldiiaa
