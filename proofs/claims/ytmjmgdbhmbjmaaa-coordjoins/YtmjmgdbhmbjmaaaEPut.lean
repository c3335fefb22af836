/- Items of several texts. -/
import Derived.Deep.Cut
import Derived.Test.YtmjmgdbhmbjmaaaEJoi
namespace Go.Proofs.Ytmjmgdbhmbjmaaa
open Go.RowKit
theorem row_one {b : Nat} {v : V} {w : World} (h : Cel b 92 #[.int .i64 v.node, .int .i64 v.num, .slice v.ad v.data.length v.cap, .bool v.dead] w) (hv : VOk w v) : Row w (some ⟨b, 0, none⟩) 1 [v] := by
 refine ⟨by simp, by omega, fun i u hi => ?_⟩
 match i, hi with
 | 0, hi =>
  simp at hi
  subst hi
  obtain ⟨x0, x1, x2, x3⟩ := cel4 h
  exact ⟨b, 0, rfl, ⟨x0, x1, x2, x3⟩, hv⟩
end Go.Proofs.Ytmjmgdbhmbjmaaa
