/- Items of several texts. -/
import Derived.Below
import Derived.Test.YtmeclfgehpbjlaaZArg5
import Derived.Test.YtmeclfgehpbjlaaZQn18
namespace Go.Proofs.Ytmeclfgehpbjlaa
set_option maxRecDepth 100000
open Go.RowKit
theorem snoc_of {l : List (Int × Int)} (h : 0 < l.length) : ∃ (l' : List (Int × Int)) (k b : Int), l = l' ++ [(k, b)] ∧ l'.length + 1 = l.length := by
 have hn : l ≠ [] := fun e => by rw [e] at h; simp at h
 refine ⟨l.dropLast, (l.getLast hn).1, (l.getLast hn).2, (List.dropLast_concat_getLast hn).symm, ?_⟩
 rw [List.length_dropLast]
 omega
end Go.Proofs.Ytmeclfgehpbjlaa
