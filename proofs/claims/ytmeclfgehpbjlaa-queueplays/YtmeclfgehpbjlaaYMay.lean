/- Items of several texts. -/
import Derived.Test.YtmeclfgehpbjlaaYVal
namespace Go.Proofs.Ytmeclfgehpbjlaa
open Go.RowKit
theorem get_cont {l : List V} {i : Nat} {v : V} (h : l[i]? = some v) : (cont l)[i]? = some v.abs := by simp [cont, h]
end Go.Proofs.Ytmeclfgehpbjlaa
