/- A key's bucket. -/
import Derived.Test.YtmeclfgehpbjlaaTxt
namespace Go.Proofs.Ytmeclfgehpbjlaa
open Go.RowKit

/-- The rest of a sum of bytes by four. -/
def bkt (l : List Nat) : Nat := l.sum % 4
theorem bkt_lt (l : List Nat) : bkt l < 4 := Nat.mod_lt _ (by decide)
theorem bkt_append (a b : List Nat) : bkt (a ++ b) = (bkt a + bkt b) % 4 := by
  unfold bkt
  rw [List.sum_append]
  omega
theorem bkt_take (l : List Nat) {i : Nat} (h : i < l.length) : bkt (l.take (i + 1)) = (bkt (l.take i) + l.getD i 0) % 4 := by
  rw [List.take_add_one, List.getElem?_eq_getElem h, bkt_append]
  simp [bkt, List.getD_eq_getElem?_getD, h]
end Go.Proofs.Ytmeclfgehpbjlaa
