/- Items of several texts. -/
import Derived.Test.YtmjmgdbhmbjmaaaCArg22
import Derived.Test.YtmjmgdbhmbjmaaaCAw22
namespace Go.Proofs.Ytmjmgdbhmbjmaaa
set_option maxRecDepth 100000
open Go.RowKit
theorem GotR.val {r : Option (List Int)} {e : Ending} {N : Nat} {w' : World} (h : GotR r e N w') : ∃ a l c, e = .returned (.tuple #[.slice a l c, .bool r.isSome]) := by
 cases r with
 | none => exact ⟨_, _, _, h⟩
 | some l =>
  obtain ⟨a, c, e, -⟩ := h
  exact ⟨_, _, _, e⟩
theorem got_ok {o : OA} {node : Int} {key : ByteArray} {s : SA} (hr : o.read = true) (hk : key = o.key) (hm : (keyB key && mayA s) = true) (ha : (okN node && o.who node.toNat) = false) : ¬ (o.read = false ∨ key ≠ o.key ∨ (keyB key && mayA s) = false ∨ (okN node && o.who node.toNat) = true) := by
 rintro (h | h | h | h)
 ·rw [hr] at h; cases h
 ·exact h hk
 ·rw [hm] at h; cases h
 ·rw [ha] at h; cases h
theorem adds_nat (f : Nat → Bool) {n : Nat} (h : n < 8) : adds f (n : Int) = ans f n := by unfold adds; rw [if_pos (okN_of h)]; rfl
theorem joinZ : joinS SA.zero SA.zero = SA.zero := join_self may_zero
end Go.Proofs.Ytmjmgdbhmbjmaaa
