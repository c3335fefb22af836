/- Items of several texts. -/
import Derived.Deep.Slices
import Derived.OpenShut
import Derived.ShutString
import Derived.ChangeOld
import Derived.ChangeSame
import Derived.SizedLaws
import Derived.Lib.SlBytesConst
import Derived.Test.YtmjmgdbhmbjmaaaBLiv
import Derived.Test.YtmjmgdbhmbjmaaaBCo22
namespace Go.Proofs.Ytmjmgdbhmbjmaaa
set_option maxRecDepth 100000
open Go.ChangeShapes Go.WideShapes Go.ChangeAt Go.RowKit
theorem wfI22 {n : Int} (h : (Lit.int .i64 n).wf = true) : -9223372036854775808 ≤ n ∧ n ≤ 9223372036854775807 := by
 simp [Lit.wf] at h
 exact h
theorem rem_any (a k : Int) (h0 : 0 < k) : ∃ r : Nat, (IntKind.u64.wrap a).tmod k = (r : Int) ∧ (r : Int) < k := by
 have hnn : 0 ≤ IntKind.u64.wrap a := by rw [IntKind.wrap_u64]; omega
 have e := Int.tmod_eq_emod_of_nonneg (b := k) hnn
 have h1 := Int.emod_nonneg (IntKind.u64.wrap a) (show k ≠ 0 by omega)
 have h2 := Int.emod_lt_of_pos (IntKind.u64.wrap a) h0
 obtain ⟨r, hr⟩ := Int.eq_ofNat_of_zero_le h1
 exact ⟨r, by rw [e, hr], by omega⟩
section
variable {HH : Type} {enc : TypeId × Value → HH}
end
end Go.Proofs.Ytmjmgdbhmbjmaaa
