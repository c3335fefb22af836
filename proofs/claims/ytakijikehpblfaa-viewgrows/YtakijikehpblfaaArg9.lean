/- What is known of what came in: integers, bytes; strings. -/
import Derived.Test.YtakijikehpblfaaMem
import Derived.OpenShut
import Derived.ShutString
import Derived.ChangeOld
import Derived.ChangeSame
import Derived.SizedLaws
import Derived.Deep.Slices
import Derived.LaidMore
namespace Go.Proofs.Ytakijikehpblfaa
open Go.ChangeShapes Go.WideShapes Go.ChangeAt Go.RowKit

theorem wfI {n : Int} (h : (Lit.int .i64 n).wf = true) : -9223372036854775808 ≤ n ∧ n ≤ 9223372036854775807 := by
  simp [Lit.wf] at h
  exact h
theorem wfU8 {n : Int} (h : (Lit.int .u8 n).wf = true) : ∃ x : Nat, n = (x : Int) ∧ x < 256 := by
  have hb : 0 ≤ n ∧ n ≤ 255 := by
    simp only [Lit.wf, Bool.and_eq_true, decide_eq_true_eq] at h
    exact h
  exact ⟨n.toNat, by omega, by omega⟩
end Go.Proofs.Ytakijikehpblfaa
