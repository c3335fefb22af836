/- Items of several texts. -/
import Derived.Deep.Slices
import Derived.OpenShut
import Derived.ShutString
import Derived.ChangeOld
import Derived.ChangeSame
import Derived.SizedLaws
import Derived.Lib.SlBytesConst
import Derived.Test.YtmjmgdbhmbjmaaaCLiv
import Derived.Test.YtmjmgdbhmbjmaaaCCo22
namespace Go.Proofs.Ytmjmgdbhmbjmaaa
set_option maxRecDepth 100000
open Go.ChangeShapes Go.WideShapes Go.ChangeAt Go.RowKit
theorem wfI22 {n : Int} (h : (Lit.int .i64 n).wf = true) : -9223372036854775808 ≤ n ∧ n ≤ 9223372036854775807 := by
 simp [Lit.wf] at h
 exact h
structure Inz (w : World) (a : Option Addr) (len cap : Nat) (B : Nat → Int) : Prop where
 hlen : len ≤ 9223372036854775807
 at_ : ∀ i, i < len → ∃ b off, a = some ⟨b, off, none⟩ ∧ w.cell? ⟨b, off + i, none⟩ = some (.int .i64 (B i))
 lo : ∀ i, i < len → -9223372036854775808 ≤ B i ∧ B i ≤ 9223372036854775807
theorem argIz {H : Type} {enc : TypeId × Value → H} {w : World} {fuel : Nat} {a : Option Addr} {len cap : Nat} {x : DataW H × List MemPlace}
  (h : DataW.trod enc Try.prog w 0 (fun _ => true) true fuel 46 (Value.slice a len cap).cells.toList = some x) : ∃ B, Inz w a len cap B := by
 rcases open_ints Try.underlying46 Try.underlying3 (by kernel_rfl) h with ⟨hcs, _⟩ | ⟨x, l, c, zs, hcs, _, hl, hm, hz, hx, hcell, hwz⟩
 ·simp [Value.cells] at hcs
  obtain ⟨rfl, rfl, rfl⟩ := hcs
  exact ⟨fun _ => 0, by omega, fun i hi => by omega, fun i hi => by omega⟩
 ·simp [Value.cells] at hcs
  obtain ⟨rfl, rfl, rfl⟩ := hcs
  simp only [if_true] at hz
  unfold maxLen at hm
  refine ⟨fun i => zs.getD i 0, by omega, fun i hi => ?_, fun i hi => wfI22 (hwz _ ?_)⟩
  ·obtain ⟨b, off, rfl, hc⟩ := ints_at hcell (by omega)
   exact ⟨b, off, rfl, hc i (by omega)⟩
  ·have : i < zs.length := by omega
   show zs.getD i 0 ∈ zs
   rw [List.getD_eq_getElem?_getD, List.getElem?_eq_getElem this]
   exact List.getElem_mem this
theorem rem_any (a k : Int) (h0 : 0 < k) : ∃ r : Nat, (IntKind.u64.wrap a).tmod k = (r : Int) ∧ (r : Int) < k := by
 have hnn : 0 ≤ IntKind.u64.wrap a := by rw [IntKind.wrap_u64]; omega
 have e := Int.tmod_eq_emod_of_nonneg (b := k) hnn
 have h1 := Int.emod_nonneg (IntKind.u64.wrap a) (show k ≠ 0 by omega)
 have h2 := Int.emod_lt_of_pos (IntKind.u64.wrap a) h0
 obtain ⟨r, hr⟩ := Int.eq_ofNat_of_zero_le h1
 exact ⟨r, by rw [e, hr], by omega⟩
section
variable {HH : Type} {enc : TypeId × Value → HH}
end
end Go.Proofs.Ytmjmgdbhmbjmaaa
