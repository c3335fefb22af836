/- Slices of integers that came in. -/
import Derived.Test.YtmeclfgehpbjlaaQn18
import Derived.Test.YtmeclfgehpbjlaaArg5
import Derived.Below
namespace Go.Proofs.Ytmeclfgehpbjlaa
set_option maxRecDepth 100000
open Go.ChangeShapes Go.WideShapes Go.ChangeAt Go.RowKit

/-- A slice that reads as these integers. -/
structure Inz (w : World) (a : Option Addr) (len cap : Nat) (B : Nat → Int) : Prop where
  hlen : len ≤ 9223372036854775807
  at_ : ∀ i, i < len → ∃ b off, a = some ⟨b, off, none⟩ ∧ w.cell? ⟨b, off + i, none⟩ = some (.int .i64 (B i))
  lo : ∀ i, i < len → -9223372036854775808 ≤ B i ∧ B i ≤ 9223372036854775807
theorem argIz {H : Type} {enc : TypeId × Value → H} {w : World} {fuel : Nat} {a : Option Addr} {len cap : Nat} {x : DataW H × List MemPlace}
    (h : DataW.trod enc Try.prog w 0 (fun _ => true) true fuel 51 (Value.slice a len cap).cells.toList = some x) : ∃ B, Inz w a len cap B := by
  obtain ⟨zs, hr⟩ : ∃ zs, IsRow .i64 w a len cap zs := by
    rcases open_ints Try.underlying51 Try.underlying3 (by kernel_rfl) h with ⟨hcs, _⟩ | ⟨x, l, c, zs, hcs, _, hl, hm, hz, hx, hcell, hwz⟩
    · simp [Value.cells] at hcs
      obtain ⟨rfl, rfl, rfl⟩ := hcs
      exact ⟨[], .inl ⟨rfl, rfl, rfl, rfl⟩⟩
    · simp [Value.cells] at hcs
      obtain ⟨rfl, rfl, rfl⟩ := hcs
      simp only [if_true] at hz
      exact ⟨zs, .inr ⟨_, rfl, hl, hm, hz, hcell, hwz⟩⟩
  refine ⟨fun i => zs.getD i 0, hr.len, fun i hi => ?_, fun i hi => ?_⟩
  · obtain ⟨b, off, e, -, hc⟩ := hr.cells i hi
    exact ⟨b, off, e, hc⟩
  · rcases hr with ⟨-, rfl, -⟩ | ⟨x, -, h1, h2, h3, h4, h5⟩
    · omega
    · refine wfI (h5 _ ?_)
      have : i < zs.length := by omega
      show zs.getD i 0 ∈ zs
      rw [List.getD_eq_getElem?_getD, List.getElem?_eq_getElem this]
      exact List.getElem_mem this
theorem Inz.off {w w' : World} {a : Option Addr} {len cap : Nat} {B : Nat → Int} (h : Inz w a len cap B) (o : Off (fun _ => False) w w') : Inz w' a len cap B :=
  ⟨h.hlen, fun i hi => by
    obtain ⟨b, off, e, hc⟩ := h.at_ i hi
    exact ⟨b, off, e, by rw [← hc]; exact World.cell?_of_block (a := ⟨b, off + i, none⟩) (o.block b (cell_lt hc) (fun h => h))⟩, h.lo⟩
theorem qn_cell {W w : World} {p : Nat} {l : List (Int × Int)} {most r t : Int} (h : QuN W p l most r t w) {b o : Nat} {v : Value} (hc : W.cell? ⟨b, o, none⟩ = some v) : w.cell? ⟨b, o, none⟩ = some v := by
  rw [← hc]
  exact World.cell?_of_block (a := ⟨b, o, none⟩) (h.off.block b (cell_lt hc) (fun h => h))
/-- The rest of a number, read without its sign. -/
theorem rem_any (a k : Int) (h0 : 0 < k) : ∃ r : Nat, (IntKind.u64.wrap a).tmod k = (r : Int) ∧ (r : Int) < k := by
  have hnn : 0 ≤ IntKind.u64.wrap a := by rw [IntKind.wrap_u64]; omega
  have e := Int.tmod_eq_emod_of_nonneg (b := k) hnn
  have h1 := Int.emod_nonneg (IntKind.u64.wrap a) (show k ≠ 0 by omega)
  have h2 := Int.emod_lt_of_pos (IntKind.u64.wrap a) h0
  obtain ⟨r, hr⟩ := Int.eq_ofNat_of_zero_le h1
  exact ⟨r, by rw [e, hr], by omega⟩
end Go.Proofs.Ytmeclfgehpbjlaa
