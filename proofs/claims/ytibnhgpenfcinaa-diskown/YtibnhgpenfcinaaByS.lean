/- Bytes that are written over. -/
import Derived.Test.YtibnhgpenfcinaaTel
import Derived.Laws.BitsAllLaws
namespace Go.Proofs.Ytibnhgpenfcinaa
open Go.RowKit

/-- n bytes, whichever, that may be written over. -/
structure ByS (w : World) (tad : Option Addr) (n : Nat) : Prop where
  at_ : ∀ i, i < n → ∃ (g : Nat) (t : TypeId) (cs : Array Value) (u : Nat), tad = some ⟨g, 0, none⟩ ∧ Cel g t cs w ∧ cs[i]? = some (.int .u8 (u : Int)) ∧ u < 256
theorem ByS.of {w : World} {tad : Option Addr} {cap : Nat} {bs : List Nat} (h : OwnR w tad cap bs) (hlt : ∀ x ∈ bs, x < 256) : ByS w tad bs.length := by
  refine ⟨fun i hi => ?_⟩
  rcases h.row.2 with ⟨-, h0⟩ | ⟨g, c, cur, hv, -, hh, -, -, hs, ht⟩
  · omega
  · simp only [Value.slice.injEq] at hv
    have hi2 : cur.toList[i]? = some (.int .u8 ((bs.getD i 0 : Nat) : Int)) := by
      have := vl_get bs i hi
      rw [← ht, List.getElem?_take_of_lt (by omega)] at this
      exact this
    refine ⟨g, _, cur, bs.getD i 0, hv.1, ⟨hh⟩, by simpa using hi2, ?_⟩
    have e : bs.getD i 0 = bs[i] := by simp [hi]
    rw [e]
    exact hlt _ (List.getElem_mem hi)
theorem ByS.off {D : Nat → Prop} {w w' : World} {tad : Option Addr} {n : Nat} (h : ByS w tad n) (o : Off D w w') (hD : ∀ c, blk tad = some c → ¬ D c) : ByS w' tad n := by
  refine ⟨fun i hi => ?_⟩
  obtain ⟨g, t, cs, u, e, hc, hx, hu⟩ := h.at_ i hi
  exact ⟨g, t, cs, u, e, hc.off o (hD g (by rw [e]; rfl)), hx, hu⟩
theorem ByS.set {w : World} {tad : Option Addr} {n : Nat} (h : ByS w tad n) (g i : Nat) {u : Int} (hu : ∃ x : Nat, u = (x : Int) ∧ x < 256) : ByS (w.setCell ⟨g, i, none⟩ (.int .u8 u)) tad n := by
  refine ⟨fun j hj => ?_⟩
  obtain ⟨g', t, cs, x, e, hc, hx, hlt⟩ := h.at_ j hj
  obtain ⟨y, rfl, hy⟩ := hu
  by_cases hg : g' = g
  · subst hg
    by_cases hi : i = j
    · subst hi
      refine ⟨g', t, _, y, e, hc.set i _, ?_, hy⟩
      obtain ⟨hs, -⟩ := Array.getElem?_eq_some_iff.1 hx
      rw [Array.getElem?_setIfInBounds_self]
      simp [hs]
    · refine ⟨g', t, _, x, e, hc.set i _, ?_, hlt⟩
      rw [Array.getElem?_setIfInBounds_ne hi]
      exact hx
  · exact ⟨g', t, cs, x, e, hc.other hg _, hx, hlt⟩
theorem low8 (n : Int) : ∃ k : Nat, k < 256 ∧ n % 256 = (k : Int) := ⟨(n % 256).toNat, by omega, by omega⟩
theorem or_one {k : Nat} (hk : k < 256) : ∃ x : Nat, bits .or .u8 (k : Int) 1 = (x : Int) ∧ x < 256 := by
  have e := u8_or_nat k 1 hk (by decide)
  exact ⟨k ||| 1, e, Nat.or_lt_two_pow (n := 8) hk (by decide)⟩
theorem xor_any {u y : Nat} (hu : u < 256) (hy : y < 256) : ∃ x : Nat, bits .xor .u8 (u : Int) (y : Int) = (x : Int) ∧ x < 256 := by
  have e := u8_xor_nat u y hu hy
  exact ⟨u ^^^ y, e, Nat.xor_lt_two_pow (n := 8) hu hy⟩
end Go.Proofs.Ytibnhgpenfcinaa
