/- A table in memory: the map's block, the rows that its elements lead to; what turns, and what does not. -/
import Derived.Test.YtmeclfgehpbjlaaTbP
import Derived.Deep.RegionHeld
namespace Go.Proofs.Ytmeclfgehpbjlaa
open Go.RowKit

theorem Try.lawK : Maps.Keyed Try.prog 9 := Maps.string_keyed Try.underlying9
theorem Try.zeroS (k : ByteArray) (w : World) : (zeroValue 94).run Try.prog w = .ok (zE k).val w := by kernel_rfl

/-- No number lies in these blocks. -/
structure NoI (D : Nat → Prop) (w : World) : Prop where
  no : ∀ x : Addr, D x.block → ∀ k n, w.cell? x ≠ some (.int k n)
theorem Src.offN {D : Nat → Prop} {w w' : World} {tad : Option Addr} {cap : Nat} {bs : List Nat} (h : Src w tad cap bs) (o : Off D w w') (hN : NoI D w) : Src w' tad cap bs := by
  rcases h.is with h0 | ⟨ad, rfl, h0⟩
  · exact ⟨.inl h0⟩
  · refine ⟨.inr ⟨ad, rfl, fun j u hj => ?_⟩⟩
    have h1 := h0 j u hj
    obtain ⟨x, hx⟩ : ∃ x, u = .int .u8 x := by
      simp only [vl, List.getElem?_map, Option.map_eq_some_iff] at hj
      obtain ⟨x, -, hx⟩ := hj
      exact ⟨_, hx.symm⟩
    rw [← h1]
    exact World.cell?_of_block (o.block _ (cell_lt h1) (fun e => hN.no _ e _ _ (hx ▸ h1)))
theorem Row.offN {D : Nat → Prop} {w w' : World} {a : Option Addr} {cap : Nat} {l : List V} (h : Row w a cap l) (o : Off D w w') (hN : NoI D w) : Row w' a cap l :=
  ⟨h.len, h.bound, fun i v hi => by
    obtain ⟨b, off, e, h1, h2⟩ := h.at_ i v hi
    exact ⟨b, off, e, h1.off o (fun _ hd => hN.no ⟨b, off + i * 4, none⟩ hd _ _ h1.c0), ⟨h2.src.offN o hN, h2.lt, h2.n0, h2.n1, h2.m0, h2.m1, h2.len⟩⟩⟩
theorem NoI.none (w : World) : NoI (fun _ => False) w := ⟨fun _ h => h.elim⟩
theorem Cel.noI {q : Nat} {t : TypeId} {u : Value} {w : World} (h : Cel q t #[u] w) (hu : ∀ k n, u ≠ .int k n) : NoI (fun c => c = q) w := by
  refine ⟨fun x hx k n e => ?_⟩
  obtain ⟨b, o, s⟩ := x
  have hx : b = q := hx
  subst hx
  unfold World.cell? at e
  rw [h.is] at e
  cases s with
  | some s => simp at e
  | none =>
    cases o with
    | zero => simp at e; exact hu k n e
    | succ o => simp at e
theorem om_noI {H : Type} {k : TypeId} {R : Value → Option (DataW H × List MemPlace)} {b n : Nat} {D : DataW H} {w : World} (h : w.ownsMap Try.prog k R b n D) : NoI (fun c => c = b) w := by
  obtain ⟨es, clock, hb, -⟩ := h
  refine ⟨fun x hx k n e => ?_⟩
  have hx : x.block = b := hx
  unfold World.cell? at e
  rw [hx, hb] at e
  simp at e
theorem om_ncel {H : Type} {k : TypeId} {R : Value → Option (DataW H × List MemPlace)} {b n : Nat} {D : DataW H} {w : World} (h : w.ownsMap Try.prog k R b n D) {p : Nat} {t : TypeId} {cs : Array Value} (hp : Cel p t cs w) : p ≠ b := by
  obtain ⟨es, clock, hb, -⟩ := h
  intro e
  subst e
  rw [hp.is] at hb
  cases hb
theorem om_off {H : Type} {k : TypeId} {R : Value → Option (DataW H × List MemPlace)} {b n : Nat} {D : DataW H} {w w' : World} {X : Nat → Prop} (h : w.ownsMap Try.prog k R b n D) (o : Off X w w') (hb : ¬ X b) : w'.ownsMap Try.prog k R b n D := by
  have hlt := h.lt
  obtain ⟨es, clock, hh, r⟩ := h
  exact ⟨es, clock, (o.block b hlt hb).trans hh, r⟩

theorem kl_key {k : ByteArray} (hk : k.size ≤ maxLen) : keyOf Try.prog 9 (.string k) = some (kl k) := WideMaps.keyOf_string_mk Try.underlying9 hk
theorem om_tight {H : Type} {k : TypeId} {R : Value → Option (DataW H × List MemPlace)} {b n : Nat} {D : DataW H} {w : World} (h : w.ownsMap Try.prog k R b n D) : w.ownsMap Try.prog k R b (Maps.size D) D := by
  obtain ⟨es, clock, hb, F, hs, hD⟩ := h
  refine ⟨es, clock, hb, F, ?_, hD⟩
  rw [hD]
  show es.size ≤ ((es.toList.map _).foldr DataW.insert []).length
  rw [length_sorted]
  simp
theorem put_len {t : List E} (h : Sor E.key t) (x : E) : (putG E.key x t).length ≤ t.length + 1 := by
  rw [len_putG E.key h]
  split <;> omega

end Go.Proofs.Ytmeclfgehpbjlaa
