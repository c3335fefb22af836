/- Items of several texts. -/
import Derived.Maps.OwnSet
import Derived.Maps.RangeWalk
import Derived.Maps.Ext
import Derived.Sort.KeysCollected
import Derived.Deep.RegionHeld
import Derived.Deep.Cut
import Derived.Test.YtmbphlkohlggfaaGreatADot5
import Derived.Test.YtmbphlkohlggfaaGreatAInsP
import Derived.Test.YtmbphlkohlggfaaGreatATxt
namespace Go.Proofs.YtmbphlkohlggfaaGreat
open Go.RowKit
structure E where
 key : ByteArray
 f : Nat → Int
 a : Option Addr
 cap : Nat
 l : List V
structure K where
 key : ByteArray
 f : Nat → Int
 l : List A
def E.abs (e : E) : K := ⟨e.key, e.f, cont e.l⟩
def kb (s : ByteArray) : List UInt8 := s.data.toList
theorem kb_inj {s r : ByteArray} (h : kb s = kb r) : s = r := by
 obtain ⟨⟨a⟩⟩ := s
 obtain ⟨⟨b⟩⟩ := r
 have : a = b := h
 rw [this]
section
variable {α β : Type} (key : α → ByteArray)
variable {key} {key' : β → ByteArray} {g : α → β}
end
end Go.Proofs.YtmbphlkohlggfaaGreat

namespace Go.Proofs.YtmbphlkohlggfaaGreat
open Go.RowKit
structure NoI (D : Nat → Prop) (w : World) : Prop where
 no : ∀ x : Addr, D x.block → ∀ k n, w.cell? x ≠ some (.int k n)
theorem Src.offN {D : Nat → Prop} {w w' : World} {tad : Option Addr} {cap : Nat} {bs : List Nat} (h : Src w tad cap bs) (o : Off D w w') (hN : NoI D w) : Src w' tad cap bs := by
 rcases h.is with h0 | ⟨ad, rfl, h0⟩
 ·exact ⟨.inl h0⟩
 ·refine ⟨.inr ⟨ad, rfl, fun j u hj => ?_⟩⟩
  have h1 := h0 j u hj
  obtain ⟨x, hx⟩ : ∃ x, u = .int .u8 x := by
   simp only [vl, List.getElem?_map, Option.map_eq_some_iff] at hj
   obtain ⟨x, -, hx⟩ := hj
   exact ⟨_, hx.symm⟩
  rw [← h1]
  exact World.cell?_of_block (o.block _ (cell_lt h1) (fun e => hN.no _ e _ _ (hx ▸ h1)))
theorem Row.offN {D : Nat → Prop} {w w' : World} {a : Option Addr} {cap : Nat} {l : List V} (h : Row w a cap l) (o : Off D w w') (hN : NoI D w) : Row w' a cap l :=
 ⟨h.len, h.bound, fun i v hi => by
  obtain ⟨b, off, e, h1, h2⟩ := h.at_ i v hi
  exact ⟨b, off, e, h1.off o (fun _ hd => hN.no ⟨b, off + i * 4, none⟩ hd _ _ h1.c0), ⟨h2.src.offN o hN, h2.lt, h2.n0, h2.n1, h2.m0, h2.m1, h2.len⟩⟩⟩
theorem NoI.none (w : World) : NoI (fun _ => False) w := ⟨fun _ h => h.elim⟩
end Go.Proofs.YtmbphlkohlggfaaGreat

namespace Go.Proofs.YtmbphlkohlggfaaGreat
open Go.RowKit
theorem exec_idx10 {P : Program} {ρ : Operand → Value} {o : Oper} {t : TypeId} {x ix : Operand} {v : Value} {w : World} (ho : o.op = .indexAddr t x ix) (h : (Instr.indexAt t (ρ x) (ρ ix)).run P w = .ok v w) : Sem.run P (execOp ρ o) w = .ok (.value v) w := by
 have e : execOp ρ o = (do pure (.value (← Instr.indexAt t (ρ x) (ρ ix)))) := by unfold execOp; rw [ho]
 rw [e, Sem.run_bind, h]
 rfl
end Go.Proofs.YtmbphlkohlggfaaGreat
