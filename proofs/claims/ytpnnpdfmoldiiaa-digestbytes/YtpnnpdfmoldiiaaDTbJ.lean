/- Items of several texts. -/
import Derived.Maps.OwnSet
import Derived.Maps.RangeWalk
import Derived.Maps.Ext
import Derived.Sort.KeysCollected
import Derived.Deep.RegionHeld
import Derived.Deep.Cut
import Derived.Laws.OwnMore
import Derived.Test.YtpnnpdfmoldiiaaDPut
import Derived.Test.YtpnnpdfmoldiiaaDThy2
import Derived.Test.YtpnnpdfmoldiiaaDTxt
import Derived.Test.YtpnnpdfmoldiiaaDGSm
namespace Go.Proofs.Ytpnnpdfmoldiiaa
open Go.RowKit
structure E where
 key : ByteArray
 f : Nat → Int
 a : Option Addr
 cap : Nat
 l : List V
def kb (s : ByteArray) : List UInt8 := s.data.toList
theorem kb_inj {s r : ByteArray} (h : kb s = kb r) : s = r := by
 obtain ⟨⟨a⟩⟩ := s
 obtain ⟨⟨b⟩⟩ := r
 have : a = b := h
 rw [this]
section
variable {α β : Type} (key : α → ByteArray)
def smk (y k : ByteArray) : Bool := kb y == kb k
theorem smk_iff {y k : ByteArray} : smk y k = true ↔ y = k := by
 simp only [smk, beq_iff_eq]
 exact ⟨kb_inj, fun e => by rw [e]⟩
theorem smk_no {y k : ByteArray} : smk y k = false ↔ y ≠ k := by
 rw [← Bool.not_eq_true, smk_iff]
variable {key} {key' : β → ByteArray} {g : α → β}
end
end Go.Proofs.Ytpnnpdfmoldiiaa

namespace Go.Proofs.Ytpnnpdfmoldiiaa
open Go.RowKit
structure NoI (D : Nat → Prop) (w : World) : Prop where
 no : ∀ x : Addr, D x.block → ∀ k n, w.cell? x ≠ some (.int k n)
theorem NoI.none (w : World) : NoI (fun _ => False) w := ⟨fun _ h => h.elim⟩
end Go.Proofs.Ytpnnpdfmoldiiaa

namespace Go.Proofs.Ytpnnpdfmoldiiaa
open Go.RowKit
theorem exec_idx10 {P : Program} {ρ : Operand → Value} {o : Oper} {t : TypeId} {x ix : Operand} {v : Value} {w : World} (ho : o.op = .indexAddr t x ix) (h : (Instr.indexAt t (ρ x) (ρ ix)).run P w = .ok v w) : Sem.run P (execOp ρ o) w = .ok (.value v) w := by
 have e : execOp ρ o = (do pure (.value (← Instr.indexAt t (ρ x) (ρ ix)))) := by unfold execOp; rw [ho]
 rw [e, Sem.run_bind, h]
 rfl
end Go.Proofs.Ytpnnpdfmoldiiaa

namespace Go.Proofs.Ytpnnpdfmoldiiaa
open Go.RowKit
theorem cel10 {b : Nat} {t : TypeId} {s0 s1 s2 s3 s4 s5 s6 s7 s8 s9 : Value} {w : World} (h : Cel b t #[s0, s1, s2, s3, s4, s5, s6, s7, s8, s9] w) : w.cell? ⟨b, 0, none⟩ = some s0 ∧ w.cell? ⟨b, 1, none⟩ = some s1 ∧ w.cell? ⟨b, 2, none⟩ = some s2 ∧ w.cell? ⟨b, 3, none⟩ = some s3 ∧ w.cell? ⟨b, 4, none⟩ = some s4 ∧ w.cell? ⟨b, 5, none⟩ = some s5 ∧ w.cell? ⟨b, 6, none⟩ = some s6 ∧ w.cell? ⟨b, 7, none⟩ = some s7 ∧ w.cell? ⟨b, 8, none⟩ = some s8 ∧ w.cell? ⟨b, 9, none⟩ = some s9 :=
 ⟨h.cell 0, h.cell 1, h.cell 2, h.cell 3, h.cell 4, h.cell 5, h.cell 6, h.cell 7, h.cell 8, h.cell 9⟩
end Go.Proofs.Ytpnnpdfmoldiiaa
