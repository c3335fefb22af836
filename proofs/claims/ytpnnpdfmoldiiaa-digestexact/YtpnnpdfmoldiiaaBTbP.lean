/- Items of several texts. -/
import Derived.Maps.OwnSet
import Derived.Maps.RangeWalk
import Derived.Maps.Ext
import Derived.Sort.KeysCollected
import Derived.Test.YtpnnpdfmoldiiaaBSam
import Derived.Test.YtpnnpdfmoldiiaaBTxt
namespace Go.Proofs.Ytpnnpdfmoldiiaa
open Go.RowKit
structure E where
 key : ByteArray
 f : Nat → Int
 a : Option Addr
 cap : Nat
 l : List V
def kb (s : ByteArray) : List UInt8 := s.data.toList
theorem kb_inj {s r : ByteArray} (h : kb s = kb r) : s = r := by
 obtain ⟨⟨a⟩⟩ := s
 obtain ⟨⟨b⟩⟩ := r
 have : a = b := h
 rw [this]
section
variable {α β : Type} (key : α → ByteArray)
def smk (y k : ByteArray) : Bool := kb y == kb k
theorem smk_iff {y k : ByteArray} : smk y k = true ↔ y = k := by
 simp only [smk, beq_iff_eq]
 exact ⟨kb_inj, fun e => by rw [e]⟩
theorem smk_no {y k : ByteArray} : smk y k = false ↔ y ≠ k := by
 rw [← Bool.not_eq_true, smk_iff]
variable {key} {key' : β → ByteArray} {g : α → β}
end
end Go.Proofs.Ytpnnpdfmoldiiaa
