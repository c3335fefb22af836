/- Items of several texts. -/
import Derived.Maps.OwnSet
import Derived.Maps.RangeWalk
import Derived.Maps.Ext
import Derived.Sort.KeysCollected
import Derived.Test.YtmeclfgehpbjlaaYRea
import Derived.Test.YtmeclfgehpbjlaaYTxt
namespace Go.Proofs.Ytmeclfgehpbjlaa
open Go.RowKit
structure E where
 key : ByteArray
 f : Nat → Int
 a : Option Addr
 cap : Nat
 l : List V
structure K where
 key : ByteArray
 f : Nat → Int
 l : List A
def E.abs (e : E) : K := ⟨e.key, e.f, cont e.l⟩
def absE (t : List E) : List K := t.map E.abs
theorem absE_len (t : List E) : (absE t).length = t.length := by simp [absE]
def kb (s : ByteArray) : List UInt8 := s.data.toList
theorem kb_inj {s r : ByteArray} (h : kb s = kb r) : s = r := by
 obtain ⟨⟨a⟩⟩ := s
 obtain ⟨⟨b⟩⟩ := r
 have : a = b := h
 rw [this]
section
variable {α β : Type} (key : α → ByteArray)
variable {key} {key' : β → ByteArray} {g : α → β}
end
end Go.Proofs.Ytmeclfgehpbjlaa
