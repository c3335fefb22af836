/- Items of several texts. -/
import Derived.Maps.OwnSet
import Derived.Maps.RangeWalk
import Derived.Maps.Ext
import Derived.Sort.KeysCollected
import Derived.Test.YtmjmgdbhmbjmaaaEMem
import Derived.Test.YtmjmgdbhmbjmaaaESam
namespace Go.Proofs.Ytmjmgdbhmbjmaaa
open Go.RowKit
theorem toL (s : ByteArray) : s.toList = s.data.toList := by
 obtain ⟨⟨a⟩⟩ := s
 simp
end Go.Proofs.Ytmjmgdbhmbjmaaa

namespace Go.Proofs.Ytmjmgdbhmbjmaaa
open Go.RowKit
def kb (s : ByteArray) : List UInt8 := s.data.toList
theorem kb_inj {s r : ByteArray} (h : kb s = kb r) : s = r := by
 obtain ⟨⟨a⟩⟩ := s
 obtain ⟨⟨b⟩⟩ := r
 have : a = b := h
 rw [this]
section
variable {α β : Type} (key : α → ByteArray)
variable {key} {key' : β → ByteArray} {g : α → β}
end
end Go.Proofs.Ytmjmgdbhmbjmaaa
