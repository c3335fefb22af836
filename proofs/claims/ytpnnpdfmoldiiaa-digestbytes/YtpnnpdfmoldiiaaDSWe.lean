/- Items of several texts. -/
import Derived.Laws.IdiomStrings
import Derived.Test.YtpnnpdfmoldiiaaDSWr
namespace Go.Proofs.Ytpnnpdfmoldiiaa
open Go.RowKit
def keyL (s : ByteArray) : List Nat := s.data.toList.map UInt8.toNat
theorem keyL_len (s : ByteArray) : (keyL s).length = s.size := by
 unfold keyL
 rw [List.length_map, Array.length_toList]
 rfl
theorem conv_key (key : ByteArray) (W : World) : ∃ cap W', (convert 9 46 (.string key)).run Try.prog W = .ok (.slice (some ⟨W.heap.size, 0, none⟩) (keyL key).length cap) W' ∧ Src W' (some ⟨W.heap.size, 0, none⟩) cap (keyL key) ∧ Off (fun _ => False) W W' := by
 refine ⟨_, _, by rw [keyL_len]; exact run_bytes_of_string W 9 46 5 key Try.underlying9 Try.underlying46 Try.underlying5, ⟨.inr ⟨_, rfl, fun j u hj => ?_⟩⟩, ((Off.refl _ W).drew).alloc _⟩
 have hj' := vl_lt hj
 rw [vl_get _ _ hj'] at hj
 rw [keyL_len] at hj'
 rw [add_lit]
 simp only [World.cell?]
 rw [show (W.heap.size) = W.drew.heap.size from rfl, heap_alloc_new]
 simp only [Nat.zero_add]
 rw [← hj]
 have hj2 : j < key.data.size := hj'
 have h := bytesRow_at key (grownCap W key.size 0 5) j hj2
 have e : (keyL key).getD j 0 = key.data[j].toNat := by
  unfold keyL
  rw [List.getD_eq_getElem?_getD, List.getElem?_map, Array.getElem?_toList, Array.getElem?_eq_getElem hj2]
  rfl
 rw [e]
 exact h
end Go.Proofs.Ytpnnpdfmoldiiaa
