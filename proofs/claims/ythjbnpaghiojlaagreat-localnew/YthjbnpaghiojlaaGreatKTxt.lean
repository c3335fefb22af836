/- Items of several texts. -/
import Derived.Test.YthjbnpaghiojlaaGreatKMem
namespace Go.Proofs.YthjbnpaghiojlaaGreat
open Go.RowKit
def tx (s:ByteArray):List Nat:=s.data.toList.map UInt8.toNat
theorem map_inj:∀ {a b:List UInt8},a.map UInt8.toNat=b.map UInt8.toNat→a=b
 | [],[],_=>rfl
 | [],_ :: _,h=>by simp at h
 | _ :: _,[],h=>by simp at h
 | x :: a,y :: b,h=>by
  simp only [List.map_cons,List.cons.injEq] at h
  rw [UInt8.toNat_inj.1 h.1,map_inj h.2]
theorem tx_inj {s r:ByteArray} (h:tx s=tx r):s=r:=by
 obtain ⟨⟨a⟩⟩:=s
 obtain ⟨⟨b⟩⟩:=r
 have:=map_inj (show a.map UInt8.toNat=b.map UInt8.toNat from h)
 rw [this]
theorem toL (s:ByteArray):s.toList=s.data.toList:=by
 obtain ⟨⟨a⟩⟩:=s
 simp
theorem tx_eql (s r:ByteArray):(s.toList == r.toList)=decide (tx s=tx r):=by
 rw [toL,toL]
 by_cases h:tx s=tx r
 ·rw [decide_eq_true h,tx_inj h]
  simp
 ·rw [decide_eq_false h,beq_eq_false_iff_ne]
  intro e
  exact h (by unfold tx; rw [e])
end Go.Proofs.YthjbnpaghiojlaaGreat
