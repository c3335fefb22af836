/- Items of several texts. -/
import Derived.Test.YtpnnpdfmoldiiaaDGSm
import Derived.Test.YtpnnpdfmoldiiaaDSRead
namespace Go.Proofs.Ytpnnpdfmoldiiaa
open Go.RowKit
theorem Cel.st10 {b : Nat} {t : TypeId} {x0 x1 x2 x3 x4 x5 x6 x7 x8 x9 : Value} {w : World} (h : Cel b t #[x0, x1, x2, x3, x4, x5, x6, x7, x8, x9] w) (key : ByteArray) (f : Nat → Int) (s : Value) : Cel b t #[.string key, .int .i64 (f 0), .int .i64 (f 1), .int .i64 (f 2), .int .i64 (f 3), .int .i64 (f 4), .int .i64 (f 5), .int .i64 (f 6), .int .i64 (f 7), s] ((((((((((w.setCell ⟨b, 0, none⟩ (.string key)).setCell ⟨b, 1, none⟩ (.int .i64 (f 0))).setCell ⟨b, 2, none⟩ (.int .i64 (f 1))).setCell ⟨b, 3, none⟩ (.int .i64 (f 2))).setCell ⟨b, 4, none⟩ (.int .i64 (f 3))).setCell ⟨b, 5, none⟩ (.int .i64 (f 4))).setCell ⟨b, 6, none⟩ (.int .i64 (f 5))).setCell ⟨b, 7, none⟩ (.int .i64 (f 6))).setCell ⟨b, 8, none⟩ (.int .i64 (f 7))).setCell ⟨b, 9, none⟩ s) := by
 replace h := h.set 0 (.string key)
 simp only [List.setIfInBounds_toArray, List.set_cons_zero] at h
 replace h := h.set 1 (.int .i64 (f 0))
 simp only [lsA, lsZ, lsS] at h
 replace h := h.set 2 (.int .i64 (f 1))
 simp only [lsA, lsZ, lsS] at h
 replace h := h.set 3 (.int .i64 (f 2))
 simp only [lsA, lsZ, lsS] at h
 replace h := h.set 4 (.int .i64 (f 3))
 simp only [lsA, lsZ, lsS] at h
 replace h := h.set 5 (.int .i64 (f 4))
 simp only [lsA, lsZ, lsS] at h
 replace h := h.set 6 (.int .i64 (f 5))
 simp only [lsA, lsZ, lsS] at h
 replace h := h.set 7 (.int .i64 (f 6))
 simp only [lsA, lsZ, lsS] at h
 replace h := h.set 8 (.int .i64 (f 7))
 simp only [lsA, lsZ, lsS] at h
 replace h := h.set 9 s
 simp only [lsA, lsZ, lsS] at h
 exact h
theorem Cel.clr10 {b : Nat} {t : TypeId} {x0 x1 x2 x3 x4 x5 x6 x7 x8 x9 : Value} {w : World} (h : Cel b t #[x0, x1, x2, x3, x4, x5, x6, x7, x8, x9] w) : Cel b t #[.string ⟨#[]⟩, .int .i64 0, .int .i64 0, .int .i64 0, .int .i64 0, .int .i64 0, .int .i64 0, .int .i64 0, .int .i64 0, .slice none 0 0] ((((((((((w.setCell ⟨b, 0, none⟩ (.string ⟨#[]⟩)).setCell ⟨b, 1, none⟩ (.int .i64 0)).setCell ⟨b, 2, none⟩ (.int .i64 0)).setCell ⟨b, 3, none⟩ (.int .i64 0)).setCell ⟨b, 4, none⟩ (.int .i64 0)).setCell ⟨b, 5, none⟩ (.int .i64 0)).setCell ⟨b, 6, none⟩ (.int .i64 0)).setCell ⟨b, 7, none⟩ (.int .i64 0)).setCell ⟨b, 8, none⟩ (.int .i64 0)).setCell ⟨b, 9, none⟩ (.slice none 0 0)) := by
 have := h.st10 ⟨#[]⟩ zer (.slice none 0 0)
 simp only [zer] at this
 exact this
theorem Off.st10 {D : Nat → Prop} {a w : World} {b : Nat} (h : Off D a w) (hb : D b ∨ a.heap.size ≤ b) (key : ByteArray) (f : Nat → Int) (s : Value) : Off D a ((((((((((w.setCell ⟨b, 0, none⟩ (.string key)).setCell ⟨b, 1, none⟩ (.int .i64 (f 0))).setCell ⟨b, 2, none⟩ (.int .i64 (f 1))).setCell ⟨b, 3, none⟩ (.int .i64 (f 2))).setCell ⟨b, 4, none⟩ (.int .i64 (f 3))).setCell ⟨b, 5, none⟩ (.int .i64 (f 4))).setCell ⟨b, 6, none⟩ (.int .i64 (f 5))).setCell ⟨b, 7, none⟩ (.int .i64 (f 6))).setCell ⟨b, 8, none⟩ (.int .i64 (f 7))).setCell ⟨b, 9, none⟩ s) :=
 ((((((((((h.setCell hb _).setCell hb _).setCell hb _).setCell hb _).setCell hb _).setCell hb _).setCell hb _).setCell hb _).setCell hb _).setCell hb _)
theorem Off.clr10 {D : Nat → Prop} {a w : World} {b : Nat} (h : Off D a w) (hb : D b ∨ a.heap.size ≤ b) : Off D a ((((((((((w.setCell ⟨b, 0, none⟩ (.string ⟨#[]⟩)).setCell ⟨b, 1, none⟩ (.int .i64 0)).setCell ⟨b, 2, none⟩ (.int .i64 0)).setCell ⟨b, 3, none⟩ (.int .i64 0)).setCell ⟨b, 4, none⟩ (.int .i64 0)).setCell ⟨b, 5, none⟩ (.int .i64 0)).setCell ⟨b, 6, none⟩ (.int .i64 0)).setCell ⟨b, 7, none⟩ (.int .i64 0)).setCell ⟨b, 8, none⟩ (.int .i64 0)).setCell ⟨b, 9, none⟩ (.slice none 0 0)) :=
 ((((((((((h.setCell hb _).setCell hb _).setCell hb _).setCell hb _).setCell hb _).setCell hb _).setCell hb _).setCell hb _).setCell hb _).setCell hb _)
end Go.Proofs.Ytpnnpdfmoldiiaa
