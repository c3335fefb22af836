/- Items of several texts. -/
import Derived.Deep.Cut
import Derived.Deep.RegionHeld
import Derived.Test.YtpnnpdfmoldiiabALessP
import Derived.Test.YtpnnpdfmoldiiabATbJ
namespace Go.Proofs.Ytpnnpdfmoldiiab
theorem join_ok {f g : Nat → Int} {l k : List A} (h1 : MayP f l) (h2 : MayP g k) : MayP (joinV f g l k) (joinL f g l k) := by
 have e1 := may_yes h1
 have e2 := may_yes h2
 have a1 : joinV f g l k = maxV f g := by simp [joinV, e1, e2]
 have a2 : joinL f g l k = (mergeA (nc g) (nc f) l k).take 16 := by simp [joinL, e1, e2]
 rw [a1, a2]
 exact may_join h1 h2 _ _
section
variable {f g h : Nat → Int} {l k m : List A}
end
end Go.Proofs.Ytpnnpdfmoldiiab

namespace Go.Proofs.Ytpnnpdfmoldiiab
open Go.RowKit
structure OkT (X : List K) : Prop where
 may : ∀ x ∈ X, MayP x.f x.l
 key : ∀ x ∈ X, keyB x.key = true
theorem okT_nil : OkT [] := ⟨fun x hx => by simp at hx, fun x hx => by simp at hx⟩
theorem okT_put {X : List K} (h : OkT X) {x : K} (h1 : MayP x.f x.l) (h2 : keyB x.key = true) : OkT (putG K.key x X) :=
 ⟨fun y hy => by
  rcases (mem_putG K.key).1 hy with rfl | ⟨hy, -⟩
  ·exact h1
  ·exact h.may y hy, fun y hy => by
  rcases (mem_putG K.key).1 hy with rfl | ⟨hy, -⟩
  ·exact h2
  ·exact h.key y hy⟩
theorem joinR_ways (X : List K) (k : ByteArray) (f : Nat → Int) (l : List A) :
  ((keyB k && mayS f l) = false ∧ joinR X k f l = ⟨X, zer, [], false, 1⟩) ∨
  (keyB k = true ∧ MayP f l ∧ fndG K.key k X = none ∧ 256 ≤ X.length ∧ joinR X k f l = ⟨X, zer, [], false, 11⟩) ∨
  (keyB k = true ∧ MayP f l ∧ fndG K.key k X = none ∧ ¬ 256 ≤ X.length ∧ joinR X k f l = ⟨putG K.key ⟨k, joinV zer f [] l, joinL zer f [] l⟩ X, joinV zer f [] l, joinL zer f [] l, false, 0⟩) ∨
  ∃ u, keyB k = true ∧ MayP f l ∧ fndG K.key k X = some u ∧ joinR X k f l = ⟨putG K.key ⟨k, joinV u.f f u.l l, joinL u.f f u.l l⟩ X, joinV u.f f u.l l, joinL u.f f u.l l, sameS u.f (joinV u.f f u.l l) u.l (joinL u.f f u.l l), 0⟩ := by
 cases hm : (keyB k && mayS f l)
 ·exact .inl ⟨rfl, joinR_arg hm⟩
 ·right
  have hk : keyB k = true ∧ MayP f l := by
   rw [Bool.and_eq_true] at hm
   exact ⟨hm.1, may_iff.1 hm.2⟩
  cases hf : fndG K.key k X with
  | none =>
   by_cases hn : 256 ≤ X.length
   ·exact .inl ⟨hk.1, hk.2, rfl, hn, joinR_full hm hf hn⟩
   ·exact .inr (.inl ⟨hk.1, hk.2, rfl, hn, joinR_new hm hf hn⟩)
  | some u => exact .inr (.inr ⟨u, hk.1, hk.2, rfl, joinR_old hm hf⟩)
theorem okT_join {X : List K} (h : OkT X) (k : ByteArray) (f : Nat → Int) (l : List A) : OkT (joinR X k f l).x := by
 rcases joinR_ways X k f l with ⟨-, e⟩ | ⟨-, -, -, -, e⟩ | ⟨hk, hm, -, -, e⟩ | ⟨u, hk, hm, hf, e⟩
 ·rw [e]; exact h
 ·rw [e]; exact h
 ·rw [e]; exact okT_put h (join_ok may_zer hm) hk
 ·rw [e]; exact okT_put h (join_ok (h.may u (fnd_mem K.key hf).1) hm) hk
end Go.Proofs.Ytpnnpdfmoldiiab
