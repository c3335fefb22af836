/- Items of several texts. -/
import Derived.Deep.Cut
import Derived.Deep.RegionHeld
import Derived.Test.YtpnnpdfmoldiiaaQTbJ
import Derived.Test.YtpnnpdfmoldiiaaQOrdQ
namespace Go.Proofs.Ytpnnpdfmoldiiaa
open Go.RowKit
def jo (X : List K) (e : E) : List K := (joinR X e.key e.f (cont e.l)).x
def joins (X : List K) (es : List E) : List K := es.foldl jo X
theorem joins_step (X : List K) {es : List E} {n : Nat} {x : E} (hx : es[n]? = some x) : joins X (es.take (n + 1)) = jo (joins X (es.take n)) x := by
 unfold joins
 rw [List.take_add_one, hx]
 show (es.take n ++ [x]).foldl jo X = _
 rw [List.foldl_append]
 rfl
theorem joins_all (X : List K) (es : List E) : joins X (es.take es.length) = joins X es := by rw [List.take_length]
structure OkT (X : List K) : Prop where
 may : ∀ x ∈ X, MayP x.f x.l
 key : ∀ x ∈ X, keyB x.key = true
theorem okT_nil : OkT [] := ⟨fun x hx => by simp at hx, fun x hx => by simp at hx⟩
theorem okT_put {X : List K} (h : OkT X) {x : K} (h1 : MayP x.f x.l) (h2 : keyB x.key = true) : OkT (putG K.key x X) :=
 ⟨fun y hy => by
  rcases (mem_putG K.key).1 hy with rfl | ⟨hy, -⟩
  ·exact h1
  ·exact h.may y hy, fun y hy => by
  rcases (mem_putG K.key).1 hy with rfl | ⟨hy, -⟩
  ·exact h2
  ·exact h.key y hy⟩
theorem joinR_ways (X : List K) (k : ByteArray) (f : Nat → Int) (l : List A) :
  ((keyB k && mayS f l) = false ∧ joinR X k f l = ⟨X, zer, [], false, 1⟩) ∨
  (keyB k = true ∧ MayP f l ∧ fndG K.key k X = none ∧ 256 ≤ X.length ∧ joinR X k f l = ⟨X, zer, [], false, 11⟩) ∨
  (keyB k = true ∧ MayP f l ∧ fndG K.key k X = none ∧ ¬ 256 ≤ X.length ∧ joinR X k f l = ⟨putG K.key ⟨k, joinV zer f [] l, joinL zer f [] l⟩ X, joinV zer f [] l, joinL zer f [] l, false, 0⟩) ∨
  ∃ u, keyB k = true ∧ MayP f l ∧ fndG K.key k X = some u ∧ joinR X k f l = ⟨putG K.key ⟨k, joinV u.f f u.l l, joinL u.f f u.l l⟩ X, joinV u.f f u.l l, joinL u.f f u.l l, sameS u.f (joinV u.f f u.l l) u.l (joinL u.f f u.l l), 0⟩ := by
 cases hm : (keyB k && mayS f l)
 ·exact .inl ⟨rfl, joinR_arg hm⟩
 ·right
  have hk : keyB k = true ∧ MayP f l := by
   rw [Bool.and_eq_true] at hm
   exact ⟨hm.1, may_iff.1 hm.2⟩
  cases hf : fndG K.key k X with
  | none =>
   by_cases hn : 256 ≤ X.length
   ·exact .inl ⟨hk.1, hk.2, rfl, hn, joinR_full hm hf hn⟩
   ·exact .inr (.inl ⟨hk.1, hk.2, rfl, hn, joinR_new hm hf hn⟩)
  | some u => exact .inr (.inr ⟨u, hk.1, hk.2, rfl, joinR_old hm hf⟩)
theorem okT_join {X : List K} (h : OkT X) (k : ByteArray) (f : Nat → Int) (l : List A) : OkT (joinR X k f l).x := by
 rcases joinR_ways X k f l with ⟨-, e⟩ | ⟨-, -, -, -, e⟩ | ⟨hk, hm, -, -, e⟩ | ⟨u, hk, hm, hf, e⟩
 ·rw [e]; exact h
 ·rw [e]; exact h
 ·rw [e]; exact okT_put h (join_ok may_zer hm) hk
 ·rw [e]; exact okT_put h (join_ok (h.may u (fnd_mem K.key hf).1) hm) hk
theorem okT_joins {X : List K} (h : OkT X) : ∀ (es : List E), OkT (joins X es)
 | [] => h
 | e :: es => okT_joins (okT_join h e.key e.f (cont e.l)) es
end Go.Proofs.Ytpnnpdfmoldiiaa
