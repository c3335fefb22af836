/- Entries joined one behind the other, as data. -/
import Derived.Test.YtmeclfgehpbjlaaJoi10
import Derived.Test.YtmeclfgehpbjlaaOrdQ
import Derived.Test.YtmeclfgehpbjlaaOrdQ
namespace Go.Proofs.Ytmeclfgehpbjlaa
open Go.RowKit

/-- One more entry. -/
def jo (X : List K) (e : E) : List K := (joinR X e.key e.f (cont e.l)).x
def joins (X : List K) (es : List E) : List K := es.foldl jo X
theorem joins_nil (X : List K) (es : List E) : joins X (es.take 0) = X := rfl
theorem joins_step (X : List K) {es : List E} {n : Nat} {x : E} (hx : es[n]? = some x) : joins X (es.take (n + 1)) = jo (joins X (es.take n)) x := by
  unfold joins
  rw [List.take_add_one, hx]
  show (es.take n ++ [x]).foldl jo X = _
  rw [List.foldl_append]
  rfl
theorem joins_all (X : List K) (es : List E) : joins X (es.take es.length) = joins X es := by rw [List.take_length]
/-- What stands in a table may be. -/
structure OkT (X : List K) : Prop where
  may : ∀ x ∈ X, MayP x.f x.l
  key : ∀ x ∈ X, keyB x.key = true
theorem okT_nil : OkT [] := ⟨fun x hx => by simp at hx, fun x hx => by simp at hx⟩
theorem okT_put {X : List K} (h : OkT X) {x : K} (h1 : MayP x.f x.l) (h2 : keyB x.key = true) : OkT (putG K.key x X) :=
  ⟨fun y hy => by
    rcases (mem_putG K.key).1 hy with rfl | ⟨hy, -⟩
    · exact h1
    · exact h.may y hy, fun y hy => by
    rcases (mem_putG K.key).1 hy with rfl | ⟨hy, -⟩
    · exact h2
    · exact h.key y hy⟩
/-- The ways of Join. -/
theorem joinR_ways (X : List K) (k : ByteArray) (f : Nat → Int) (l : List A) :
    ((keyB k && mayS f l) = false ∧ joinR X k f l = ⟨X, zer, [], false, 1⟩) ∨
    (keyB k = true ∧ MayP f l ∧ fndG K.key k X = none ∧ 256 ≤ X.length ∧ joinR X k f l = ⟨X, zer, [], false, 11⟩) ∨
    (keyB k = true ∧ MayP f l ∧ fndG K.key k X = none ∧ ¬ 256 ≤ X.length ∧ joinR X k f l = ⟨putG K.key ⟨k, joinV zer f [] l, joinL zer f [] l⟩ X, joinV zer f [] l, joinL zer f [] l, false, 0⟩) ∨
    ∃ u, keyB k = true ∧ MayP f l ∧ fndG K.key k X = some u ∧ joinR X k f l = ⟨putG K.key ⟨k, joinV u.f f u.l l, joinL u.f f u.l l⟩ X, joinV u.f f u.l l, joinL u.f f u.l l, sameS u.f (joinV u.f f u.l l) u.l (joinL u.f f u.l l), 0⟩ := by
  cases hm : (keyB k && mayS f l)
  · exact .inl ⟨rfl, joinR_arg hm⟩
  · right
    have hk : keyB k = true ∧ MayP f l := by
      rw [Bool.and_eq_true] at hm
      exact ⟨hm.1, may_iff.1 hm.2⟩
    cases hf : fndG K.key k X with
    | none =>
      by_cases hn : 256 ≤ X.length
      · exact .inl ⟨hk.1, hk.2, rfl, hn, joinR_full hm hf hn⟩
      · exact .inr (.inl ⟨hk.1, hk.2, rfl, hn, joinR_new hm hf hn⟩)
    | some u => exact .inr (.inr ⟨u, hk.1, hk.2, rfl, joinR_old hm hf⟩)
theorem okT_join {X : List K} (h : OkT X) (k : ByteArray) (f : Nat → Int) (l : List A) : OkT (joinR X k f l).x := by
  rcases joinR_ways X k f l with ⟨-, e⟩ | ⟨-, -, -, -, e⟩ | ⟨hk, hm, -, -, e⟩ | ⟨u, hk, hm, hf, e⟩
  · rw [e]; exact h
  · rw [e]; exact h
  · rw [e]; exact okT_put h (join_ok may_zer hm) hk
  · rw [e]; exact okT_put h (join_ok (h.may u (fnd_mem K.key hf).1) hm) hk
theorem okT_joins {X : List K} (h : OkT X) : ∀ (es : List E), OkT (joins X es)
  | [] => h
  | e :: es => okT_joins (okT_join h e.key e.f (cont e.l)) es
theorem okT_few {t : List E} {X : List K} (h : OkT X) (e : absE t = X) : ∀ x ∈ t, x.l.length ≤ 1000 := by
  intro x hx
  have := (h.may x.abs (e ▸ List.mem_map.2 ⟨x, hx, rfl⟩)).few
  have e2 : x.abs.l.length = x.l.length := cont_len x.l
  omega
theorem okT_get {t : List E} {X : List K} (h : OkT X) (e : absE t = X) (k : ByteArray) : (getE t k).l.length ≤ 1000 := by
  unfold getE
  cases hf : fndG E.key k t with
  | none => show ([] : List V).length ≤ 1000; simp
  | some x => exact okT_few h e x (fnd_mem E.key hf).1
theorem reap_ok {f : Nat → Int} {l : List A} (h : MayP f l) : MayP (reapV f l) (reapL f l) := by
  have hm := may_yes h
  unfold reapV reapL
  rw [if_pos hm]
  split
  · exact h
  · exact ⟨h.seen, by simp, by simp, by simp⟩
theorem okT_reap {X : List K} (h : OkT X) (k : ByteArray) : OkT (reapT X k) := by
  unfold reapT
  cases hf : fndG K.key k X with
  | none => exact h
  | some u =>
    obtain ⟨hm, hk⟩ := fnd_mem K.key hf
    show OkT (if _ then _ else _)
    split
    · exact h
    · exact okT_put h (reap_ok (h.may u hm)) (hk ▸ h.key u hm)
end Go.Proofs.Ytmeclfgehpbjlaa
