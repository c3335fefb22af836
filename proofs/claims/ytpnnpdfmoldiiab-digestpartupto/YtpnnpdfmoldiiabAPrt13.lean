/- Items of several texts. -/
import Derived.Deep.CutRange
import Derived.Test.YtpnnpdfmoldiiabARefA
import Derived.Test.YtpnnpdfmoldiiabALaw10
import Derived.Test.YtpnnpdfmoldiiabALck
import Derived.Test.YtpnnpdfmoldiiabASiz
import Derived.Test.YtpnnpdfmoldiiabASnd
import Derived.Test.YtpnnpdfmoldiiabATbs
import Derived.Test.YtpnnpdfmoldiiabAGCop
import Derived.Test.YtpnnpdfmoldiiabABel13
namespace Go.Proofs.Ytpnnpdfmoldiiab
open Go.RowKit
structure OkU (x : E) : Prop where
 few : x.l.length ≤ 20
 key : x.key.size ≤ 100
 rng : ∀ j, j < 8 → -9223372036854775808 ≤ x.f j ∧ x.f j ≤ 9223372036854775807
 num : ∀ v ∈ x.l, -9223372036854775808 ≤ v.num ∧ v.num ≤ 9223372036854775807
 dat : ∀ v ∈ x.l, v.data.length ≤ 1048576
theorem OkU.vsum {x : E} (h : OkU x) : vsum (cont x.l) ≤ 20972140 := by
 unfold Go.Proofs.Ytpnnpdfmoldiiab.vsum
 have h1 := sum_le ((cont x.l).map fun x => 31 + x.data.length) 1048607 (fun y hy => by
  obtain ⟨v, hv, rfl⟩ := List.mem_map.1 hy
  obtain ⟨u, hu, rfl⟩ := List.mem_map.1 hv
  have : u.abs.data.length ≤ 1048576 := h.dat u hu
  omega)
 rw [List.length_map, cont_len] at h1
 have h2 := Nat.mul_le_mul_right 1048607 h.few
 omega
theorem OkU.okN {x : E} (h : OkU x) : OkN x := by
 have h1 := h.vsum
 have h2 := h.few
 have h3 := h.key
 exact ⟨by omega, by omega, h.rng, by omega⟩
theorem OkU.siz {x : E} (h : OkU x) : sizE x.key x.f (cont x.l) ≤ 20973000 := by
 have h1 := h.vsum
 have h2 := h.few
 have h3 := h.key
 have h4 := sizE_le x.key x.f h.rng x.l (fun v hv => ⟨h.num v hv, by have := h.dat v hv; omega⟩) (by omega) (by omega)
 omega
theorem sumE_cons (e : E) (q : List E) : sumE (e :: q) = sizE e.key e.f (cont e.l) + sumE q := by simp [sumE]
theorem sumE_max {es : List E} {b : Nat} (h : ∀ x ∈ es, sizE x.key x.f (cont x.l) ≤ b) : sumE es ≤ es.length * b := by
 unfold sumE
 have h1 := sum_le (es.map fun e => sizE e.key e.f (cont e.l)) b (fun y hy => by
  obtain ⟨x, hx, rfl⟩ := List.mem_map.1 hy
  exact h x hx)
 rwa [List.length_map] at h1
theorem sumE_abs {a b : List E} (h : absE a = absE b) : sumE a = sumE b := by
 have : ∀ l : List E, sumE l = ((absE l).map fun k => sizE k.key k.f k.l).sum := fun l => by
  unfold sumE absE
  rw [List.map_map]
  rfl
 rw [this, this, h]
theorem sndF_next (gs : List G) : ∀ (es : List E) (room : Int) (has : Bool), (sndF gs es room has).length < (es.filter (lackK gs)).length → ∃ y, (es.filter (lackK gs))[(sndF gs es room has).length]? = some y ∧ room < (sumE (sndF gs es room has) : Int) + (sizE y.key y.f (cont y.l) : Int)
 | [], room, has, h => by simp at h
 | e :: r, room, has, h => by
  by_cases hl : lackK gs e = true
  ·by_cases hc : room - (sizE e.key e.f (cont e.l) : Int) < 0 ∧ has = true
   ·rw [sndF_stop hl hc, List.filter_cons_of_pos hl]
    exact ⟨e, rfl, by simp [sumE]; omega⟩
   ·rw [sndF_take hl hc, List.filter_cons_of_pos hl] at h ⊢
    obtain ⟨y, hy, hr⟩ := sndF_next gs r (room - (sizE e.key e.f (cont e.l) : Int)) true (by simpa using h)
    refine ⟨y, by simpa using hy, ?_⟩
    rw [sumE_cons]
    omega
  ·have hl' : lackK gs e = false := by simpa using hl
   rw [sndF_skip hl', List.filter_cons_of_neg hl] at h ⊢
   exact sndF_next gs r room has h
structure PrtF (gs : List G) (es : List E) (most : Int) (A P : List E) : Prop where
 all : sndF gs es (max 1099511627776 0) false = A
 part : sndF gs es (max most 0) false = P
 pre : P <+: A
 some_ : A ≠ [] → P ≠ []
 sum : sumE P ≤ 840000000
 le : P.length ≤ 1 ∨ (sumE P : Int) ≤ most
 next : P.length = A.length ∨ ∃ y, A[P.length]? = some y ∧ most < (sumE P : Int) + (sizE y.key y.f (cont y.l) : Int)
theorem prt_facts (gs : List G) {es : List E} (most : Int) (hU : ∀ x ∈ es, OkU x) (hl : es.length ≤ 40) (hp : ∀ x ∈ es, 0 < sizE x.key x.f (cont x.l)) : PrtF gs es most (es.filter (lackK gs)) (sndF gs es (max most 0) false) := by
 have hA : ∀ room has, 1099511627776 ≤ room → sndF gs es room has = es.filter (lackK gs) := fun room has hr => by
  refine sndF_all gs es room has ?_
  have h1 := sumE_max (es := es.filter (lackK gs)) (b := 20973000) (fun x hx => (hU x (List.mem_filter.1 hx).1).siz)
  have h2 := List.length_filter_le (lackK gs) es
  have h3 := Nat.mul_le_mul_right 20973000 (Nat.le_trans h2 hl)
  omega
 have hpre : sndF gs es (max most 0) false <+: es.filter (lackK gs) := by
  by_cases hm : max most 0 ≤ 1099511627776
  ·have := sndF_pre gs es (max most 0) 1099511627776 false hm
   rwa [hA 1099511627776 false (by omega)] at this
  ·rw [hA (max most 0) false (by omega)]
   exact List.prefix_refl _
 have hsub := sndF_sub gs es (max most 0) false
 refine ⟨hA _ _ (by omega), rfl, hpre, fun h e => h ((sndF_nil gs es _).1 e), ?_, ?_, ?_⟩
 ·have h1 := sumE_max (es := sndF gs es (max most 0) false) (b := 20973000) (fun x hx => (hU x (hsub.subset hx)).siz)
  have h3 := Nat.mul_le_mul_right 20973000 (Nat.le_trans hsub.length_le hl)
  omega
 ·rcases sndF_fit gs es (max most 0) false (.inl (by omega)) with h | ⟨h, -⟩ | ⟨-, x, h⟩
  ·by_cases hm : 0 ≤ most
   ·exact .inr (by omega)
   ·refine .inl ?_
    have h0 : sumE (sndF gs es (max most 0) false) = 0 := by omega
    cases hc : sndF gs es (max most 0) false with
    | nil => simp
    | cons y q =>
     rw [hc, sumE_cons] at h0
     have := hp y (hsub.subset (by rw [hc]; simp))
     omega
  ·rw [h]; exact .inl (by simp)
  ·rw [h]; exact .inl (by simp)
 ·by_cases h : (sndF gs es (max most 0) false).length < (es.filter (lackK gs)).length
  ·obtain ⟨y, hy, hr⟩ := sndF_next gs es (max most 0) false h
   exact .inr ⟨y, hy, by omega⟩
  ·exact .inl (Nat.le_antisymm hpre.length_le (by omega))
structure PrtO (most : Int) (os1 os2 : List E) : Prop where
 le : os2.length ≤ os1.length
 pos : os1.length ≠ 0 → os2.length ≠ 0
 take : absE os2 = absE (os1.take os2.length)
 sum : sumE os2 ≤ 840000000
 fit : os2.length ≤ 1 ∨ (sumE os2 : Int) ≤ most
 next : os2.length = os1.length ∨ ∃ y, os1[os2.length]? = some y ∧ most < (sumE os2 : Int) + (sizE y.key y.f (cont y.l) : Int)
theorem prt_rows {gs : List G} {es A P os1 os2 : List E} {most : Int} (h : PrtF gs es most A P) (h1 : absE os1 = absE A) (h2 : absE os2 = absE P) : PrtO most os1 os2 := by
 have l1 : os1.length = A.length := by have := congrArg List.length h1; rwa [absE_len, absE_len] at this
 have l2 : os2.length = P.length := by have := congrArg List.length h2; rwa [absE_len, absE_len] at this
 have hs := sumE_abs h2
 refine ⟨by rw [l1, l2]; exact h.pre.length_le, fun e k => h.some_ (fun z => e (by rw [l1, z]; rfl)) (List.eq_nil_of_length_eq_zero (by omega)), ?_, by rw [hs]; exact h.sum, ?_, ?_⟩
 ·have ep : P = A.take P.length := List.prefix_iff_eq_take.1 h.pre
  have : ∀ (l : List E) n, absE (l.take n) = (absE l).take n := fun l n => by simp [absE]
  rw [this, h1, l2, ← this, ← ep, h2]
 ·rcases h.le with k | k
  ·exact .inl (by omega)
  ·exact .inr (by rw [hs]; exact k)
 ·rcases h.next with k | ⟨y, hy, k⟩
  ·exact .inl (by omega)
  ·refine .inr ?_
   have h3 : (absE A)[os2.length]? = some y.abs := by rw [l2]; simp [absE, hy]
   rw [← h1] at h3
   obtain ⟨z, hz, ez⟩ : ∃ z, os1[os2.length]? = some z ∧ z.abs = y.abs := by simpa [absE] using h3
   refine ⟨z, hz, ?_⟩
   have k1 : z.key = y.key := congrArg K.key ez
   have k2 : z.f = y.f := congrArg K.f ez
   have k3 : cont z.l = cont y.l := congrArg K.l ez
   rw [k1, k2, k3, hs]
   exact k
theorem okN_abs {x e : E} (h : x.abs = e.abs) (ok : OkN x) : OkN e := by
 have k1 : x.key = e.key := congrArg K.key h
 have k2 : x.f = e.f := congrArg K.f h
 have k3 : cont x.l = cont e.l := congrArg K.l h
 have k4 : x.l.length = e.l.length := by have := congrArg List.length k3; rwa [cont_len, cont_len] at this
 exact ⟨by have := ok.few; omega, by rw [← k1]; exact ok.key, by rw [← k2]; exact ok.rng, by rw [← k1, ← k3]; exact ok.sum⟩
theorem okN_rows {os xs : List E} (h : absE os = absE xs) (ok : ∀ x ∈ xs, OkN x) : ∀ e ∈ os, OkN e := fun e he => by
 have : e.abs ∈ absE xs := by rw [← h]; exact List.mem_map.2 ⟨e, he, rfl⟩
 obtain ⟨x, hx, ex⟩ := List.mem_map.1 this
 exact okN_abs ex (ok x hx)
theorem sumE_take {os : List E} {k : Nat} {x : E} (h : os[k]? = some x) : sumE (os.take (k + 1)) = sumE (os.take k) + sizE x.key x.f (cont x.l) := by
 unfold sumE
 rw [List.take_add_one, h]
 simp
theorem sumE_take_le (os : List E) (k : Nat) : sumE (os.take k) ≤ sumE os := by
 have : sumE os = sumE (os.take k) + sumE (os.drop k) := by
  unfold sumE
  rw [← List.sum_append, ← List.map_append, List.take_append_drop]
 omega
end Go.Proofs.Ytpnnpdfmoldiiab

namespace Go.Proofs.Ytpnnpdfmoldiiab
set_option maxRecDepth 100000
open Go.RowKit
theorem putS_two {m M : Nat} {st : Option (List Nat)} {x : List Nat} (h1 : (st.getD []).length + x.length ≤ m) (h2 : m ≤ M) : putS m st x = putS M st x := by
 cases st with
 | none => rfl
 | some bs =>
  simp only [Option.getD_some] at h1
  simp only [putS]
  rw [if_pos h1, if_pos (by omega)]
theorem wrV_two {m M : Nat} (hM : m ≤ M) (st : Option (List Nat)) (f : Nat → Int) (hr : ∀ j, j < 8 → -9223372036854775808 ≤ f j ∧ f j ≤ 9223372036854775807) : ∀ n, n ≤ 8 → (st.getD []).length + 10 * n ≤ m → wrV m st f n = wrV M st f n
 | 0, _, _ => rfl
 | n + 1, h, hl => by
  have h1 := wrV_len M st f hr n (by omega)
  have h3 := numB_zig (hr n (by omega)).1 (hr n (by omega)).2
  simp only [wrV]
  rw [wrV_two hM st f hr n (by omega) (by omega)]
  exact putS_two (by omega) hM
theorem wrVal_two {m M : Nat} (hM : m ≤ M) (st : Option (List Nat)) (x : A) (a1 : -9223372036854775808 ≤ x.num) (a2 : x.num ≤ 9223372036854775807) (a3 : x.data.length < 18446744073709551616) (hl : (st.getD []).length + 31 + x.data.length ≤ m) : wrVal m st x = wrVal M st x ∧ ((wrVal M st x).getD []).length ≤ (st.getD []).length + 31 + x.data.length := by
 have b1 := putS_len M st (numB (u64N x.node))
 have b2 := putS_len M (putS M st (numB (u64N x.node))) (numB (zig x.num))
 have b3 := putS_len M (putS M (putS M st (numB (u64N x.node))) (numB (zig x.num))) [if x.dead then 1 else 0]
 have b4 := putS_len M (putS M (putS M (putS M st (numB (u64N x.node))) (numB (zig x.num))) [if x.dead then 1 else 0]) (numB x.data.length ++ x.data)
 have c1 := numB_ten (u64N_lt x.node)
 have c2 := numB_zig a1 a2
 have c3 := numB_ten a3
 have c4 : ([if x.dead then 1 else 0] : List Nat).length = 1 := rfl
 have c5 : (numB x.data.length ++ x.data).length = (numB x.data.length).length + x.data.length := List.length_append
 unfold wrVal
 refine ⟨?_, by omega⟩
 rw [putS_two (m := m) (M := M) (st := st) (by omega) hM, putS_two (m := m) (M := M) (st := putS M st (numB (u64N x.node))) (by omega) hM, putS_two (m := m) (M := M) (st := putS M (putS M st (numB (u64N x.node))) (numB (zig x.num))) (by omega) hM, putS_two (m := m) (M := M) (st := putS M (putS M (putS M st (numB (u64N x.node))) (numB (zig x.num))) [if x.dead then 1 else 0]) (by omega) hM]
theorem putS_is {m : Nat} {st : Option (List Nat)} {x : List Nat} (h : st.isSome = true) (hl : (st.getD []).length + x.length ≤ m) : (putS m st x).isSome = true := by
 cases st with
 | none => cases h
 | some bs =>
  simp only [Option.getD_some] at hl
  simp only [putS]
  rw [if_pos hl]
  rfl
theorem wrV_is {m : Nat} {st : Option (List Nat)} (f : Nat → Int) (hr : ∀ j, j < 8 → -9223372036854775808 ≤ f j ∧ f j ≤ 9223372036854775807) (hs : st.isSome = true) : ∀ n, n ≤ 8 → (st.getD []).length + 10 * n ≤ m → (wrV m st f n).isSome = true
 | 0, _, _ => hs
 | n + 1, h, hl => by
  have h1 := wrV_len m st f hr n (by omega)
  have h3 := numB_zig (hr n (by omega)).1 (hr n (by omega)).2
  simp only [wrV]
  exact putS_is (wrV_is f hr hs n (by omega) (by omega)) (by omega)
theorem wrL_is {m : Nat} : ∀ (st : Option (List Nat)) (l : List A), st.isSome = true → (∀ x ∈ l, (-9223372036854775808 ≤ x.num ∧ x.num ≤ 9223372036854775807) ∧ x.data.length < 18446744073709551616) → (st.getD []).length + vsum l ≤ m → (wrL m st l).isSome = true
 | _, [], hs, _, _ => hs
 | st, x :: l, hs, h, hl => by
  obtain ⟨⟨a1, a2⟩, a3⟩ := h x (by simp)
  have e2 : vsum (x :: l) = 31 + x.data.length + vsum l := by simp [vsum]
  obtain ⟨-, hn⟩ := wrVal_two (Nat.le_refl m) st x a1 a2 a3 (by omega)
  show (wrL m (wrVal m st x) l).isSome = true
  refine wrL_is _ l ?_ (fun y hy => h y (by simp [hy])) (by omega)
  have b1 := putS_len m st (numB (u64N x.node))
  have b2 := putS_len m (putS m st (numB (u64N x.node))) (numB (zig x.num))
  have b3 := putS_len m (putS m (putS m st (numB (u64N x.node))) (numB (zig x.num))) [if x.dead then 1 else 0]
  have c1 := numB_ten (u64N_lt x.node)
  have c2 := numB_zig a1 a2
  have c3 := numB_ten a3
  have c4 : ([if x.dead then 1 else 0] : List Nat).length = 1 := rfl
  have c5 : (numB x.data.length ++ x.data).length = (numB x.data.length).length + x.data.length := List.length_append
  unfold wrVal
  exact putS_is (putS_is (putS_is (putS_is hs (by omega)) (by omega)) (by omega)) (by omega)
theorem wrE_is (key : ByteArray) (f : Nat → Int) (hr : ∀ j, j < 8 → -9223372036854775808 ≤ f j ∧ f j ≤ 9223372036854775807) (l : List V) (hv : ∀ v ∈ l, (-9223372036854775808 ≤ v.num ∧ v.num ≤ 9223372036854775807) ∧ v.data.length ≤ 140737488351232) (hl : l.length < 18446744073709551616) {m : Nat} (hB : 120 + key.size + vsum (cont l) ≤ m) (hk : key.size ≤ 140737488351232) : (wrE m (some []) key f (cont l)).isSome = true := by
 have h5 : (keyL key).length = key.size := keyL_len key
 have h6 := numB_ten (n := (keyL key).length) (by omega)
 have h7 := numB_ten (n := (cont l).length) (by rw [cont_len]; exact hl)
 have h8 : ((some ([] : List Nat)).getD []).length = 0 := rfl
 have h9 : (numB (keyL key).length ++ keyL key).length = (numB (keyL key).length).length + (keyL key).length := List.length_append
 have b1 := putS_len m (some []) (numB (keyL key).length ++ keyL key)
 have b2 := wrV_len m (putS m (some []) (numB (keyL key).length ++ keyL key)) f hr 8 (by omega)
 have b3 := putS_len m (wrV m (putS m (some []) (numB (keyL key).length ++ keyL key)) f 8) (numB (cont l).length)
 unfold wrE wrS
 refine wrL_is _ _ (putS_is (wrV_is f hr (putS_is rfl (by omega)) 8 (by omega) (by omega)) (by omega)) (fun y hy => ?_) (by omega)
 simp only [cont, List.mem_map] at hy
 obtain ⟨v, hv', rfl⟩ := hy
 have := hv v hv'
 exact ⟨this.1, by show v.data.length < _; omega⟩
end Go.Proofs.Ytpnnpdfmoldiiab

namespace Go.Proofs.Ytpnnpdfmoldiiab
set_option maxRecDepth 100000
open Go.RowKit
theorem putS_grow {m : Nat} {st : Option (List Nat)} {x : List Nat} (h : (putS m st x).isSome = true) : st.isSome = true ∧ (st.getD []).length + x.length ≤ ((putS m st x).getD []).length := by
 cases st with
 | none => cases h
 | some bs =>
  simp only [putS] at h ⊢
  split at h
  ·rename_i hc
   rw [if_pos hc]
   simp
  ·cases h
theorem wrV_grow {m : Nat} {st : Option (List Nat)} {f : Nat → Int} : ∀ {n : Nat}, (wrV m st f n).isSome = true → st.isSome = true ∧ (st.getD []).length ≤ ((wrV m st f n).getD []).length
 | 0, h => ⟨h, Nat.le_refl _⟩
 | n + 1, h => by
  simp only [wrV] at h ⊢
  obtain ⟨h1, h2⟩ := putS_grow h
  obtain ⟨h3, h4⟩ := wrV_grow h1
  exact ⟨h3, by omega⟩
theorem wrL_grow {m : Nat} : ∀ {st : Option (List Nat)} {l : List A}, (wrL m st l).isSome = true → st.isSome = true ∧ (st.getD []).length ≤ ((wrL m st l).getD []).length
 | _, [], h => ⟨h, Nat.le_refl _⟩
 | st, x :: l, h => by
  obtain ⟨h1, h2⟩ := wrL_grow (st := wrVal m st x) (l := l) h
  have e : wrL m st (x :: l) = wrL m (wrVal m st x) l := rfl
  rw [e]
  unfold wrVal at h1
  obtain ⟨a1, b1⟩ := putS_grow h1
  obtain ⟨a2, b2⟩ := putS_grow a1
  obtain ⟨a3, b3⟩ := putS_grow a2
  obtain ⟨a4, b4⟩ := putS_grow a3
  have e3 : wrVal m st x = putS m (putS m (putS m (putS m st (numB (u64N x.node))) (numB (zig x.num))) [if x.dead then 1 else 0]) (numB x.data.length ++ x.data) := rfl
  rw [← e3] at b1
  exact ⟨a4, by omega⟩
theorem sizE_pos (x : E) (hO : OkN x) (hv : ∀ v ∈ x.l, (-9223372036854775808 ≤ v.num ∧ v.num ≤ 9223372036854775807) ∧ v.data.length ≤ 140737488351232) : 0 < sizE x.key x.f (cont x.l) := by
 have h := wrE_is x.key x.f hO.rng x.l hv (by have := hO.few; omega) (m := 9223372036854775807) (by have := hO.sum; omega) hO.key
 unfold sizE
 unfold wrE wrS at h ⊢
 obtain ⟨h1, h2⟩ := wrL_grow h
 obtain ⟨h3, h4⟩ := putS_grow h1
 obtain ⟨h5, h6⟩ := wrV_grow h3
 obtain ⟨-, h8⟩ := putS_grow h5
 have h9 := numB_pos (keyL x.key).length
 rw [List.length_append] at h8
 omega
end Go.Proofs.Ytpnnpdfmoldiiab

namespace Go.Proofs.Ytpnnpdfmoldiiab
set_option maxRecDepth 100000
open Go.RowKit
theorem ens_row {w : World} {a : Option Addr} {cap : Nat} {es : List E} (h : Ens w a cap es) {x : E} (hx : x ∈ es) : Row w x.a x.cap x.l := by
 obtain ⟨i, hi⟩ := List.getElem?_of_mem hx
 obtain ⟨_, _, _, _, r⟩ := h.at_ i x hi
 exact r
theorem siz_rows {os xs : List E} (h : absE os = absE xs) {b : Nat} (ok : ∀ x ∈ xs, sizE x.key x.f (cont x.l) ≤ b) : ∀ e ∈ os, sizE e.key e.f (cont e.l) ≤ b := fun e he => by
 have : e.abs ∈ absE xs := by rw [← h]; exact List.mem_map.2 ⟨e, he, rfl⟩
 obtain ⟨x, hx, ex⟩ := List.mem_map.1 this
 have k1 : x.key = e.key := congrArg K.key ex
 have k2 : x.f = e.f := congrArg K.f ex
 have k3 : cont x.l = cont e.l := congrArg K.l ex
 rw [← k1, ← k2, ← k3]
 exact ok x hx
set_option maxHeartbeats 4000000 in
theorem part_walk (a : Option Addr) (cap : Nat) (es : List E) (tg : Option Addr) (cg : Nat) (gs : List G) (most : Int) (w : World) (hE : Ens w a cap es) (hR : ∀ e ∈ es, (∀ j, j < 8 → -9223372036854775808 ≤ e.f j ∧ e.f j ≤ 9223372036854775807) ∧ ∀ v ∈ e.l, v.data.length ≤ 1048576) (hG : Dgs w tg cg gs) (hm : -9223372036854775808 ≤ most ∧ most ≤ 9223372036854775807) :
  Calls Try.prog 3 #[.slice a es.length cap, .slice tg gs.length cg, .int .i64 most] w fun e w' => e = .returned (.bool true) ∧ Off (fun _ => False) w w' := by
 have HE : Hid _ := hE
 have HG : Hid _ := hG
 have HR : Hid _ := hR
 have hnot := not_any
 clear hE hG hR
 go_enter Try.func3, Try.ntmps3
 go_wp2_with fail
 refine (light_any a cap es _ HE.out).mono ?_
 rintro e w1 ⟨rfl, o1⟩
 have H1 : Hid _ := o1
 clear o1
 cases hlt : light13 es
 ·go_wp2_with fail
  refine (awake_any _).mono ?_
  rintro e ua ⟨rfl, oa⟩
  go_wp2_with fail
  go_ret
  exact ⟨rfl, H1.out.trans oa (fun _ _ h => h)⟩
 have HLT : Hid _ := light13_iff.1 hlt
 have hel : es.length ≤ 40 := HLT.out.1
 clear hlt
 go_wp2_with fail
 refine (thin_any tg cg gs _ (HG.out.off H1.out)).mono ?_
 rintro e w3 ⟨rfl, o2⟩
 have H3 : Hid _ := H1.out.trans o2 (fun _ _ h => h)
 clear o2
 cases htn : thinG gs
 ·go_wp2_with fail
  refine (awake_any _).mono ?_
  rintro e ua ⟨rfl, oa⟩
  go_wp2_with fail
  go_ret
  exact ⟨rfl, H3.out.trans oa (fun _ _ h => h)⟩
 have HTN : Hid _ := thin_iff.1 htn
 clear htn
 have HU : Hid (∀ x ∈ es, OkU x) := fun x hx => by
  have hr := ens_row HE.out hx
  exact ⟨(HLT.out.2 x hx).1, (HLT.out.2 x hx).2, (HR.out x hx).1, fun v hv => ⟨(hr.ok v hv).m0, (hr.ok v hv).m1⟩, (HR.out x hx).2⟩
 have HOKN : Hid (∀ x ∈ es, OkN x) := fun x hx => (HU.out x hx).okN
 have HPF : Hid _ := prt_facts gs most HU.out hel (fun x hx => sizE_pos x (HOKN.out x hx) (fun v hv => ⟨(HU.out x hx).num v hv, by have := (HU.out x hx).dat v hv; omega⟩))
 go_wp2_with fail
 refine (send_any a tg cap cg es gs 1099511627776 (by omega) _ (HE.out.off H3.out) (HG.out.off H3.out) (by have := HTN.out.1; omega) (by omega) HOKN.out).mono ?_
 rintro e v1 ⟨t1, c1, os1, rfl, hos1, own1, rows1, -, o1⟩
 have HA1 : Hid (absE os1 = absE (es.filter (lackK gs))) := by show _ = _; rw [hos1, HPF.out.all]
 have HE1a : Hid (Ens v1 t1 c1 os1) := own1.ens (fun e he => (rows1 e he).1)
 have HO1 : Hid _ := H3.out.trans o1 (fun _ _ h => h)
 clear hos1 own1 rows1 o1
 go_wp2_with fail
 refine (send_any a tg cap cg es gs most (by omega) _ (HE.out.off HO1.out) (HG.out.off HO1.out) (by have := HTN.out.1; omega) (by omega) HOKN.out).mono ?_
 rintro e v2 ⟨t2, c2, os2, rfl, hos2, own2, rows2, -, o2⟩
 have HPO : Hid (PrtO most os1 os2) := prt_rows HPF.out HA1.out hos2
 have HE1 : Hid (Ens v2 t1 c1 os1) := HE1a.out.off o2
 have HE2 : Hid (Ens v2 t2 c2 os2) := own2.ens (fun e he => (rows2 e he).1)
 have HO2 : Hid _ := HO1.out.trans o2 (fun _ _ h => h)
 have HN1 : Hid (∀ e ∈ os1, OkN e) := okN_rows HA1.out (fun x hx => HOKN.out x (List.mem_filter.1 hx).1)
 have HN2 : Hid (∀ e ∈ os2, OkN e) := okN_rows hos2 (fun x hx => HOKN.out x ((sndF_sub gs es _ _).subset hx))
 have HSZ1 : Hid (∀ e ∈ os1, sizE e.key e.f (cont e.l) ≤ 20973000) := siz_rows HA1.out (fun x hx => (HU.out x (List.mem_filter.1 hx).1).siz)
 have hl1 : os1.length ≤ 40 := by
  have h := congrArg List.length HA1.out
  rw [absE_len, absE_len] at h
  have h2 := List.length_filter_le (lackK gs) es
  omega
 have hle := HPO.out.le
 have HL2 : Hid (os2.length ≤ 1000) := by show _ ≤ _; omega
 clear hos2 own2 rows2 o2 HPF HOKN HU HR HE1a
 go_upto_region 4 with fail
 go_cut [51] from 28 to 51 (fun b wc => b = .bool false ∧ Off (fun _ => False) v2 wc)
 case first =>
  have hsl := (HE1.out.slh HPO.out.le).1
  have HLT : Hid ((os1.take os2.length).length = os2.length) := by
   have := HPO.out.le
   show _ = _
   simp
   omega
  rw [HLT.out] at hsl
  have hg1 : decide ((os2.length : Int) > (os1.length : Int)) = false := decide_eq_false (by omega)
  have hg2 : decide ((os1.length : Int) < (os2.length : Int)) = false := decide_eq_false (by omega)
  have hg3 : decide (os1.length < os2.length) = false := decide_eq_false (by omega)
  have HSE : Hid _ := sameents_any t2 t1 c2 c1 os2 (os1.take os2.length) v2 HE2.out (HE1.out.slh HPO.out.le).2 HPO.out.take HL2.out
  rw [HLT.out] at HSE
  by_cases h0 : os1.length = 0
  ·have z1 : decide ((os1.length : Int) > 0) = false := decide_eq_false (by omega)
   have z2 : decide ((0 : Int) < (os1.length : Int)) = false := decide_eq_false (by omega)
   have z3 : decide (0 < os1.length) = false := decide_eq_false (by omega)
   clear h0
   go_wp2_with fail
   refine Calls.mono HSE.out ?_
   rintro e w5 ⟨rfl, o5⟩
   go_wp2_with fail
   go_meet
   case rel => exact ⟨rfl, o5⟩
  ·have hp : os2.length ≠ 0 := HPO.out.pos h0
   have z1 : decide ((os1.length : Int) > 0) = true := decide_eq_true (by omega)
   have z2 : decide ((0 : Int) < (os1.length : Int)) = true := decide_eq_true (by omega)
   have z3 : decide (0 < os1.length) = true := decide_eq_true (by omega)
   have z4 : ((os2.length : Int) == 0) = false := beq_eq_false_iff_ne.2 (by omega)
   have z5 : decide ((os2.length : Int) = 0) = false := decide_eq_false (by omega)
   have z6 : decide (os2.length = 0) = false := decide_eq_false (by omega)
   go_wp2_with fail
   refine Calls.mono HSE.out ?_
   rintro e w5 ⟨rfl, o5⟩
   go_wp2_with fail
   go_meet
   case rel => exact ⟨rfl, o5⟩
 case rest =>
  obtain ⟨rfl, o3⟩ := hcut
  have HP3 : Hid _ := o3
  clear o3
  go_wp2_with fail
  go_loopw [9, 54] (fun s9 y wr => ∃ n : Nat, s9 = .int .i64 (sumE (os2.take n) : Nat) ∧ y = .int .i64 (n : Int) ∧ n ≤ os2.length ∧ Off (fun _ => False) v2 wr) (fun _ y _ => (os2.length - intOf y).toNat)
  case atStart => exact ⟨0, rfl, rfl, by omega, HP3.out⟩
  case round =>
   obtain ⟨n, rfl, rfl, hn, O⟩ := hrel
   have HP : Hid _ := O
   have hsn : sumE (os2.take n) ≤ 840000000 := Nat.le_trans (sumE_take_le _ _) HPO.out.sum
   clear O HP3
   by_cases hlt2 : n < os2.length
   ·have e1 : decide ((n : Int) < (os2.length : Int)) = true := decide_eq_true (by omega)
    have e2 : decide (n < os2.length) = true := decide_eq_true hlt2
    obtain ⟨x, hx⟩ : ∃ x, os2[n]? = some x := ⟨_, List.getElem?_eq_getElem hlt2⟩
    obtain ⟨bx, ox, rfl, kx, rx⟩ := (HE2.out.off HP.out).at_ n x hx
    obtain ⟨k0, k1, k2, k3, k4, k5, k6, k7, k8, k9⟩ := ent10 kx
    have hix := idx_ents hlt2
    clear kx
    have HSN : Hid (sumE (os2.take (n + 1)) = _) := sumE_take hx
    have hs1 : sumE (os2.take (n + 1)) ≤ 840000000 := Nat.le_trans (sumE_take_le _ _) HPO.out.sum
    rw [HSN.out] at hs1
    have HON : Hid _ := HN2.out x (List.mem_of_getElem? hx)
    clear hx
    go_upto_region 10 with fail
    have C10 := Cel.new wr 35 #[.string x.key, .int .i64 (x.f 0), .int .i64 (x.f 1), .int .i64 (x.f 2), .int .i64 (x.f 3), .int .i64 (x.f 4), .int .i64 (x.f 5), .int .i64 (x.f 6), .int .i64 (x.f 7), .slice x.a x.l.length x.cap]
    have OA : Off (fun _ => False) wr (wr.alloc (.cells #[.string x.key, .int .i64 (x.f 0), .int .i64 (x.f 1), .int .i64 (x.f 2), .int .i64 (x.f 3), .int .i64 (x.f 4), .int .i64 (x.f 5), .int .i64 (x.f 6), .int .i64 (x.f 7), .slice x.a x.l.length x.cap] 35)) := (Off.refl _ wr).alloc _
    generalize hq : wr.heap.size = q10 at C10 ⊢
    generalize hv : wr.alloc (.cells #[.string x.key, .int .i64 (x.f 0), .int .i64 (x.f 1), .int .i64 (x.f 2), .int .i64 (x.f 3), .int .i64 (x.f 4), .int .i64 (x.f 5), .int .i64 (x.f 6), .int .i64 (x.f 7), .slice x.a x.l.length x.cap] 35) = V5 at C10 OA ⊢
    clear hq hv k0 k1 k2 k3 k4 k5 k6 k7 k8 k9 hix
    have HP5 : Hid _ := HP.out.trans OA (fun _ _ h => h)
    have HRX5 : Hid _ := rx.off OA
    obtain ⟨y0, y1, y2, y3, y4, y5, y6, y7, y8, y9⟩ := cel10 C10
    clear OA rx C10
    generalize hsm : sumE (os2.take n) = sm at *
    generalize hsz : sizE x.key x.f (cont x.l) = sz at *
    have HSZ : Hid _ := hsz
    clear hsm hsz
    go_wp2_with fail
    clear y0 y1 y2 y3 y4 y5 y6 y7 y8 y9
    have hc9 := size_any x.key HON.out.key x.f HON.out.rng x.a x.cap x.l _ HRX5.out HON.out.sum
    rw [HSZ.out] at hc9
    refine hc9.mono ?_
    rintro e w6 ⟨rfl, o6⟩
    have HP6 : Hid _ := HP5.out.trans o6 (fun _ _ h => h)
    clear o6 hc9
    go_wp2_with fail
    go_roundw
    case rel => exact ⟨n + 1, by rw [HSN.out]; go_num, by go_num, by omega, HP6.out⟩
    case measure => simp [intOf]; omega
   ·obtain rfl : n = os2.length := by omega
    rw [List.take_length] at hsn ⊢
    have e1 : decide ((os2.length : Int) < (os2.length : Int)) = false := decide_eq_false (by omega)
    have e2 : decide (os2.length < os2.length) = false := decide_eq_false (by omega)
    go_upto_region 12 with fail
    by_cases h1 : os2.length ≤ 1
    ·have p1 : decide ((os2.length : Int) ≤ 1) = true := decide_eq_true (by omega)
     have p2 : decide (os2.length ≤ 1) = true := decide_eq_true (by omega)
     by_cases h2 : os2.length = os1.length
     ·have q1 : ((os2.length : Int) == (os1.length : Int)) = true := by simp [h2]
      have q2 : decide ((os2.length : Int) = (os1.length : Int)) = true := decide_eq_true (by omega)
      have q3 : (os2.length == os1.length) = true := by simp [h2]
      have q4 : decide (os2.length = os1.length) = true := decide_eq_true h2
      clear h2
      have HZ : Hid _ := HO2.out.trans HP.out (fun _ _ h => h)
      go_wp2_with fail
      refine (awake_any _).mono ?_
      rintro e ua ⟨rfl, oa⟩
      go_wp2_with fail
      go_ret
      exact ⟨rfl, HZ.out.trans oa (fun _ _ h => h)⟩
     ·have q1 : ((os2.length : Int) == (os1.length : Int)) = false := beq_eq_false_iff_ne.2 (by omega)
      have q2 : decide ((os2.length : Int) = (os1.length : Int)) = false := decide_eq_false (by omega)
      have q3 : (os2.length == os1.length) = false := beq_eq_false_iff_ne.2 h2
      have q4 : decide (os2.length = os1.length) = false := decide_eq_false h2
      obtain ⟨y, hy, hfit⟩ := HPO.out.next.resolve_left h2
      have hlt9 : os2.length < os1.length := by have := HPO.out.le; omega
      have hix := idx_ents hlt9
      obtain ⟨bx, ox, rfl, kx, rx⟩ := (HE1.out.off HP.out).at_ os2.length y hy
      obtain ⟨k0, k1, k2, k3, k4, k5, k6, k7, k8, k9⟩ := ent10 kx
      have HON : Hid _ := HN1.out y (List.mem_of_getElem? hy)
      have HRX : Hid _ := rx
      have hsz : sizE y.key y.f (cont y.l) ≤ 20973000 := HSZ1.out y (List.mem_of_getElem? hy)
      clear kx rx hy h2
      generalize hss : sizE y.key y.f (cont y.l) = sz at *
      have HSS : Hid _ := hss
      clear hss
      generalize hsm : sumE os2 = sm at *
      have q5 : decide ((sm : Int) + (sz : Int) > most) = true := decide_eq_true (by omega)
      have q6 : decide (most < (sm : Int) + (sz : Int)) = true := decide_eq_true (by omega)
      go_wp2_with fail
      clear k0 k1 k2 k3 k4 k5 k6 k7 k8 k9 hix
      have hc9 := size_any y.key HON.out.key y.f HON.out.rng y.a y.cap y.l _ HRX.out HON.out.sum
      rw [HSS.out] at hc9
      refine hc9.mono ?_
      rintro e w6 ⟨rfl, o6⟩
      have HP6 : Hid _ := HP.out.trans o6 (fun _ _ h => h)
      clear o6 hc9
      have HZ : Hid _ := HO2.out.trans HP6.out (fun _ _ h => h)
      go_wp2_with fail
      refine (awake_any _).mono ?_
      rintro e ua ⟨rfl, oa⟩
      go_wp2_with fail
      go_ret
      exact ⟨rfl, HZ.out.trans oa (fun _ _ h => h)⟩
    ·have p1 : decide ((os2.length : Int) ≤ 1) = false := decide_eq_false (by omega)
     have p2 : decide (os2.length ≤ 1) = false := decide_eq_false (by omega)
     have p3 : decide ((sumE os2 : Int) ≤ most) = true := decide_eq_true (HPO.out.fit.resolve_left h1)
     by_cases h2 : os2.length = os1.length
     ·have q1 : ((os2.length : Int) == (os1.length : Int)) = true := by simp [h2]
      have q2 : decide ((os2.length : Int) = (os1.length : Int)) = true := decide_eq_true (by omega)
      have q3 : (os2.length == os1.length) = true := by simp [h2]
      have q4 : decide (os2.length = os1.length) = true := decide_eq_true h2
      clear h2
      have HZ : Hid _ := HO2.out.trans HP.out (fun _ _ h => h)
      go_wp2_with fail
      refine (awake_any _).mono ?_
      rintro e ua ⟨rfl, oa⟩
      go_wp2_with fail
      go_ret
      exact ⟨rfl, HZ.out.trans oa (fun _ _ h => h)⟩
     ·have q1 : ((os2.length : Int) == (os1.length : Int)) = false := beq_eq_false_iff_ne.2 (by omega)
      have q2 : decide ((os2.length : Int) = (os1.length : Int)) = false := decide_eq_false (by omega)
      have q3 : (os2.length == os1.length) = false := beq_eq_false_iff_ne.2 h2
      have q4 : decide (os2.length = os1.length) = false := decide_eq_false h2
      obtain ⟨y, hy, hfit⟩ := HPO.out.next.resolve_left h2
      have hlt9 : os2.length < os1.length := by have := HPO.out.le; omega
      have hix := idx_ents hlt9
      obtain ⟨bx, ox, rfl, kx, rx⟩ := (HE1.out.off HP.out).at_ os2.length y hy
      obtain ⟨k0, k1, k2, k3, k4, k5, k6, k7, k8, k9⟩ := ent10 kx
      have HON : Hid _ := HN1.out y (List.mem_of_getElem? hy)
      have HRX : Hid _ := rx
      have hsz : sizE y.key y.f (cont y.l) ≤ 20973000 := HSZ1.out y (List.mem_of_getElem? hy)
      clear kx rx hy h2
      generalize hss : sizE y.key y.f (cont y.l) = sz at *
      have HSS : Hid _ := hss
      clear hss
      generalize hsm : sumE os2 = sm at *
      have q5 : decide ((sm : Int) + (sz : Int) > most) = true := decide_eq_true (by omega)
      have q6 : decide (most < (sm : Int) + (sz : Int)) = true := decide_eq_true (by omega)
      go_wp2_with fail
      clear k0 k1 k2 k3 k4 k5 k6 k7 k8 k9 hix
      have hc9 := size_any y.key HON.out.key y.f HON.out.rng y.a y.cap y.l _ HRX.out HON.out.sum
      rw [HSS.out] at hc9
      refine hc9.mono ?_
      rintro e w6 ⟨rfl, o6⟩
      have HP6 : Hid _ := HP.out.trans o6 (fun _ _ h => h)
      clear o6 hc9
      have HZ : Hid _ := HO2.out.trans HP6.out (fun _ _ h => h)
      go_wp2_with fail
      refine (awake_any _).mono ?_
      rintro e ua ⟨rfl, oa⟩
      go_wp2_with fail
      go_ret
      exact ⟨rfl, HZ.out.trans oa (fun _ _ h => h)⟩
end Go.Proofs.Ytpnnpdfmoldiiab
