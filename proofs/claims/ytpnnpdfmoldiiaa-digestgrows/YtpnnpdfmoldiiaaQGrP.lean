/- Items of several texts. -/
import Derived.Test.YtpnnpdfmoldiiaaQJns
import Derived.Test.YtpnnpdfmoldiiaaQTbs
import Derived.Test.YtpnnpdfmoldiiaaQExP
namespace Go.Proofs.Ytpnnpdfmoldiiaa
section
variable {α : Type} {P : α → Prop} {op : α → α → α}
end
theorem len_sub {l u : List A} (h : l.Nodup) (hs : ∀ a ∈ l, a ∈ u) : l.length ≤ u.length := by
 haveI : DecidableEq A := A.dec
 induction l generalizing u with
 | nil => simp
 | cons a l ih =>
  obtain ⟨h1, h2⟩ := List.nodup_cons.1 h
  have ha := hs a (List.mem_cons_self ..)
  have h3 := ih (u := u.erase a) h2 (fun b hb => by
   have hne : b ≠ a := fun e => h1 (e ▸ hb)
   exact (List.mem_erase_of_ne hne).2 (hs b (List.mem_cons_of_mem _ hb)))
  rw [List.length_erase_of_mem ha] at h3
  have h4 : 0 < u.length := List.length_pos_of_mem ha
  simp only [List.length_cons]
  omega
theorem srt_nodup {l : List A} (h : Srt l) : l.Nodup := by
 refine List.Pairwise.imp (fun {a b} hab => ?_) h
 intro e
 subst e
 exact LT.irr a hab
theorem join_u {U : List A} (hU : U.length ≤ 16) {f g : Nat → Int} {l k : List A} (h1 : MayP f l) (h2 : MayP g k) (u1 : ∀ a ∈ l, a ∈ U) (u2 : ∀ a ∈ k, a ∈ U) :
  joinV f g l k = maxV f g ∧ (∀ a ∈ joinL f g l k, a ∈ U) ∧ ∀ d, st (joinV f g l k) (joinL f g l k) d = joinSt (st f l d) (st g k d) := by
 have e1 := may_yes h1
 have e2 := may_yes h2
 have hv : joinV f g l k = maxV f g := by simp [joinV, e1, e2]
 have hm : ∀ a ∈ mergeA (nc g) (nc f) l k, a ∈ U := fun a ha => by
  rcases inM_mem ((mem_merge (nc g) (nc f) l k (may_srt h1) (may_srt h2) a).1 ha) with h | h
  ·exact u1 a h
  ·exact u2 a h
 have hlen : (mergeA (nc g) (nc f) l k).length ≤ 16 := Nat.le_trans (len_sub (srt_nodup (srt_merge _ _ l k (may_srt h1) (may_srt h2))) hm) hU
 have hl : joinL f g l k = mergeA (nc g) (nc f) l k := by
  simp only [joinL, e1, e2, and_self, if_true]
  exact List.take_of_length_le hlen
 rw [hv, hl]
 exact ⟨rfl, hm, st_join h1 h2⟩
def kjo (X : List K) (v : K) : List K := (joinR X v.key v.f v.l).x
def okv (v : K) : Bool := keyB v.key && mayS v.f v.l
theorem okv_may {v : K} (h : okv v = true) : keyB v.key = true ∧ MayP v.f v.l := by
 unfold okv at h
 rw [Bool.and_eq_true] at h
 exact ⟨h.1, may_iff.1 h.2⟩
theorem getK_key {X : List K} {k : ByteArray} : (getK X k).key = k := by
 unfold getK
 cases e : fndG K.key k X with
 | none => rfl
 | some x => exact (fnd_mem K.key e).2
theorem kjo_put {X : List K} {v : K} (hv : okv v = true) (hn : X.length < 256) : kjo X v = putG K.key ⟨v.key, joinV (getK X v.key).f v.f (getK X v.key).l v.l, joinL (getK X v.key).f v.f (getK X v.key).l v.l⟩ X := by
 unfold kjo
 cases hf : fndG K.key v.key X with
 | none =>
  have e : getK X v.key = ⟨v.key, zer, []⟩ := by unfold getK; rw [hf]; rfl
  rw [joinR_new hv hf (by omega), e]
 | some u =>
  have e : getK X v.key = u := by unfold getK; rw [hf]; rfl
  rw [joinR_old hv hf, e]
end Go.Proofs.Ytpnnpdfmoldiiaa

namespace Go.Proofs.Ytpnnpdfmoldiiaa
open Go.RowKit
def Nrm (f : Nat → Int) : Prop := ∀ j, 8 ≤ j → f j = 0
theorem nrm_zer : Nrm zer := fun _ _ => rfl
theorem nrm_max {f g : Nat → Int} (h : Nrm f) (k : Nrm g) : Nrm (maxV f g) := fun j hj => by simp [maxV, h j hj, k j hj]
theorem nrm_join {f g : Nat → Int} {l k : List A} (h1 : Nrm f) (h2 : Nrm g) : Nrm (joinV f g l k) := by
 unfold joinV
 split
 ·exact nrm_max h1 h2
 ·exact nrm_zer
theorem nrm_ext {f g : Nat → Int} (h : Nrm f) (k : Nrm g) (e : ∀ j, j < 8 → f j = g j) : f = g := funext fun j => by
 by_cases hj : j < 8
 ·exact e j hj
 ·rw [h j (by omega), k j (by omega)]
structure Dat (U : List A) (f : Nat → Int) (l : List A) : Prop where
 may : MayP f l
 nrm : Nrm f
 inU : ∀ a ∈ l, a ∈ U
theorem dat_zer (U : List A) : Dat U zer [] := ⟨may_zer, nrm_zer, fun a h => by simp at h⟩
section
variable {U : List A} (hU : U.length ≤ 16) {f g : Nat → Int} {l k : List A}
include hU
theorem dat_join (h1 : Dat U f l) (h2 : Dat U g k) : Dat U (joinV f g l k) (joinL f g l k) :=
 ⟨join_ok h1.may h2.may, nrm_join h1.nrm h2.nrm, (join_u hU h1.may h2.may h1.inU h2.inU).2.1⟩
theorem dat_st (h1 : Dat U f l) (h2 : Dat U g k) (d : Int × Int) : st (joinV f g l k) (joinL f g l k) d = joinSt (st f l d) (st g k d) := (join_u hU h1.may h2.may h1.inU h2.inU).2.2 d
theorem dat_ext {f' g' : Nat → Int} {l' k' : List A} (h1 : MayP f' l') (h2 : MayP g' k') (h : ∀ d, st f' l' d = st g' k' d) : l' = k' := by
 have := hU
 exact st_ext (may_srt h1) (may_srt h2) h
theorem dat_comm (h1 : Dat U f l) (h2 : Dat U g k) : joinV f g l k = joinV g f k l ∧ joinL f g l k = joinL g f k l := by
 refine ⟨?_, dat_ext hU (dat_join hU h1 h2).may (dat_join hU h2 h1).may (fun d => ?_)⟩
 ·rw [(join_u hU h1.may h2.may h1.inU h2.inU).1, (join_u hU h2.may h1.may h2.inU h1.inU).1]
  funext j
  exact Int.max_comm _ _
 ·rw [dat_st hU h1 h2, dat_st hU h2 h1]
  exact join_comm (st_of (may_srt h1.may) d) (st_of (may_srt h2.may) d)
theorem dat_zero (h1 : Dat U f l) : joinV f zer l [] = f ∧ joinL f zer l [] = l := by
 have hz := dat_zer U
 refine ⟨?_, dat_ext hU (dat_join hU h1 hz).may h1.may (fun d => ?_)⟩
 ·rw [(join_u hU h1.may hz.may h1.inU hz.inU).1]
  refine nrm_ext (nrm_max h1.nrm nrm_zer) h1.nrm (fun j hj => ?_)
  have := (h1.may.seen j hj).1
  show max (f j) 0 = f j
  omega
 ·rw [dat_st hU h1 hz]
  have e : st zer [] d = none := by
   unfold st
   have : coversB zer d.1 d.2 = false := by
    unfold coversB zer
    exact decide_eq_false (fun h => by omega)
   simp [this]
  rw [e]
  cases st f l d with
  | none => rfl
  | some s => cases s <;> rfl
theorem dat_lack {key : ByteArray} (h1 : Dat U f l) (h2 : Dat U g k) (ha : Agr l k) (hl : lacksB key f l (digO key g k) = false) : joinV g f k l = g ∧ joinL g f k l = k := by
 obtain ⟨a1, a2⟩ := (lacks_no h2.may).1 hl
 have hm := (merge_under h1.may h2.may ha a1).2 a2
 have e1 := may_yes h1.may
 have e2 := may_yes h2.may
 have c := dat_comm hU h1 h2
 rw [← c.1, ← c.2]
 refine ⟨?_, ?_⟩
 ·rw [(join_u hU h1.may h2.may h1.inU h2.inU).1]
  refine nrm_ext (nrm_max h1.nrm h2.nrm) h2.nrm (fun j hj => ?_)
  have := a1 j hj
  show max (f j) (g j) = g j
  omega
 ·simp only [joinL, e1, e2, and_self, if_true]
  rw [hm]
  exact take_may h2.may
theorem dat_again (h1 : Dat U f l) (h2 : Dat U g k) : joinV f (joinV g f k l) l (joinL g f k l) = joinV g f k l ∧ joinL f (joinV g f k l) l (joinL g f k l) = joinL g f k l := by
 have h3 := dat_join hU h2 h1
 refine ⟨?_, dat_ext hU (dat_join hU h1 h3).may h3.may (fun d => ?_)⟩
 ·rw [(join_u hU h1.may h3.may h1.inU h3.inU).1, (join_u hU h2.may h1.may h2.inU h1.inU).1]
  funext j
  show max (f j) (max (g j) (f j)) = max (g j) (f j)
  omega
 ·rw [dat_st hU h1 h3, dat_st hU h2 h1]
  have o1 := st_of (f := f) (may_srt h1.may) d
  have o2 := st_of (f := g) (may_srt h2.may) d
  rw [join_comm o2 o1, ← join_assoc o1 o1 o2, join_idem]
theorem dat_back {key : ByteArray} (h1 : Dat U f l) (h2 : Dat U g k) (ha : Agr l k) (hl : lacksB key (joinV g f k l) (joinL g f k l) (digO key f l) = false) : joinV g f k l = f ∧ joinL g f k l = l := by
 have h3 := dat_join hU h2 h1
 have hst : ∀ d, st (joinV g f k l) (joinL g f k l) d = joinSt (st g k d) (st f l d) := dat_st hU h2 h1
 have hag : Agr (joinL g f k l) l := ⟨fun u hu v hv e => by
  have s1 : st (joinV g f k l) (joinL g f k l) (v.node, v.num) = some (some u) := (st_val (may_srt h3.may)).2 ⟨hu, e.1, e.2⟩
  have s2 : st f l (v.node, v.num) = some (some v) := (st_val (may_srt h1.may)).2 ⟨hv, rfl, rfl⟩
  rw [hst, s2] at s1
  cases hg : st g k (v.node, v.num) with
  | none => rw [hg] at s1; simpa [joinSt] using s1.symm
  | some t =>
   cases t with
   | none => rw [hg] at s1; simp [joinSt] at s1
   | some t =>
    rw [hg] at s1
    simp only [joinSt, Option.some.injEq] at s1
    obtain ⟨ht, e1, e2⟩ := (st_val (may_srt h2.may)).1 hg
    have et : v = t := ha.one v hv t ht ⟨e1.symm, e2.symm⟩
    rcases first_or t v with h | h
    ·rw [← s1, h, et]
    ·rw [← s1, h]⟩
 have hq : lacksB key f l (digO key (joinV g f k l) (joinL g f k l)) = false := by
  refine (lacks_no h3.may).2 ⟨fun j hj => ?_, fun v hv hc => ?_⟩
  ·rw [(join_u hU h2.may h1.may h2.inU h1.inU).1]
   show f j ≤ max (g j) (f j)
   omega
  ·have s1 : st (joinV g f k l) (joinL g f k l) (v.node, v.num) = some (some v) := (st_val (may_srt h3.may)).2 ⟨hv, rfl, rfl⟩
   rw [hst] at s1
   cases hf : st f l (v.node, v.num) with
   | none =>
    exfalso
    unfold st at hf
    split at hf
    ·cases hf
    ·simp [hc] at hf
   | some t =>
    cases t with
    | none =>
     rw [hf] at s1
     cases hg : st g k (v.node, v.num) with
     | none => rw [hg] at s1; simp [joinSt] at s1
     | some t => cases t <;> (rw [hg] at s1; simp [joinSt] at s1)
    | some u =>
     obtain ⟨hu, e1, e2⟩ := (st_val (may_srt h1.may)).1 hf
     exact ⟨u, hu, e1, e2⟩
 have hs := exact_both h3.may h1.may hag hl hq
 rw [same_iff] at hs
 exact ⟨nrm_ext h3.nrm h1.nrm hs.1, hs.2⟩
end
def jD (x y : K) : K := ⟨x.key, joinV x.f y.f x.l y.l, joinL x.f y.f x.l y.l⟩
theorem K_ext {x y : K} (h1 : x.key = y.key) (h2 : x.f = y.f) (h3 : x.l = y.l) : x = y := by cases x; cases y; simp_all
theorem kjo_is {X : List K} {v : K} (hv : okv v = true) (hn : X.length < 256) : kjo X v = putG K.key (jD (getK X v.key) v) X := by
 rw [kjo_put hv hn]
 unfold jD
 rw [getK_key]
theorem fnd_kjo {X : List K} (hs : Sor K.key X) {v : K} (hv : okv v = true) (hn : X.length < 256) (k : ByteArray) : fndG K.key k (kjo X v) = if k = v.key then some (jD (getK X k) v) else fndG K.key k X := by
 rw [kjo_is hv hn]
 have hk : (jD (getK X v.key) v).key = v.key := getK_key
 split
 ·rename_i e
  subst e
  have := fnd_put_same K.key (x := jD (getK X v.key) v) hs
  rwa [hk] at this
 ·rename_i e
  exact fnd_put_other K.key hs (by rw [hk]; exact e)
theorem fnd_kjos : ∀ (S X : List K), Sor K.key X → Sor K.key S → (∀ s ∈ S, okv s = true) → X.length + S.length ≤ 256 → Sor K.key (S.foldl kjo X) ∧ (S.foldl kjo X).length ≤ X.length + S.length ∧ ∀ k, fndG K.key k (S.foldl kjo X) = match fndG K.key k S with
  | none => fndG K.key k X
  | some s => some (jD (getK X k) s)
 | [], X, hX, _, _, _ => ⟨hX, by simp, fun k => rfl⟩
 | s :: S, X, hX, hS, hok, hn => by
  have hs := hok s (by simp)
  simp only [List.length_cons] at hn
  have e1 := kjo_is (X := X) hs (by omega)
  have hX1 : Sor K.key (kjo X s) := by rw [e1]; exact sor_putG K.key hX
  have hl1 : (kjo X s).length ≤ X.length + 1 := by
   rw [e1, len_putG K.key hX]
   split <;> omega
  obtain ⟨q1, q2, q3⟩ := fnd_kjos S (kjo X s) hX1 (List.pairwise_cons.1 hS).2 (fun t ht => hok t (by simp [ht])) (by omega)
  refine ⟨q1, by simp only [List.foldl_cons, List.length_cons]; omega, fun k => ?_⟩
  rw [List.foldl_cons, q3 k]
  have hcons : fndG K.key k (s :: S) = if k = s.key then some s else fndG K.key k S := by
   unfold fndG
   rw [List.find?_cons]
   by_cases e : k = s.key
   ·rw [if_pos e, smk_iff.2 e.symm]
   ·rw [if_neg e, smk_no.2 (fun h => e h.symm)]
  rw [hcons]
  by_cases e : k = s.key
  ·have hno : fndG K.key k S = none := (fnd_none K.key).2 (fun t ht h => blt_ne ((List.pairwise_cons.1 hS).1 t ht) (by rw [h, e]))
   rw [if_pos e, hno, fnd_kjo hX hs (by omega), if_pos e]
  ·rw [if_neg e]
   have hg : getK (kjo X s) k = getK X k := by
    unfold getK
    rw [fnd_kjo hX hs (by omega), if_neg e]
   cases hf : fndG K.key k S with
   | none => rw [fnd_kjo hX hs (by omega), if_neg e]
   | some t => rw [hg]
def lkK (Y : List K) (v : K) : Bool := match fndG K.key v.key Y with
 | none => true
 | some y => lacksB v.key v.f v.l (digO v.key y.f y.l)
theorem fnd_filter {X : List K} (hs : Sor K.key X) (p : K → Bool) (k : ByteArray) : fndG K.key k (X.filter p) = (fndG K.key k X).filter p := by
 have hs2 : Sor K.key (X.filter p) := List.Pairwise.sublist List.filter_sublist hs
 cases h : fndG K.key k X with
 | none =>
  rw [Option.filter_none]
  refine (fnd_none K.key).2 (fun x hx => (fnd_none K.key).1 h x (List.mem_filter.1 hx).1)
 | some x =>
  obtain ⟨hx, hk⟩ := (fnd_some K.key hs).1 h
  by_cases hp : p x = true
  ·rw [Option.filter_some_pos hp]
   exact (fnd_some K.key hs2).2 ⟨List.mem_filter.2 ⟨hx, hp⟩, hk⟩
  ·rw [Option.filter_some_neg (by simpa using hp)]
   refine (fnd_none K.key).2 (fun y hy e => ?_)
   obtain ⟨h1, h2⟩ := List.mem_filter.1 hy
   have := sor_eq K.key hs h1 hx (by rw [e, hk])
   rw [this] at h2
   exact hp h2
structure Gd (U : List A) (X : List K) : Prop where
 sor : Sor K.key X
 ok : OkT X
 dat : ∀ x ∈ X, Dat U x.f x.l
theorem Gd.get {U : List A} {X : List K} (h : Gd U X) (k : ByteArray) : Dat U (getK X k).f (getK X k).l := by
 unfold getK
 cases e : fndG K.key k X with
 | none => exact dat_zer U
 | some x => exact h.dat x (fnd_mem K.key e).1
theorem Gd.okv {U : List A} {X : List K} (h : Gd U X) {x : K} (hx : x ∈ X) : okv x = true := by
 unfold Go.Proofs.Ytpnnpdfmoldiiaa.okv
 rw [h.ok.key x hx, may_yes (h.ok.may x hx)]
 rfl
theorem okv_of {x : K} (h1 : MayP x.f x.l) (h2 : keyB x.key = true) : okv x = true := by
 unfold Go.Proofs.Ytpnnpdfmoldiiaa.okv
 rw [h2, may_yes h1]
 rfl
theorem gd_kjo {U : List A} (hU : U.length ≤ 16) {X : List K} (h : Gd U X) {v : K} (hv : okv v = true) (hd : Dat U v.f v.l) (hn : X.length < 256) : Gd U (kjo X v) := by
 rw [kjo_is hv hn]
 have hj : Dat U (jD (getK X v.key) v).f (jD (getK X v.key) v).l := dat_join hU (h.get v.key) hd
 have hk : (jD (getK X v.key) v).key = v.key := getK_key
 refine ⟨sor_putG K.key h.sor, okT_put h.ok hj.may (by rw [hk]; exact (okv_may hv).1), fun x hx => ?_⟩
 rcases (mem_putG K.key).1 hx with rfl | ⟨hx, -⟩
 ·exact hj
 ·exact h.dat x hx
theorem gd_kjos {U : List A} (hU : U.length ≤ 16) : ∀ (S X : List K), Gd U X → (∀ s ∈ S, Go.Proofs.Ytpnnpdfmoldiiaa.okv s = true ∧ Dat U s.f s.l) → X.length + S.length ≤ 256 → Gd U (S.foldl kjo X) ∧ (S.foldl kjo X).length ≤ X.length + S.length
 | [], X, h, _, _ => ⟨h, by simp⟩
 | s :: S, X, h, hs, hn => by
  simp only [List.length_cons] at hn ⊢
  obtain ⟨a1, a2⟩ := hs s (by simp)
  have hl1 : (kjo X s).length ≤ X.length + 1 := by
   rw [kjo_is a1 (by omega), len_putG K.key h.sor]
   split <;> omega
  have := gd_kjos hU S (kjo X s) (gd_kjo hU h a1 a2 (by omega)) (fun t ht => hs t (by simp [ht])) (by omega)
  exact ⟨this.1, by rw [List.foldl_cons]; omega⟩
theorem getK_some {X : List K} {k : ByteArray} {x : K} (h : fndG K.key k X = some x) : getK X k = x := by unfold getK; rw [h]; rfl
theorem getK_none {X : List K} {k : ByteArray} (h : fndG K.key k X = none) : getK X k = ⟨k, zer, []⟩ := by unfold getK; rw [h]; rfl
theorem one_way {U : List A} (hU : U.length ≤ 16) {X Y : List K} (hX : Gd U X) (hY : Gd U Y) (ha : ∀ k, Agr (getK X k).l (getK Y k).l) (hn : Y.length + X.length ≤ 256) :
  ∀ k, fndG K.key k ((X.filter (lkK Y)).foldl kjo Y) = if (fndG K.key k X).isSome = true ∨ (fndG K.key k Y).isSome = true then some (jD (getK Y k) (getK X k)) else none := by
 intro k
 have hs1 : Sor K.key (X.filter (lkK Y)) := List.Pairwise.sublist List.filter_sublist hX.sor
 have hl := List.length_filter_le (lkK Y) X
 rw [(fnd_kjos _ Y hY.sor hs1 (fun s hs => hX.okv (List.mem_filter.1 hs).1) (by omega)).2.2 k, fnd_filter hX.sor]
 cases hx : fndG K.key k X with
 | none =>
  rw [Option.filter_none]
  cases hy : fndG K.key k Y with
  | none => simp
  | some y =>
   have d := dat_zero hU (hY.get k)
   rw [getK_none hx]
   simp only [Option.isSome_some, or_true, if_true, Option.some.injEq]
   rw [getK_some hy] at d ⊢
   exact K_ext rfl d.1.symm d.2.symm
 | some x =>
  have hk : x.key = k := (fnd_mem K.key hx).2
  by_cases hp : lkK Y x = true
  ·rw [Option.filter_some_pos hp, getK_some hx]
   simp
  ·rw [Option.filter_some_neg (by simpa using hp)]
   have hp' : lkK Y x = false := by simpa using hp
   cases hy : fndG K.key k Y with
   | none =>
    unfold lkK at hp'
    rw [hk, hy] at hp'
    cases hp'
   | some y =>
    unfold lkK at hp'
    rw [hk, hy] at hp'
    have a := ha k
    have d1 := hX.get k
    have d2 := hY.get k
    rw [getK_some hx] at a d1
    rw [getK_some hy] at a d2
    have d := dat_lack hU d1 d2 a hp'
    rw [getK_some hx, getK_some hy]
    simp only [Option.isSome_some, or_true, if_true, Option.some.injEq]
    exact K_ext rfl d.1.symm d.2.symm
theorem both_ways {U : List A} (hU : U.length ≤ 16) {X Y : List K} (hX : Gd U X) (hY : Gd U Y) (ha : ∀ k, Agr (getK X k).l (getK Y k).l) (hn1 : X.length ≤ 64) (hn2 : Y.length ≤ 64) :
  ((((X.filter (lkK Y)).foldl kjo Y).filter (lkK X)).foldl kjo X) = (X.filter (lkK Y)).foldl kjo Y := by
 have h1 := one_way hU hX hY ha (by omega)
 have hl := List.length_filter_le (lkK Y) X
 obtain ⟨g1, g2⟩ := gd_kjos hU (X.filter (lkK Y)) Y hY (fun s hs => ⟨hX.okv (List.mem_filter.1 hs).1, hX.dat s (List.mem_filter.1 hs).1⟩) (by omega)
 generalize (X.filter (lkK Y)).foldl kjo Y = Y1 at h1 g1 g2 ⊢
 have hs2 : Sor K.key (Y1.filter (lkK X)) := List.Pairwise.sublist List.filter_sublist g1.sor
 have hl2 := List.length_filter_le (lkK X) Y1
 obtain ⟨q1, q2, q3⟩ := fnd_kjos (Y1.filter (lkK X)) X hX.sor hs2 (fun s hs => g1.okv (List.mem_filter.1 hs).1) (by omega)
 have same : ∀ k, fndG K.key k ((Y1.filter (lkK X)).foldl kjo X) = fndG K.key k Y1 := fun k => by
  rw [q3 k, fnd_filter g1.sor]
  have e1 := h1 k
  have d1 := hX.get k
  have d2 := hY.get k
  cases hz : fndG K.key k Y1 with
  | none =>
   rw [Option.filter_none]
   rw [hz] at e1
   cases hx : fndG K.key k X with
   | none => rfl
   | some x => rw [hx] at e1; simp at e1
  | some z =>
   have hk : z.key = k := (fnd_mem K.key hz).2
   rw [hz] at e1
   have ez : z = jD (getK Y k) (getK X k) := by
    split at e1
    ·exact Option.some.inj e1
    ·cases e1
   have zf : z.f = joinV (getK Y k).f (getK X k).f (getK Y k).l (getK X k).l := by rw [ez]; rfl
   have zl : z.l = joinL (getK Y k).f (getK X k).f (getK Y k).l (getK X k).l := by rw [ez]; rfl
   by_cases hp : lkK X z = true
   ·rw [Option.filter_some_pos hp]
    have d := dat_again hU d1 d2
    refine congrArg some (K_ext ?_ ?_ ?_)
    ·show (getK X k).key = z.key
     rw [getK_key, hk]
    ·show joinV (getK X k).f z.f (getK X k).l z.l = z.f
     rw [zf, zl]
     exact d.1
    ·show joinL (getK X k).f z.f (getK X k).l z.l = z.l
     rw [zf, zl]
     exact d.2
   ·rw [Option.filter_some_neg (by simpa using hp)]
    have hp' : lkK X z = false := by simpa using hp
    cases hx : fndG K.key k X with
    | none =>
     unfold lkK at hp'
     rw [hk, hx] at hp'
     cases hp'
    | some x =>
     unfold lkK at hp'
     rw [hk, hx] at hp'
     have a := ha k
     rw [getK_some hx] at a d1 zf zl
     rw [zf, zl] at hp'
     have d := dat_back hU d1 d2 a hp'
     exact congrArg some (K_ext (by rw [(fnd_mem K.key hx).2, hk]) (by rw [zf, d.1]) (by rw [zl, d.2]))
 refine sor_ext K.key q1 g1.sor (fun z => ?_)
 rw [← and_iff_left (a := z ∈ Y1) (rfl : z.key = z.key), ← and_iff_left (a := z ∈ (Y1.filter (lkK X)).foldl kjo X) (rfl : z.key = z.key), ← fnd_some K.key q1, ← fnd_some K.key g1.sor, same]
theorem joins_k (X : List K) : ∀ es : List E, joins X es = (absE es).foldl kjo X
 | [] => rfl
 | e :: es => joins_k (jo X e) es
theorem lack_lk {ys : List E} {gs : List G} (hg : gs.map G.abs = ys.map ofE) (e : E) : lackK gs e = lkK (absE ys) e.abs := by
 rw [lackK_of hg]
 unfold lkK
 have h := abs_fnd e.key ys
 show _ = match fndG K.key e.key (absE ys) with
  | none => true
  | some y => lacksB e.key e.f (cont e.l) (digO e.key y.f y.l)
 rw [← h]
 cases hf : fndG E.key e.key ys with
 | none => rfl
 | some y =>
  have hk : y.key = e.key := (fnd_mem E.key hf).2
  show lacksB e.key e.f (cont e.l) (ofE y) = lacksB e.key e.f (cont e.l) (digO e.key y.f (cont y.l))
  rw [ofE_dig, hk]
theorem filter_lk {xs ys : List E} {gs : List G} (hg : gs.map G.abs = ys.map ofE) : absE (xs.filter (lackK gs)) = (absE xs).filter (lkK (absE ys)) := by
 unfold absE
 rw [List.filter_map]
 congr 1
 refine List.filter_congr (fun e _ => ?_)
 exact lack_lk hg e
theorem lack_same {xs ys : List E} {gs : List G} (hg : gs.map G.abs = ys.map ofE) (h : absE xs = absE ys) (hs : Sor E.key xs) : xs.filter (lackK gs) = [] := by
 rw [List.filter_eq_nil_iff]
 intro x hx
 rw [lack_lk hg, ← h]
 have hf : fndG K.key x.abs.key (absE xs) = some x.abs := (fnd_some K.key (abs_sor.2 hs)).2 ⟨List.mem_map.2 ⟨x, hx, rfl⟩, rfl⟩
 unfold lkK
 rw [hf]
 have := self_lacks x
 rw [ofE_dig] at this
 show ¬ lacksB x.key x.f (cont x.l) (digO x.key x.f (cont x.l)) = true
 rw [this]
 simp
end Go.Proofs.Ytpnnpdfmoldiiaa
