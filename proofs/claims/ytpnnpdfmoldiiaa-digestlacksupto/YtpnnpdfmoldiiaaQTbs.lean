/- Items of several texts. -/
import Derived.Test.YtpnnpdfmoldiiaaQRel
import Derived.Test.YtpnnpdfmoldiiaaQJns
import Derived.Test.YtpnnpdfmoldiiaaQSnd
import Derived.Test.YtpnnpdfmoldiiaaQDof
namespace Go.Proofs.Ytpnnpdfmoldiiaa
open Go.RowKit
theorem sndF_sub (gs : List G) : ∀ (es : List E) (room : Int) (has : Bool), (sndF gs es room has).Sublist es
 | [], _, _ => by simp [sndF]
 | e :: r, room, has => by
  rw [sndF]
  split
  ·split
   ·exact List.nil_sublist _
   ·exact (sndF_sub gs r _ _).cons_cons e
  ·exact (sndF_sub gs r _ _).cons e
def sumE (es : List E) : Nat := (es.map fun e => sizE e.key e.f (cont e.l)).sum
theorem sndF_all (gs : List G) : ∀ (es : List E) (room : Int) (has : Bool), (sumE (es.filter (lackK gs)) : Int) ≤ room → sndF gs es room has = es.filter (lackK gs)
 | [], _, _, _ => by simp [sndF]
 | e :: r, room, has, h => by
  rw [sndF, List.filter_cons]
  rw [List.filter_cons] at h
  split
  ·rename_i hl
   rw [if_pos hl] at h
   have e1 : sumE (e :: r.filter (lackK gs)) = sizE e.key e.f (cont e.l) + sumE (r.filter (lackK gs)) := by simp [sumE]
   rw [e1] at h
   rw [if_neg (fun k => by have := k.1; omega), sndF_all gs r _ _ (by omega)]
  ·rename_i hl
   rw [if_neg hl] at h
   exact sndF_all gs r _ _ h
end Go.Proofs.Ytpnnpdfmoldiiaa

namespace Go.Proofs.Ytpnnpdfmoldiiaa
open Go.RowKit
theorem keyB_le {k : ByteArray} (h : keyB k = true) : k.size ≤ 32 := by
 simp only [keyB, Bool.and_eq_true, decide_eq_true_eq] at h
 exact h.2
theorem data_le {f : Nat → Int} {l : List A} (h : MayP f l) {x : A} (hx : x ∈ l) : x.data.length ≤ 200 := by
 have := (h.cov x hx).2
 unfold okData at this
 split at this <;> simp at this <;> simp [this]
theorem num_le {f : Nat → Int} {l : List A} (h : MayP f l) {x : A} (hx : x ∈ l) : 1 ≤ x.num ∧ x.num ≤ 1099511627776 := by
 have h1 := (h.cov x hx).1
 simp only [coversB, decide_eq_true_eq] at h1
 have h2 := (h.seen x.node.toNat (by omega)).2
 omega
theorem sum_le : ∀ (l : List Nat) (b : Nat), (∀ x ∈ l, x ≤ b) → l.sum ≤ l.length * b
 | [], _, _ => by simp
 | x :: l, b, h => by
  have h1 := h x (by simp)
  have h2 := sum_le l b (fun y hy => h y (by simp [hy]))
  rw [List.sum_cons, List.length_cons, Nat.succ_mul]
  omega
theorem vsum_le {f : Nat → Int} {l : List A} (h : MayP f l) : vsum l ≤ 3696 := by
 unfold vsum
 have h1 := sum_le (l.map fun x => 31 + x.data.length) 231 (fun y hy => by
  obtain ⟨x, hx, rfl⟩ := List.mem_map.1 hy
  have := data_le h hx
  omega)
 rw [List.length_map] at h1
 have h2 := Nat.mul_le_mul_right 231 h.few
 omega
theorem okN_of {x : E} (hm : MayP x.f (cont x.l)) (hk : keyB x.key = true) : OkN x := by
 have h1 := vsum_le hm
 have h2 := keyB_le hk
 have h3 := hm.few
 rw [cont_len] at h3
 exact ⟨by omega, by omega, fun j hj => by have := hm.seen j hj; omega, by omega⟩
theorem sizE_few {x : E} (hm : MayP x.f (cont x.l)) (hk : keyB x.key = true) : sizE x.key x.f (cont x.l) ≤ 4000 := by
 have h1 := vsum_le hm
 have h2 := keyB_le hk
 have h3 := hm.few
 rw [cont_len] at h3
 have h4 := sizE_le x.key x.f (fun j hj => by have := hm.seen j hj; omega) x.l (fun v hv => by
  have hv' : v.abs ∈ cont x.l := List.mem_map.2 ⟨v, hv, rfl⟩
  have k1 := num_le hm hv'
  have k2 := data_le hm hv'
  exact ⟨⟨by have : v.abs.num = v.num := rfl; omega, by have : v.abs.num = v.num := rfl; omega⟩, by have : v.abs.data = v.data := rfl; rw [this] at k2; omega⟩) (by omega) (by omega)
 omega
theorem sumE_le {es : List E} (h : ∀ x ∈ es, sizE x.key x.f (cont x.l) ≤ 4000) : sumE es ≤ es.length * 4000 := by
 unfold sumE
 have h1 := sum_le (es.map fun e => sizE e.key e.f (cont e.l)) 4000 (fun y hy => by
  obtain ⟨x, hx, rfl⟩ := List.mem_map.1 hy
  exact h x hx)
 rwa [List.length_map] at h1
theorem okT_at {xs : List E} (h : OkT (absE xs)) {x : E} (hx : x ∈ xs) : MayP x.f (cont x.l) ∧ keyB x.key = true :=
 ⟨h.may x.abs (List.mem_map.2 ⟨x, hx, rfl⟩), h.key x.abs (List.mem_map.2 ⟨x, hx, rfl⟩)⟩
theorem okT_okN {xs : List E} (h : OkT (absE xs)) : ∀ x ∈ xs, OkN x := fun _ hx => okN_of (okT_at h hx).1 (okT_at h hx).2
theorem snd_room {xs : List E} (h : OkT (absE xs)) (hf : xs.length ≤ 256) (gs : List G) (room : Int) (hr : 1024000 ≤ room) : sndF gs xs room false = xs.filter (lackK gs) := by
 refine sndF_all gs xs room false ?_
 have h1 : sumE (xs.filter (lackK gs)) ≤ (xs.filter (lackK gs)).length * 4000 := sumE_le (fun x hx => sizE_few (okT_at h (List.mem_filter.1 hx).1).1 (okT_at h (List.mem_filter.1 hx).1).2)
 have h2 := List.length_filter_le (lackK gs) xs
 have h3 := Nat.mul_le_mul_right 4000 (Nat.le_trans h2 hf)
 omega
theorem fst_of {ys : List E} {gs : List G} (hg : gs.map G.abs = ys.map ofE) (k : ByteArray) : (fstK gs k).map G.abs = (fndG E.key k ys).map ofE := by
 have h1 : (gs.map G.abs).find? (fun g => decide (g.key = k)) = (fstK gs k).map G.abs := List.find?_map
 have h2 : (ys.map ofE).find? (fun g => decide (g.key = k)) = (ys.find? ((fun g : GK => decide (g.key = k)) ∘ ofE)).map ofE := List.find?_map
 rw [← h1, hg, h2]
 unfold fndG
 congr 2
 funext y
 show decide (y.key = k) = smk y.key k
 rw [Bool.eq_iff_iff, decide_eq_true_eq, smk_iff]
theorem lackK_of {ys : List E} {gs : List G} (hg : gs.map G.abs = ys.map ofE) (e : E) : lackK gs e = match fndG E.key e.key ys with
  | none => true
  | some y => lacksB e.key e.f (cont e.l) (ofE y) := by
 have h := fst_of hg e.key
 unfold lackK
 cases h1 : fstK gs e.key with
 | none =>
  rw [h1] at h
  cases h2 : fndG E.key e.key ys with
  | none => rfl
  | some y => rw [h2] at h; cases h
 | some g =>
  rw [h1] at h
  cases h2 : fndG E.key e.key ys with
  | none => rw [h2] at h; cases h
  | some y =>
   rw [h2] at h
   simp only [Option.map_some, Option.some.injEq] at h
   show lacksB e.key e.f (cont e.l) g.abs = lacksB e.key e.f (cont e.l) (ofE y)
   rw [h]
theorem leqB_refl (f : Nat → Int) : leqB f f = true := by simp [leqB]
theorem self_lacks (x : E) : lacksB x.key x.f (cont x.l) (ofE x) = false := by
 have h1 : smk x.key (ofE x).key = true := smk_iff.2 rfl
 have h2 : leqB x.f (ofE x).f = true := leqB_refl x.f
 unfold lacksB
 rw [h1, h2]
 simp only [Bool.not_true, Bool.false_or]
 rw [List.any_eq_false]
 intro d hd
 unfold ofE at hd
 simp only at hd
 split at hd
 ·obtain ⟨v, hv, rfl⟩ := List.mem_map.1 hd
  have : stands (cont x.l) (dotA v) = true := List.any_eq_true.2 ⟨v, hv, by simp [dotA]⟩
  simp [this]
 ·simp at hd
end Go.Proofs.Ytpnnpdfmoldiiaa
