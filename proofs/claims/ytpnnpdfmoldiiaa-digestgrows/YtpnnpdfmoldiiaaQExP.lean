/- Items of several texts. -/
import Derived.Test.YtpnnpdfmoldiiaaQDg0
import Derived.Test.YtpnnpdfmoldiiaaQOrdQ
import Derived.Test.YtpnnpdfmoldiiaaQLck
import Derived.Test.YtpnnpdfmoldiiaaQDof
namespace Go.Proofs.Ytpnnpdfmoldiiaa
open Go.RowKit
structure Agr (l k : List A) : Prop where
 one : ∀ x ∈ l, ∀ y ∈ k, EQ x y → x = y
theorem leqB_iff {f g : Nat → Int} : leqB f g = true ↔ ∀ j, j < 8 → f j ≤ g j := by simp [leqB]
theorem merge_under {f g : Nat → Int} {l k : List A} (h1 : MayP f l) (h2 : MayP g k) (ha : Agr l k) (hle : ∀ j, j < 8 → f j ≤ g j) :
  mergeA (nc g) (nc f) l k = k ↔ ∀ y ∈ k, coversB f y.node y.num = true → ∃ x ∈ l, EQ x y := by
 have s1 := may_srt h1
 have s2 := may_srt h2
 have cl : ∀ x ∈ l, coversB f x.node x.num = true := fun x hx => (h1.cov x hx).1
 constructor
 ·intro e y hy hc
  have hm : y ∈ mergeA (nc g) (nc f) l k := by rw [e]; exact hy
  rw [mem_merge _ _ _ _ s1 s2] at hm
  rcases hm with ⟨x, hx, z, hz, he, rfl⟩ | ⟨hl, -, -⟩ | ⟨-, hq, -⟩
  ·exact ⟨x, hx, (first_dot he).symm⟩
  ·exact ⟨y, hl, EQ.refl y⟩
  ·rw [nc_iff] at hq
   exact absurd hc hq
 ·intro h
  refine srt_ext (srt_merge _ _ _ _ s1 s2) s2 (fun z => ?_)
  rw [mem_merge _ _ _ _ s1 s2]
  constructor
  ·rintro (⟨x, hx, y, hy, he, rfl⟩ | ⟨hl, hp, -⟩ | ⟨hk, -, -⟩)
   ·have := ha.one x hx y hy he
    subst this
    rw [first_self]
    exact hy
   ·rw [nc_iff] at hp
    exact absurd (cov_mono hle (cl z hl)) hp
   ·exact hk
  ·intro hz
   by_cases hc : coversB f z.node z.num = true
   ·obtain ⟨x, hx, he⟩ := h z hz hc
    refine .inl ⟨x, hx, z, hz, he, ?_⟩
    have := ha.one x hx z hz he
    subst this
    rw [first_self]
   ·refine .inr (.inr ⟨hz, nc_iff.2 hc, fun x hx he => hc ?_⟩)
    have := cl x hx
    exact cov_dot he this
def digO (key : ByteArray) (f : Nat → Int) (l : List A) : GK := ⟨key, f, if mayS f l = true then l.map dotA else []⟩
theorem ofE_dig (x : E) : ofE x = digO x.key x.f (cont x.l) := rfl
theorem digO_may (key : ByteArray) {f : Nat → Int} {l : List A} (h : MayP f l) : digO key f l = ⟨key, f, l.map dotA⟩ := by unfold digO; rw [if_pos (may_yes h)]
theorem lacks_no {key : ByteArray} {f g : Nat → Int} {l k : List A} (h2 : MayP g k) :
  lacksB key f l (digO key g k) = false ↔ (∀ j, j < 8 → f j ≤ g j) ∧ ∀ y ∈ k, coversB f y.node y.num = true → ∃ x ∈ l, EQ x y := by
 rw [digO_may key h2]
 unfold lacksB
 show (!smk key key || !leqB f g || (k.map dotA).any fun d => coversB f d.1 d.2 && !stands l d) = false ↔ _
 rw [smk_iff.2 rfl, Bool.or_eq_false_iff, Bool.or_eq_false_iff]
 simp only [Bool.not_true, true_and, Bool.not_eq_false', List.any_eq_false, leqB_iff]
 refine and_congr_right fun _ => ?_
 constructor
 ·intro h y hy hc
  have := h (dotA y) (List.mem_map.2 ⟨y, hy, rfl⟩)
  simp only [dotA, hc, Bool.true_and, Bool.not_eq_true', Bool.not_eq_false] at this
  rw [stands_iff] at this
  obtain ⟨x, hx, e⟩ := List.mem_map.1 this
  simp only [dotA, Prod.mk.injEq] at e
  exact ⟨x, hx, e.1, e.2⟩
 ·intro h d hd
  obtain ⟨y, hy, rfl⟩ := List.mem_map.1 hd
  intro hb
  simp only [dotA, Bool.and_eq_true, Bool.not_eq_true'] at hb
  obtain ⟨x, hx, e⟩ := h y hy hb.1
  have : stands l (y.node, y.num) = true := by
   rw [stands_iff]
   exact List.mem_map.2 ⟨x, hx, by unfold dotA; rw [e.1, e.2]⟩
  rw [this] at hb
  exact absurd hb.2 (by simp)
theorem exact_both {key : ByteArray} {f g : Nat → Int} {l k : List A} (h1 : MayP f l) (h2 : MayP g k) (ha : Agr l k)
  (hp : lacksB key f l (digO key g k) = false) (hq : lacksB key g k (digO key f l) = false) : sameS f g l k = true := by
 have a1 := (lacks_no h2).1 hp
 have a2 := (lacks_no h1).1 hq
 rw [same_iff]
 refine ⟨fun j hj => by have := a1.1 j hj; have := a2.1 j hj; omega, ?_⟩
 have s1 := may_srt h1
 have s2 := may_srt h2
 refine srt_ext s1 s2 (fun z => ⟨fun hz => ?_, fun hz => ?_⟩)
 ·obtain ⟨y, hy, e⟩ := a2.2 z hz (cov_mono a1.1 (h1.cov z hz).1)
  rw [← ha.one z hz y hy e.symm] at hy
  exact hy
 ·obtain ⟨x, hx, e⟩ := a1.2 z hz (cov_mono a2.1 (h2.cov z hz).1)
  rw [ha.one x hx z hz e] at hx
  exact hx
end Go.Proofs.Ytpnnpdfmoldiiaa
