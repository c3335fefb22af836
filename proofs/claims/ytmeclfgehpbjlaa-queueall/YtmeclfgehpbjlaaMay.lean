/- The contract of sibs.May. -/
import Derived.Test.YtmeclfgehpbjlaaVal
namespace Go.Proofs.Ytmeclfgehpbjlaa
open Go.RowKit

/-- What may be. -/
structure MayP (f : Nat → Int) (l : List A) : Prop where
  seen : ∀ j, j < 8 → 0 ≤ f j ∧ f j ≤ 1099511627776
  few : l.length ≤ 16
  less : ∀ i x y, l[i]? = some x → l[i + 1]? = some y → lessB x.node x.num y.node y.num = true
  cov : ∀ x, x ∈ l → coversB f x.node x.num = true ∧ okData x.data.length x.dead = true
def lessAll : List A → Bool
  | [] => true
  | [_] => true
  | x :: y :: l => lessB x.node x.num y.node y.num && lessAll (y :: l)
theorem lessAll_iff : ∀ l : List A, lessAll l = true ↔ ∀ i x y, l[i]? = some x → l[i + 1]? = some y → lessB x.node x.num y.node y.num = true
  | [] => by simp [lessAll]
  | [_] => by simp [lessAll]
  | x :: y :: l => by
    rw [lessAll, Bool.and_eq_true, lessAll_iff (y :: l)]
    constructor
    · rintro ⟨h1, h2⟩ i a b ha hb
      cases i with
      | zero =>
        simp at ha hb
        subst ha hb
        exact h1
      | succ i => exact h2 i a b (by simpa using ha) (by simpa using hb)
    · intro h
      exact ⟨h 0 x y rfl rfl, fun i a b ha hb => h (i + 1) a b (by simpa using ha) (by simpa using hb)⟩
def mayS (f : Nat → Int) (l : List A) : Bool := mayB f && (decide (l.length ≤ 16) && (lessAll l && l.all fun x => coversB f x.node x.num && okData x.data.length x.dead))
theorem may_iff {f : Nat → Int} {l : List A} : mayS f l = true ↔ MayP f l := by
  simp only [mayS, mayB, Bool.and_eq_true, decide_eq_true_eq, lessAll_iff, List.all_eq_true]
  exact ⟨fun ⟨a, b, c, d⟩ => ⟨a, b, c, d⟩, fun h => ⟨h.seen, h.few, h.less, h.cov⟩⟩
theorem may_yes {f : Nat → Int} {l : List A} (h : MayP f l) : mayS f l = true := may_iff.2 h
theorem may_no {f : Nat → Int} {l : List A} (h : ¬ MayP f l) : mayS f l = false := by
  cases e : mayS f l
  · rfl
  · exact absurd (may_iff.1 e) h
def MayP.dec (f : Nat → Int) (l : List A) : Decidable (MayP f l) := decidable_of_iff _ may_iff
theorem mem_cont {l : List V} {i : Nat} {v : V} (h : l[i]? = some v) : v.abs ∈ cont l := List.mem_map.2 ⟨v, List.mem_of_getElem? h, rfl⟩
theorem get_cont {l : List V} {i : Nat} {v : V} (h : l[i]? = some v) : (cont l)[i]? = some v.abs := by simp [cont, h]
theorem get_cont' {l : List V} {i : Nat} {x : A} (h : (cont l)[i]? = some x) : ∃ v, l[i]? = some v ∧ x = v.abs := by
  simp only [cont, List.getElem?_map, Option.map_eq_some_iff] at h
  obtain ⟨v, h1, h2⟩ := h
  exact ⟨v, h1, h2.symm⟩

/-- The first n are in order. -/
structure Upto (f : Nat → Int) (l : List V) (n : Nat) : Prop where
  less : ∀ i x y, i + 1 < n → l[i]? = some x → l[i + 1]? = some y → lessB x.node x.num y.node y.num = true
  cov : ∀ i x, i < n → l[i]? = some x → coversB f x.node x.num = true ∧ okData x.data.length x.dead = true
theorem Upto.zero (f : Nat → Int) (l : List V) : Upto f l 0 := ⟨fun _ _ _ h => by omega, fun _ _ h => by omega⟩
theorem Upto.step {f : Nat → Int} {l : List V} {n : Nat} (h : Upto f l n) {v : V} (hv : l[n]? = some v) (hc : coversB f v.abs.node v.abs.num = true ∧ okData v.abs.data.length v.abs.dead = true) (hl : ∀ i u, i + 1 = n → l[i]? = some u → lessB u.node u.num v.node v.num = true) : Upto f l (n + 1) := by
  refine ⟨fun i x y hi hx hy => ?_, fun i x hi hx => ?_⟩
  · rcases Nat.lt_or_ge (i + 1) n with h1 | h1
    · exact h.less i x y h1 hx hy
    · obtain rfl : n = i + 1 := by omega
      rw [hv] at hy
      cases hy
      exact hl i x rfl hx
  · rcases Nat.lt_or_ge i n with h1 | h1
    · exact h.cov i x h1 hx
    · obtain rfl : n = i := by omega
      rw [hv] at hx
      cases hx
      exact hc
theorem Upto.may {f : Nat → Int} {l : List V} (h : Upto f l l.length) (hs : ∀ j, j < 8 → 0 ≤ f j ∧ f j ≤ 1099511627776) (hl : l.length ≤ 16) : MayP f (cont l) := by
  refine ⟨hs, by rw [cont_len]; exact hl, fun i x y hx hy => ?_, fun x hx => ?_⟩
  · obtain ⟨u, hu, rfl⟩ := get_cont' hx
    obtain ⟨v, hv, rfl⟩ := get_cont' hy
    have : i + 1 < l.length := by
      obtain ⟨h, -⟩ := List.getElem?_eq_some_iff.1 hv
      exact h
    exact h.less i u v this hu hv
  · simp only [cont, List.mem_map] at hx
    obtain ⟨v, hv, rfl⟩ := hx
    obtain ⟨i, hi⟩ := List.getElem?_of_mem hv
    have : i < l.length := by
      obtain ⟨h, -⟩ := List.getElem?_eq_some_iff.1 hi
      exact h
    exact h.cov i v this hi

theorem less_at {l : List V} {n m : Nat} {u v : V} (hm : n = m + 1) (hu : l[m]? = some u) (h : lessB u.node u.num v.node v.num = true) : ∀ i x, i + 1 = n → l[i]? = some x → lessB x.node x.num v.node v.num = true := by
  intro i x hi hx
  obtain rfl : i = m := by omega
  rw [hu] at hx
  cases hx
  exact h
end Go.Proofs.Ytmeclfgehpbjlaa
