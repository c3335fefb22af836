/- Leq, as data. -/
import Derived.Test.YtmeclfgehpbjlaaRea
import Derived.Test.YtmeclfgehpbjlaaGMay
namespace Go.Proofs.Ytmeclfgehpbjlaa

theorem first_self (x : A) : firstA x x = x := by unfold firstA; split <;> rfl
theorem merge_self (p q : A → Bool) (l : List A) : mergeA p q l l = l := by
  induction l with
  | nil => rw [mergeA_nil _ _ _ _ (.inl rfl)]; rfl
  | cons x l ih =>
    have h : lessA x x = false := not_less.2 (LT.irr x)
    rw [mergeA_eq _ _ _ _ h h, first_self, ih]
theorem take_may {f : Nat → Int} {l : List A} (h : MayP f l) : l.take 16 = l := List.take_of_length_le h.few
theorem same_iff {f g : Nat → Int} {l k : List A} : sameS f g l k = true ↔ (∀ j, j < 8 → f j = g j) ∧ l = k := by simp [sameS, eqB, sameR]
theorem leq_iff {f g : Nat → Int} {l k : List A} : leqS f g l k = true ↔ MayP f l ∧ MayP g k ∧ (∀ j, j < 8 → f j ≤ g j) ∧ (mergeA (nc g) (nc f) l k).take 16 = k := by
  constructor
  · intro h
    have h0 := h
    simp only [leqS, Bool.and_eq_true] at h
    obtain ⟨⟨h1, h2⟩, h3⟩ := h
    have hv : joinV f g l k = maxV f g := by simp [joinV, h1, h2]
    have hl : joinL f g l k = (mergeA (nc g) (nc f) l k).take 16 := by simp [joinL, h1, h2]
    rw [hv, hl, same_iff] at h3
    refine ⟨may_iff.1 h1, may_iff.1 h2, fun j hj => ?_, h3.2⟩
    have := h3.1 j hj
    simp only [maxV] at this
    omega
  · rintro ⟨h1, h2, h3, h4⟩
    have e1 := may_yes h1
    have e2 := may_yes h2
    have hv : joinV f g l k = maxV f g := by simp [joinV, e1, e2]
    have hl : joinL f g l k = (mergeA (nc g) (nc f) l k).take 16 := by simp [joinL, e1, e2]
    rw [leq_yes e1 e2, hv, hl, same_iff]
    refine ⟨fun j hj => ?_, h4⟩
    have := h3 j hj
    simp only [maxV]
    omega
theorem may_wide {f g : Nat → Int} {l : List A} (h : MayP f l) (hg : ∀ j, j < 8 → 0 ≤ g j ∧ g j ≤ 1099511627776) : MayP (maxV f g) l :=
  ⟨fun j hj => by have := h.seen j hj; have := hg j hj; simp only [maxV]; omega, h.few, h.less, fun x hx => ⟨cov_max.2 (.inl (h.cov x hx).1), (h.cov x hx).2⟩⟩
theorem may_none {f : Nat → Int} (h : ∀ j, j < 8 → 0 ≤ f j ∧ f j ≤ 1099511627776) : MayP f [] := ⟨h, by simp, by simp, by simp⟩
theorem less_one {f g : Nat → Int} {l : List A} (h : MayP f l) (hg : ∀ j, j < 8 → 0 ≤ g j ∧ g j ≤ 1099511627776) : leqS f (maxV f g) l l = true :=
  leq_iff.2 ⟨h, may_wide h hg, fun j _ => by simp only [maxV]; omega, by rw [merge_self]; exact take_may h⟩
theorem less_back {f g : Nat → Int} {l : List A} (h : MayP f l) (hg : ∀ j, j < 8 → 0 ≤ g j ∧ g j ≤ 1099511627776) : leqS (maxV f g) f l l = eqB (maxV f g) f := by
  rw [Bool.eq_iff_iff, leq_iff]
  simp only [eqB, decide_eq_true_eq]
  constructor
  · rintro ⟨-, -, h3, -⟩ j hj
    have := h3 j hj
    simp only [maxV] at *
    omega
  · intro h3
    exact ⟨may_wide h hg, h, fun j hj => by rw [h3 j hj]; exact Int.le_refl _, by rw [merge_self]; exact take_may h⟩
theorem less_zero {f : Nat → Int} {l : List A} (h : MayP f l) : leqS zer f [] l = true := by
  refine leq_iff.2 ⟨may_zer, h, fun j hj => (h.seen j hj).1, ?_⟩
  have e : l.filter (nc zer) = l := List.filter_eq_self.2 (fun x _ => by
    rw [nc_iff, cov_iff]
    simp only [zer]
    omega)
  rw [mergeA_nil _ _ _ _ (.inl rfl), e]
  simpa using take_may h
theorem filter_cov {f : Nat → Int} {l : List A} (h : MayP f l) : l.filter (nc f) = [] := by
  rw [List.filter_eq_nil_iff]
  intro x hx
  rw [nc_iff]
  simp [(h.cov x hx).1]
theorem less_reap {f g : Nat → Int} {l : List A} (h : MayP f l) (hg : ∀ j, j < 8 → 0 ≤ g j ∧ g j ≤ 1099511627776) : leqS f (joinV f (maxV f g) (reapL f l) l) (reapL f l) (joinL f (maxV f g) (reapL f l) l) = true := by
  have hw := may_wide h hg
  cases ha : anyA l
  · have hr : reapL f l = [] := by simp [reapL, ha]
    have h0 := may_none h.seen
    rw [hr]
    have hv : joinV f (maxV f g) [] l = maxV f (maxV f g) := by simp [joinV, may_yes h0, may_yes hw]
    have hl : joinL f (maxV f g) [] l = [] := by
      simp only [joinL, may_yes h0, may_yes hw, and_self, if_true]
      rw [mergeA_nil _ _ _ _ (.inl rfl), filter_cov h]
      rfl
    rw [hv, hl]
    exact leq_iff.2 ⟨h0, may_none (may_wide h hw.seen).seen, fun j _ => by simp only [maxV]; omega, by rw [merge_self]; rfl⟩
  · have hr : reapL f l = l := by simp [reapL, ha, may_yes h]
    rw [hr]
    have hv : joinV f (maxV f g) l l = maxV f (maxV f g) := by simp [joinV, may_yes h, may_yes hw]
    have hl : joinL f (maxV f g) l l = l := by
      simp only [joinL, may_yes h, may_yes hw, and_self, if_true]
      rw [merge_self]
      exact take_may h
    rw [hv, hl]
    exact less_one h hw.seen
end Go.Proofs.Ytmeclfgehpbjlaa
