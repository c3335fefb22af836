/- In which order they are joined makes no difference: as data. -/
import Derived.Test.YtmeclfgehpbjlaaLessP
namespace Go.Proofs.Ytmeclfgehpbjlaa

theorem ltL_irr : ∀ a : List Nat, ltL a a = false
  | [] => rfl
  | x :: a => by simp [ltL, ltL_irr a]
theorem ltL_asym : ∀ {a b : List Nat}, ltL a b = true → ltL b a = false
  | [], [], h => by simp [ltL] at h
  | [], _ :: _, _ => by simp [ltL]
  | _ :: _, [], h => by simp [ltL] at h
  | x :: a, y :: b, h => by
    simp only [ltL] at *
    by_cases h1 : x < y
    · have : ¬ y < x := by omega
      simp [h1, this]
    · by_cases h2 : y < x
      · simp [h1, h2] at h
      · simp only [h1, h2, if_false] at *
        exact ltL_asym h
theorem ltL_tri : ∀ {a b : List Nat}, ltL a b = false → ltL b a = false → a = b
  | [], [], _, _ => rfl
  | [], _ :: _, h, _ => by simp [ltL] at h
  | _ :: _, [], _, h => by simp [ltL] at h
  | x :: a, y :: b, h, k => by
    simp only [ltL] at *
    by_cases h1 : x < y
    · simp [h1] at h
    · by_cases h2 : y < x
      · simp [h2] at k
      · simp only [h1, h2, if_false] at h k
        have : x = y := by omega
        rw [this, ltL_tri h k]
theorem ltL_trans : ∀ {a b c : List Nat}, ltL a b = true → ltL b c = true → ltL a c = true
  | [], [], _, h, _ => by simp [ltL] at h
  | [], _ :: _, [], _, h => by simp [ltL] at h
  | [], _ :: _, _ :: _, _, _ => by simp [ltL]
  | _ :: _, [], _, h, _ => by simp [ltL] at h
  | _ :: _, _ :: _, [], _, h => by simp [ltL] at h
  | x :: a, y :: b, z :: c, h, k => by
    simp only [ltL] at *
    by_cases h1 : x < y
    · by_cases h2 : y < z
      · simp [show x < z by omega]
      · by_cases h3 : z < y
        · simp [h2, h3] at k
        · simp [show x < z by omega]
    · by_cases h2 : y < x
      · simp [h1, h2] at h
      · simp only [h1, h2, if_false] at h
        obtain rfl : x = y := by omega
        by_cases h3 : x < z
        · simp [h3]
        · by_cases h4 : z < x
          · simp [h3, h4] at k
          · simp only [h3, h4, if_false] at k ⊢
            exact ltL_trans h k
/-- x stands ahead of y, of one dot. -/
def Bef (x y : A) : Prop := firstB x.dead y.dead x.data y.data = true
theorem first_bef {x y : A} (h : Bef x y) : firstA x y = x := by
  unfold Bef at h
  simp [firstA, h]
theorem bef_iff {x y : A} : Bef x y ↔ (x.dead = false ∧ y.dead = true) ∨ (x.dead = y.dead ∧ ltL y.data x.data = false) := by
  unfold Bef firstB
  cases x.dead <;> cases y.dead <;> simp
theorem bef_total (x y : A) : Bef x y ∨ Bef y x := by
  rw [bef_iff, bef_iff]
  cases hx : x.dead <;> cases hy : y.dead <;> simp
  all_goals
    cases h : ltL y.data x.data
    · simp
    · simp [ltL_asym h]
theorem bef_anti {x y : A} (e : EQ x y) (h : Bef x y) (k : Bef y x) : x = y := by
  rw [bef_iff] at h k
  have hd : x.dead = y.dead := by
    rcases h with h | h
    · rcases k with k | k
      · rw [h.2] at k; cases k.1
      · exact k.1.symm
    · exact h.1
  refine A.ext e.1 e.2 ?_ hd
  have h2 : ltL y.data x.data = false := by
    rcases h with h | h
    · rw [h.1, h.2] at hd; cases hd
    · exact h.2
  have k2 : ltL x.data y.data = false := by
    rcases k with k | k
    · rw [k.1, k.2] at hd; cases hd
    · exact k.2
  exact ltL_tri k2 h2
theorem bef_trans {x y z : A} (h : Bef x y) (k : Bef y z) : Bef x z := by
  rw [bef_iff] at *
  rcases h with ⟨h1, h2⟩ | ⟨h1, h2⟩
  · rcases k with ⟨k1, k2⟩ | ⟨k1, k2⟩
    · rw [h2] at k1; cases k1
    · exact .inl ⟨h1, by rw [← k1]; exact h2⟩
  · rcases k with ⟨k1, k2⟩ | ⟨k1, k2⟩
    · exact .inl ⟨by rw [h1]; exact k1, k2⟩
    · refine .inr ⟨h1.trans k1, ?_⟩
      cases h3 : ltL z.data x.data
      · rfl
      · exfalso
        -- z < x; not y < x; not z < y
        cases h4 : ltL x.data y.data
        · have e := ltL_tri h4 h2
          rw [e] at h3
          rw [h3] at k2
          cases k2
        · have := ltL_trans h3 h4
          rw [this] at k2
          cases k2
/-- Of one dot, the first of two; whichever way. -/
theorem first_min {x y : A} (e : EQ x y) : EQ (firstA x y) x ∧ Bef (firstA x y) x ∧ Bef (firstA x y) y ∧ (firstA x y = x ∨ firstA x y = y) := by
  refine ⟨first_dot e, ?_, ?_, first_or x y⟩
  · rcases bef_total x y with h | h
    · rw [first_bef h]
      exact (bef_total x x).elim id id
    · by_cases h2 : Bef x y
      · rw [first_bef h2]; exact (bef_total x x).elim id id
      · have : firstA x y = y := by unfold Bef at h2; simp [firstA, h2]
        rw [this]; exact h
  · by_cases h2 : Bef x y
    · rw [first_bef h2]; exact h2
    · have : firstA x y = y := by unfold Bef at h2; simp [firstA, h2]
      rw [this]
      exact (bef_total y y).elim id id
theorem first_comm {x y : A} (e : EQ x y) : firstA x y = firstA y x := by
  obtain ⟨a1, a2, a3, a4⟩ := first_min e
  obtain ⟨b1, b2, b3, b4⟩ := first_min e.symm
  refine bef_anti (a1.trans (e.trans b1.symm)) ?_ ?_
  · rcases b4 with h | h
    · rw [h]; exact a3
    · rw [h]; exact a2
  · rcases a4 with h | h
    · rw [h]; exact b3
    · rw [h]; exact b2
end Go.Proofs.Ytmeclfgehpbjlaa
