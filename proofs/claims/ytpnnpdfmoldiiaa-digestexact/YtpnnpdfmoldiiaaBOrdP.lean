/- Items of several texts. -/
import Derived.Test.YtpnnpdfmoldiiaaBLessP
namespace Go.Proofs.Ytpnnpdfmoldiiaa
theorem ltL_asym : ∀ {a b : List Nat}, ltL a b = true → ltL b a = false
 | [], [], h => by simp [ltL] at h
 | [], _ :: _, _ => by simp [ltL]
 | _ :: _, [], h => by simp [ltL] at h
 | x :: a, y :: b, h => by
  simp only [ltL] at *
  by_cases h1 : x < y
  ·have : ¬ y < x := by omega
   simp [h1, this]
  ·by_cases h2 : y < x
   ·simp [h1, h2] at h
   ·simp only [h1, h2, if_false] at *
    exact ltL_asym h
theorem ltL_tri : ∀ {a b : List Nat}, ltL a b = false → ltL b a = false → a = b
 | [], [], _, _ => rfl
 | [], _ :: _, h, _ => by simp [ltL] at h
 | _ :: _, [], _, h => by simp [ltL] at h
 | x :: a, y :: b, h, k => by
  simp only [ltL] at *
  by_cases h1 : x < y
  ·simp [h1] at h
  ·by_cases h2 : y < x
   ·simp [h2] at k
   ·simp only [h1, h2, if_false] at h k
    have : x = y := by omega
    rw [this, ltL_tri h k]
def Bef (x y : A) : Prop := firstB x.dead y.dead x.data y.data = true
theorem first_bef {x y : A} (h : Bef x y) : firstA x y = x := by
 unfold Bef at h
 simp [firstA, h]
theorem bef_iff {x y : A} : Bef x y ↔ (x.dead = false ∧ y.dead = true) ∨ (x.dead = y.dead ∧ ltL y.data x.data = false) := by
 unfold Bef firstB
 cases x.dead <;> cases y.dead <;> simp
theorem bef_total (x y : A) : Bef x y ∨ Bef y x := by
 rw [bef_iff, bef_iff]
 cases hx : x.dead <;> cases hy : y.dead <;> simp
 all_goals
  cases h : ltL y.data x.data
  ·simp
  ·simp [ltL_asym h]
theorem bef_anti {x y : A} (e : EQ x y) (h : Bef x y) (k : Bef y x) : x = y := by
 rw [bef_iff] at h k
 have hd : x.dead = y.dead := by
  rcases h with h | h
  ·rcases k with k | k
   ·rw [h.2] at k; cases k.1
   ·exact k.1.symm
  ·exact h.1
 refine A.ext e.1 e.2 ?_ hd
 have h2 : ltL y.data x.data = false := by
  rcases h with h | h
  ·rw [h.1, h.2] at hd; cases hd
  ·exact h.2
 have k2 : ltL x.data y.data = false := by
  rcases k with k | k
  ·rw [k.1, k.2] at hd; cases hd
  ·exact k.2
 exact ltL_tri k2 h2
theorem first_min {x y : A} (e : EQ x y) : EQ (firstA x y) x ∧ Bef (firstA x y) x ∧ Bef (firstA x y) y ∧ (firstA x y = x ∨ firstA x y = y) := by
 refine ⟨first_dot e, ?_, ?_, first_or x y⟩
 ·rcases bef_total x y with h | h
  ·rw [first_bef h]
   exact (bef_total x x).elim id id
  ·by_cases h2 : Bef x y
   ·rw [first_bef h2]; exact (bef_total x x).elim id id
   ·have : firstA x y = y := by unfold Bef at h2; simp [firstA, h2]
    rw [this]; exact h
 ·by_cases h2 : Bef x y
  ·rw [first_bef h2]; exact h2
  ·have : firstA x y = y := by unfold Bef at h2; simp [firstA, h2]
   rw [this]
   exact (bef_total y y).elim id id
theorem first_comm {x y : A} (e : EQ x y) : firstA x y = firstA y x := by
 obtain ⟨a1, a2, a3, a4⟩ := first_min e
 obtain ⟨b1, b2, b3, b4⟩ := first_min e.symm
 refine bef_anti (a1.trans (e.trans b1.symm)) ?_ ?_
 ·rcases b4 with h | h
  ·rw [h]; exact a3
  ·rw [h]; exact a2
 ·rcases a4 with h | h
  ·rw [h]; exact b3
  ·rw [h]; exact b2
end Go.Proofs.Ytpnnpdfmoldiiaa
