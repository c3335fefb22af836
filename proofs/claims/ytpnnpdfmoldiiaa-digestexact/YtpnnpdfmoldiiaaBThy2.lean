/- Items of several texts. -/
import Derived.Test.YtpnnpdfmoldiiaaBThy
namespace Go.Proofs.Ytpnnpdfmoldiiaa
theorem cov_iff {f : Nat → Int} {n N : Int} : coversB f n N = true ↔ 0 ≤ n ∧ n < 8 ∧ 1 ≤ N ∧ N ≤ f n.toNat := by simp [coversB]
theorem nc_iff {f : Nat → Int} {x : A} : nc f x = true ↔ ¬ (coversB f x.node x.num = true) := by simp [nc]
theorem cov_mono {f g : Nat → Int} (h : ∀ j, j < 8 → f j ≤ g j) {n N : Int} (hc : coversB f n N = true) : coversB g n N = true := by
 rw [cov_iff] at *
 have := h n.toNat (by omega)
 omega
theorem cov_max {f g : Nat → Int} {n N : Int} : coversB (maxV f g) n N = true ↔ coversB f n N = true ∨ coversB g n N = true := by
 simp only [cov_iff, maxV]
 omega
theorem cov_dot {f : Nat → Int} {x y : A} (h : EQ x y) (hc : coversB f x.node x.num = true) : coversB f y.node y.num = true := by rw [← h.1, ← h.2]; exact hc
theorem srt_take {l : List A} (h : Srt l) (n : Nat) : Srt (l.take n) := List.Pairwise.sublist (List.take_sublist n l) h
theorem first_or (x y : A) : firstA x y = x ∨ firstA x y = y := by unfold firstA; split <;> simp
theorem inM_mem {p q : A → Bool} {xs ys : List A} {z : A} (h : InM p q xs ys z) : z ∈ xs ∨ z ∈ ys := by
 rcases h with ⟨x, hx, y, hy, -, rfl⟩ | ⟨h, -⟩ | ⟨h, -⟩
 ·rcases first_or x y with e | e
  ·exact .inl (by rw [e]; exact hx)
  ·exact .inr (by rw [e]; exact hy)
 ·exact .inl h
 ·exact .inr h
theorem may_join {f g : Nat → Int} {l k : List A} (h1 : MayP f l) (h2 : MayP g k) (p q : A → Bool) : MayP (maxV f g) ((mergeA p q l k).take 16) := by
 refine ⟨fun j hj => ?_, by simp; omega, srt_adj (srt_take (srt_merge _ _ _ _ (may_srt h1) (may_srt h2)) 16), fun x hx => ?_⟩
 ·have := h1.seen j hj
  have := h2.seen j hj
  simp only [maxV]
  omega
 ·rcases inM_mem ((mem_merge _ _ _ _ (may_srt h1) (may_srt h2) x).1 (List.mem_of_mem_take hx)) with h | h
  ·exact ⟨cov_max.2 (.inl (h1.cov x h).1), (h1.cov x h).2⟩
  ·exact ⟨cov_max.2 (.inr (h2.cov x h).1), (h2.cov x h).2⟩
end Go.Proofs.Ytpnnpdfmoldiiaa
