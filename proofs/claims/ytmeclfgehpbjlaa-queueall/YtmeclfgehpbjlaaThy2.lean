/- Join and Put of what may be, as data. -/
import Derived.Test.YtmeclfgehpbjlaaThy
namespace Go.Proofs.Ytmeclfgehpbjlaa

theorem cov_iff {f : Nat → Int} {n N : Int} : coversB f n N = true ↔ 0 ≤ n ∧ n < 8 ∧ 1 ≤ N ∧ N ≤ f n.toNat := by simp [coversB]
theorem nc_iff {f : Nat → Int} {x : A} : nc f x = true ↔ ¬ (coversB f x.node x.num = true) := by simp [nc]
theorem cov_mono {f g : Nat → Int} (h : ∀ j, j < 8 → f j ≤ g j) {n N : Int} (hc : coversB f n N = true) : coversB g n N = true := by
  rw [cov_iff] at *
  have := h n.toNat (by omega)
  omega
theorem cov_max {f g : Nat → Int} {n N : Int} : coversB (maxV f g) n N = true ↔ coversB f n N = true ∨ coversB g n N = true := by
  simp only [cov_iff, maxV]
  omega
theorem cov_dot {f : Nat → Int} {x y : A} (h : EQ x y) (hc : coversB f x.node x.num = true) : coversB f y.node y.num = true := by rw [← h.1, ← h.2]; exact hc
theorem srt_take {l : List A} (h : Srt l) (n : Nat) : Srt (l.take n) := List.Pairwise.sublist (List.take_sublist n l) h
theorem first_or (x y : A) : firstA x y = x ∨ firstA x y = y := by unfold firstA; split <;> simp
theorem inM_mem {p q : A → Bool} {xs ys : List A} {z : A} (h : InM p q xs ys z) : z ∈ xs ∨ z ∈ ys := by
  rcases h with ⟨x, hx, y, hy, -, rfl⟩ | ⟨h, -⟩ | ⟨h, -⟩
  · rcases first_or x y with e | e
    · exact .inl (by rw [e]; exact hx)
    · exact .inr (by rw [e]; exact hy)
  · exact .inl h
  · exact .inr h
theorem may_join {f g : Nat → Int} {l k : List A} (h1 : MayP f l) (h2 : MayP g k) (p q : A → Bool) : MayP (maxV f g) ((mergeA p q l k).take 16) := by
  refine ⟨fun j hj => ?_, by simp; omega, srt_adj (srt_take (srt_merge _ _ _ _ (may_srt h1) (may_srt h2)) 16), fun x hx => ?_⟩
  · have := h1.seen j hj
    have := h2.seen j hj
    simp only [maxV]
    omega
  · rcases inM_mem ((mem_merge _ _ _ _ (may_srt h1) (may_srt h2) x).1 (List.mem_of_mem_take hx)) with h | h
    · exact ⟨cov_max.2 (.inl (h1.cov x h).1), (h1.cov x h).2⟩
    · exact ⟨cov_max.2 (.inr (h2.cov x h).1), (h2.cov x h).2⟩
theorem with_apply {f : Nat → Int} {n N : Int} (hn : nodeB n = true) (j : Nat) : withV f n N j = if j = n.toNat then max (f n.toNat) N else f j := by simp [withV, hn, upd]
/-- What Next makes is new, and of that node. -/
theorem next_ok {f : Nat → Int} {node n N : Int} (h : nextV f node = (n, N, 0)) : nodeB n = true ∧ n = node ∧ N = f n.toNat + 1 ∧ f n.toNat < 1099511627776 := by
  unfold nextV at h
  split at h
  · simp at h
  · rename_i hb
    split at h
    · simp at h
    · rename_i hc
      simp only [Prod.mk.injEq, and_true] at h
      obtain ⟨rfl, rfl⟩ := h
      exact ⟨by simpa using hb, rfl, rfl, by omega⟩
theorem cov_with {f : Nat → Int} {n N : Int} (hn : nodeB n = true) (hN : 1 ≤ N) : coversB (withV f n N) n N = true := by
  have : 0 ≤ n ∧ n < 8 := by simpa [nodeB] using hn
  rw [cov_iff, with_apply hn]
  simp
  omega
theorem with_le {f : Nat → Int} {n N : Int} : ∀ j, j < 8 → f j ≤ withV f n N j := by
  intro j _
  by_cases hn : nodeB n = true
  · rw [with_apply hn]
    split
    · rename_i e
      rw [← e]
      omega
    · omega
  · simp [withV, hn]
theorem not_cov_next {f : Nat → Int} {node n N : Int} (h : nextV f node = (n, N, 0)) : coversB f n N = false := by
  obtain ⟨-, -, h3, -⟩ := next_ok h
  simp only [coversB, decide_eq_false_iff_not]
  omega
theorem may_put {f g : Nat → Int} {l : List A} (h1 : MayP f l) (h2 : ∀ j, j < 8 → 0 ≤ g j ∧ g j ≤ 1099511627776) {node n N : Int} (hx : nextV (maxV f g) node = (n, N, 0)) {data : List Nat} {dead : Bool} (hd : okData data.length dead = true) (p q : A → Bool) (hl : (mergeA p q l [⟨n, N, data, dead⟩]).length ≤ 16) : MayP (withV (maxV f g) n N) (mergeA p q l [⟨n, N, data, dead⟩]) := by
  obtain ⟨h3, -, h4, h5⟩ := next_ok hx
  have hs : Srt [(⟨n, N, data, dead⟩ : A)] := by simp [Srt]
  have h0 : 0 ≤ maxV f g n.toNat := by
    have := h1.seen n.toNat (by simp [nodeB] at h3; omega)
    simp only [maxV]
    omega
  refine ⟨fun j hj => ?_, hl, srt_adj (srt_merge _ _ _ _ (may_srt h1) hs), fun x hx => ?_⟩
  · rw [with_apply h3]
    have a1 := h1.seen j hj
    have a2 := h2 j hj
    simp only [maxV] at *
    split <;> omega
  · rcases inM_mem ((mem_merge _ _ _ _ (may_srt h1) hs x).1 hx) with h | h
    · exact ⟨cov_mono with_le (cov_max.2 (.inl (h1.cov x h).1)), (h1.cov x h).2⟩
    · simp only [List.mem_singleton] at h
      subst h
      exact ⟨cov_with h3 (by omega), hd⟩
theorem merge_apart (p q : A → Bool) : ∀ (xs ys : List A), (∀ x ∈ xs, ∀ y ∈ ys, LT x y) → mergeA p q xs ys = xs.filter p ++ ys.filter q
  | [], ys, _ => by rw [mergeA_nil _ _ _ _ (.inl rfl)]
  | x :: xs, [], _ => by rw [mergeA_nil _ _ _ _ (.inr rfl)]
  | x :: xs, y :: ys, h => by
    rw [mergeA_lt _ _ _ _ (less_iff.2 (h x (by simp) y (by simp))), merge_apart p q xs (y :: ys) (fun a ha b hb => h a (by simp [ha]) b hb)]
    cases hp : p x <;> simp [keep, hp]
theorem len_all (p q : A → Bool) (xs ys : List A) (hp : ∀ x ∈ xs, p x = true) (hq : ∀ y ∈ ys, q y = true) (hn : ∀ x ∈ xs, ∀ y ∈ ys, ¬ EQ x y) : (mergeA p q xs ys).length = xs.length + ys.length := by
  induction xs, ys using mergeA_ind with
  | case1 ys =>
    rw [mergeA_nil _ _ _ _ (.inl rfl), List.filter_eq_self.2 hq]
    simp
  | case2 x xs =>
    rw [mergeA_nil _ _ _ _ (.inr rfl), List.filter_eq_self.2 hp]
    simp
  | case3 x xs y ys h ih =>
    have := ih (fun a ha => hp a (by simp [ha])) hq (fun a ha => hn a (by simp [ha]))
    rw [mergeA_lt _ _ _ _ h, hp x (by simp)]
    simp only [keep, if_true, List.length_append, List.length_cons, List.length_nil] at *
    omega
  | case4 x xs y ys h h' ih =>
    have := ih hp (fun a ha => hq a (by simp [ha])) (fun a ha b hb => hn a ha b (by simp [hb]))
    rw [mergeA_gt _ _ _ _ (by simpa using h) h', hq y (by simp)]
    simp only [keep, if_true, List.length_append, List.length_cons, List.length_nil] at *
    omega
  | case5 x xs y ys h h' ih =>
    have he : EQ x y := by
      rcases tri x y with h2 | h2 | h2
      · exact (h (less_iff.2 h2)).elim
      · exact (h' (less_iff.2 h2)).elim
      · exact h2
    exact (hn x (by simp) y (by simp) he).elim
end Go.Proofs.Ytmeclfgehpbjlaa
