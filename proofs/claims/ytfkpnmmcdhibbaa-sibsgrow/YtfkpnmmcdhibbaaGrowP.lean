/- What is put is there, what its writer had seen is gone, the rest stands: as data. -/
import Derived.Test.YtfkpnmmcdhibbaaOrdQ
namespace Go.Proofs.Ytfkpnmmcdhibbaa

theorem len_apart (p q : A → Bool) (xs ys : List A) (hne : ∀ x ∈ xs, ∀ y ∈ ys, ¬ EQ x y) : (mergeA p q xs ys).length = (xs.filter p).length + (ys.filter q).length := by
  induction xs, ys using mergeA_ind with
  | case1 ys =>
    rw [mergeA_nil _ _ _ _ (.inl rfl)]
    simp
  | case2 x xs =>
    rw [mergeA_nil _ _ _ _ (.inr rfl)]
    simp
  | case3 x xs y ys h ih =>
    rw [mergeA_lt _ _ _ _ h, List.length_append, ih (fun x' hx' => hne x' (by simp [hx']))]
    unfold keep
    cases hp : p x <;> simp [hp] <;> omega
  | case4 x xs y ys h h' ih =>
    rw [mergeA_gt _ _ _ _ (by simpa using h) h', List.length_append, ih (fun x' hx' y' hy' => hne x' hx' y' (by simp [hy']))]
    unfold keep
    cases hq : q y <;> simp [hq] <;> omega
  | case5 x xs y ys h h' ih =>
    exfalso
    have h1 := not_less.1 (by simpa using h)
    have h2 := not_less.1 (by simpa using h')
    refine hne x (by simp) y (by simp) ?_
    unfold LT at h1 h2
    unfold EQ
    omega
/-- What Put tells, where it tells OK: the new one n, and of what was all that its writer had not seen. -/
theorem grow_put {f g : Nat → Int} {l : List A} {node : Int} {data : List Nat} (h1 : MayP f l) (h : putE f g l node data false = 0) :
    ∃ n : A, n.node = node ∧ n.data = data ∧ n.dead = false ∧ coversB f n.node n.num = false ∧ (∀ x ∈ l, ¬ EQ x n) ∧ MayP (putV f g l node data false) (putL f g l node data false) ∧ (∀ j, j < 8 → f j ≤ putV f g l node data false j) ∧ (∀ j, j < 8 → g j ≤ putV f g l node data false j) ∧
      (∀ z, z ∈ putL f g l node data false ↔ z = n ∨ z ∈ l ∧ coversB g z.node z.num = false) ∧ (putL f g l node data false).length = (l.filter (nc g)).length + 1 := by
  have hE := h
  cases hb : mayB g
  · simp [putE, may_yes h1, hb] at h
  have hs : ∀ j, j < 8 → 0 ≤ g j ∧ g j ≤ 1099511627776 := by simpa only [mayB, decide_eq_true_eq] using hb
  cases hok : okData data.length false
  · simp [putE, may_yes h1, hb, hok] at h
  rcases hx : nextV (maxV f g) node with ⟨n, N, er⟩
  by_cases her : er = 0
  · subst her
    have hr : putR f g l node data false = mergeA (nc g) (nc (maxV f g)) l [⟨n, N, data, false⟩] := by simp only [putR, putN, hx]
    have hlen : (mergeA (nc g) (nc (maxV f g)) l [⟨n, N, data, false⟩]).length ≤ 16 := by
      rw [← hr]
      by_cases hl : 16 < (putR f g l node data false).length
      · simp [putE, may_yes h1, hb, hok, hx, hl] at h
      · omega
    have hnew := not_cov_next hx
    have hnf : coversB f n N = false := by
      cases hc : coversB f n N
      · rfl
      · have : coversB (maxV f g) n N = true := cov_max.2 (.inl hc)
        rw [hnew] at this
        cases this
    have hne : ∀ x ∈ l, ¬ EQ x (⟨n, N, data, false⟩ : A) := fun x hx e => by
      have := cov_dot e (h1.cov x hx).1
      simp only [hnf] at this
      cases this
    have hm := may_put (p := nc g) (q := nc (maxV f g)) (dead := false) h1 hs hx hok hlen
    have hv : putV f g l node data false = withV (maxV f g) n N := by simp only [putV, hE, if_true, hx]
    have hl : putL f g l node data false = mergeA (nc g) (nc (maxV f g)) l [⟨n, N, data, false⟩] := by simp only [putL, hE, if_true, hr]
    have hq : nc (maxV f g) (⟨n, N, data, false⟩ : A) = true := by simp [nc, hnew]
    refine ⟨⟨n, N, data, false⟩, (next_ok hx).2.1, rfl, rfl, hnf, hne, by rw [hv, hl]; exact hm, fun j hj => ?_, fun j hj => ?_, fun z => ?_, ?_⟩
    · rw [hv]
      have := with_le (f := maxV f g) (n := n) (N := N) j hj
      have h3 : f j ≤ maxV f g j := by simp only [maxV]; omega
      omega
    · rw [hv]
      have := with_le (f := maxV f g) (n := n) (N := N) j hj
      have h3 : g j ≤ maxV f g j := by simp only [maxV]; omega
      omega
    · have hs1 : Srt [(⟨n, N, data, false⟩ : A)] := by simp [Srt]
      rw [hl, mem_merge _ _ _ _ (may_srt h1) hs1]
      constructor
      · rintro (⟨x, hx, y, hy, e, -⟩ | ⟨hz, hp, -⟩ | ⟨hz, -, -⟩)
        · simp only [List.mem_singleton] at hy
          subst hy
          exact (hne x hx e).elim
        · exact .inr ⟨hz, by simpa [nc] using hp⟩
        · exact .inl (by simpa using hz)
      · rintro (rfl | ⟨hz, hc⟩)
        · exact .inr (.inr ⟨by simp, hq, hne⟩)
        · exact .inr (.inl ⟨hz, by simp [nc, hc], fun y hy => by
            simp only [List.mem_singleton] at hy
            subst hy
            exact hne z hz⟩)
    · rw [hl, len_apart _ _ _ _ (fun x hx y hy => by
        simp only [List.mem_singleton] at hy
        subst hy
        exact hne x hx)]
      simp [hq]
  · exfalso
    simp [putE, may_yes h1, hb, hok, hx, her] at h
theorem grow_leq {f u : Nat → Int} {l k : List A} {n : A} {g : Nat → Int} (h1 : MayP f l) (hu : MayP u k) (hle : ∀ j, j < 8 → f j ≤ u j) (hn : coversB f n.node n.num = false) (hne : ∀ x ∈ l, ¬ EQ x n) (hk : ∀ z, z ∈ k ↔ z = n ∨ z ∈ l ∧ coversB g z.node z.num = false) : leqS f u l k = true := by
  have hs := may_srt h1
  have uniq : ∀ x ∈ l, ∀ y ∈ l, EQ x y → x = y := by
    intro x hx y hy e
    obtain ⟨i, hi, rfl⟩ := List.getElem_of_mem hx
    obtain ⟨j, hj, rfl⟩ := List.getElem_of_mem hy
    unfold Srt at hs
    rw [List.pairwise_iff_getElem] at hs
    rcases Nat.lt_trichotomy i j with h | h | h
    · exact ((hs i j hi hj h).ne e).elim
    · subst h
      rfl
    · exact ((hs j i hj hi h).ne' e).elim
  refine leq_iff.2 ⟨h1, hu, hle, ?_⟩
  have e : mergeA (nc u) (nc f) l k = k := by
    refine srt_ext (srt_merge _ _ _ _ hs (may_srt hu)) (may_srt hu) (fun z => ?_)
    rw [mem_merge _ _ _ _ hs (may_srt hu)]
    constructor
    · rintro (⟨x, hx, y, hy, e, he⟩ | ⟨hz, hp, -⟩ | ⟨hz, -, -⟩)
      · rcases (hk y).1 hy with rfl | ⟨hy2, -⟩
        · exact (hne x hx e).elim
        · obtain rfl := uniq x hx y hy2 e
          rw [he, first_self]
          exact hy
      · rw [nc_iff] at hp
        exact (hp (cov_mono hle (h1.cov z hz).1)).elim
      · exact hz
    · intro hz
      rcases (hk z).1 hz with rfl | ⟨hz2, -⟩
      · exact .inr (.inr ⟨hz, by simp [nc, hn], hne⟩)
      · exact .inl ⟨z, hz2, z, hz, ⟨rfl, rfl⟩, (first_self z).symm⟩
  rw [e]
  exact take_may hu
theorem grow_reap {f : Nat → Int} {l : List A} (h : MayP f l) : MayP (reapV f l) (reapL f l) ∧ leqS f (reapV f l) l (reapL f l) = true := by
  have hv : reapV f l = f := by simp [reapV, may_yes h]
  rw [hv]
  cases ha : anyA l
  · have hr : reapL f l = [] := by simp [reapL, ha]
    rw [hr]
    refine ⟨may_none h.seen, leq_iff.2 ⟨h, may_none h.seen, fun _ _ => Int.le_refl _, ?_⟩⟩
    rw [mergeA_nil _ _ _ _ (.inr rfl)]
    have : l.filter (nc f) = [] := by
      rw [List.filter_eq_nil_iff]
      intro y hy hn
      rw [nc_iff] at hn
      exact hn (h.cov y hy).1
    rw [this]
    rfl
  · have hr : reapL f l = l := by simp [reapL, ha, may_yes h]
    rw [hr]
    refine ⟨h, leq_iff.2 ⟨h, h, fun _ _ => Int.le_refl _, ?_⟩⟩
    rw [merge_self]
    exact take_may h
end Go.Proofs.Ytfkpnmmcdhibbaa
