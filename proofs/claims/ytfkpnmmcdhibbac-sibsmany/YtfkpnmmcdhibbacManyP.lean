/- SibsMany, as data. -/
import Derived.Test.YtfkpnmmcdhibbacThy2
namespace Go.Proofs.Ytfkpnmmcdhibbac

theorem put_ok {f g : Nat → Int} {l : List A} {node n N : Int} {data : List Nat} {dead : Bool} (h1 : MayP f l) (h2 : ∀ j, j < 8 → 0 ≤ g j ∧ g j ≤ 1099511627776) (h3 : okData data.length dead = true) (h4 : nextV (maxV f g) node = (n, N, 0)) (h5 : (mergeA (nc g) (nc (maxV f g)) l [⟨n, N, data, dead⟩]).length ≤ 16) :
    putE f g l node data dead = 0 ∧ putL f g l node data dead = mergeA (nc g) (nc (maxV f g)) l [⟨n, N, data, dead⟩] ∧ putV f g l node data dead = withV (maxV f g) n N := by
  have hb : mayB g = true := by simp [mayB]; exact h2
  have hr : putR f g l node data dead = mergeA (nc g) (nc (maxV f g)) l [⟨n, N, data, dead⟩] := by simp [putR, putN, h4]
  have he : putE f g l node data dead = 0 := by
    have : ¬ 16 < (putR f g l node data dead).length := by rw [hr]; omega
    simp [putE, may_yes h1, hb, h3, h4, this]
  exact ⟨he, by simp [putL, he, hr], by simp [putV, he, h4]⟩
theorem zer_seen : ∀ j, j < 8 → 0 ≤ zer j ∧ zer j ≤ 1099511627776 := fun j _ => by simp [zer]
theorem max_zer {f : Nat → Int} {l : List A} (h : MayP f l) : ∀ j, j < 8 → maxV f zer j = f j := fun j hj => by
  have := (h.seen j hj).1
  simp only [maxV, zer]
  omega
theorem nc_zer (x : A) : nc zer x = true := by
  rw [nc_iff, cov_iff]
  simp only [zer]
  omega
theorem next_small {f : Nat → Int} {node : Int} (hn : nodeB node = true) (hs : f node.toNat < 1099511627776) : nextV f node = (node, f node.toNat + 1, 0) := by
  have : ¬ 1099511627776 ≤ f node.toNat := by omega
  simp [nextV, hn, this]
theorem next_new {f : Nat → Int} {l : List A} (h : MayP f l) {x : A} (hx : coversB f x.node x.num = false) : ∀ y ∈ l, ¬ EQ y x := fun y hy e => by
  have := cov_dot e (h.cov y hy).1
  rw [hx] at this
  cases this
/-- One more. -/
theorem many_step {f : Nat → Int} {l : List A} {i : Nat} {node : Int} {b : Nat} (h1 : MayP f l) (hl : l.length = min i 16) (hV : ∀ j, j < 8 → f j ≤ i) (hi : i ≤ 100) (hn : nodeB node = true) :
    (i < 16 → putE f zer l node [b] false = 0 ∧ (putL f zer l node [b] false).length = i + 1 ∧ MayP (putV f zer l node [b] false) (putL f zer l node [b] false) ∧ ∀ j, j < 8 → putV f zer l node [b] false j ≤ ((i + 1 : Nat) : Int)) ∧ (16 ≤ i → putE f zer l node [b] false = 11) := by
  have h8 : node.toNat < 8 := by simp [nodeB] at hn; omega
  have e8 := max_zer h1 _ h8
  have hv8 := hV _ h8
  have hnx : nextV (maxV f zer) node = (node, maxV f zer node.toNat + 1, 0) := next_small hn (by rw [e8]; omega)
  have hnew := not_cov_next hnx
  have hlen : (mergeA (nc zer) (nc (maxV f zer)) l [(⟨node, maxV f zer node.toNat + 1, [b], false⟩ : A)]).length = l.length + 1 := by
    refine len_all _ _ _ _ (fun x _ => nc_zer x) (fun y hy => ?_) (fun x hx y hy e => ?_)
    · simp only [List.mem_singleton] at hy
      subst hy
      simp [nc, hnew]
    · simp only [List.mem_singleton] at hy
      subst hy
      have := cov_dot e (cov_max.2 (.inl (h1.cov x hx).1) : coversB (maxV f zer) x.node x.num = true)
      simp only [hnew] at this
      cases this
  have hd : okData [b].length false = true := by simp [okData]
  constructor
  · intro h16
    have hle : (mergeA (nc zer) (nc (maxV f zer)) l [(⟨node, maxV f zer node.toNat + 1, [b], false⟩ : A)]).length ≤ 16 := by omega
    obtain ⟨p1, p2, p3⟩ := put_ok h1 zer_seen hd hnx hle
    have hm := may_put h1 zer_seen hnx hd (nc zer) (nc (maxV f zer)) hle
    refine ⟨p1, by rw [p2, hlen]; omega, by rw [p2, p3]; exact hm, fun j hj => ?_⟩
    rw [p3, with_apply hn]
    have := hV j hj
    split
    · omega
    · rw [max_zer h1 j hj]; omega
  · intro h16
    have hb : mayB zer = true := by simp [mayB]; exact zer_seen
    have hr : putR f zer l node [b] false = mergeA (nc zer) (nc (maxV f zer)) l [(⟨node, maxV f zer node.toNat + 1, [b], false⟩ : A)] := by simp [putR, putN, hnx]
    have : 16 < (putR f zer l node [b] false).length := by rw [hr]; omega
    simp only [putE, may_yes h1, hb, hd, hnx]
    simp [this]
/-- The events of one node, one behind the other. -/
structure Chain (node : Int) (i : Nat) (f : Nat → Int) (l : List A) : Prop where
  may : MayP f l
  len : l.length = i
  dots : ∀ (k : Nat) (x : A), l[k]? = some x → x.node = node ∧ x.num = (k : Int) + 1
  cnt : f node.toNat = i
  rest : ∀ j, j < 8 → j ≠ node.toNat → f j = 0
theorem Chain.zero (node : Int) : Chain node 0 zer [] := ⟨may_zer, rfl, by simp, by simp [zer], fun _ _ _ => rfl⟩
theorem Chain.step {node : Int} {i : Nat} {f : Nat → Int} {l : List A} (h : Chain node i f l) (hn : nodeB node = true) (hi : i < 16) (b : Nat) : putE f zer l node [b] false = 0 ∧ Chain node (i + 1) (putV f zer l node [b] false) (putL f zer l node [b] false) := by
  have h8 : node.toNat < 8 := by simp [nodeB] at hn; omega
  have e8 := max_zer h.may _ h8
  have hcnt := h.cnt
  have hnx : nextV (maxV f zer) node = (node, maxV f zer node.toNat + 1, 0) := next_small hn (by rw [e8, hcnt]; omega)
  have hnew := not_cov_next hnx
  have hd : okData [b].length false = true := by simp [okData]
  have hap : mergeA (nc zer) (nc (maxV f zer)) l [(⟨node, maxV f zer node.toNat + 1, [b], false⟩ : A)] = l ++ [(⟨node, maxV f zer node.toNat + 1, [b], false⟩ : A)] := by
    rw [merge_apart]
    · rw [List.filter_eq_self.2 (fun x _ => nc_zer x)]
      simp [nc, hnew]
    · intro x hx y hy
      simp only [List.mem_singleton] at hy
      subst hy
      obtain ⟨k, hk⟩ := List.getElem?_of_mem hx
      have hd := h.dots k x hk
      have hkl : k < l.length := by
        obtain ⟨h, -⟩ := List.getElem?_eq_some_iff.1 hk
        exact h
      have := h.len
      right
      refine ⟨hd.1, ?_⟩
      simp only
      rw [hd.2, e8, hcnt]
      omega
  have hle : (mergeA (nc zer) (nc (maxV f zer)) l [(⟨node, maxV f zer node.toNat + 1, [b], false⟩ : A)]).length ≤ 16 := by rw [hap]; simp; have := h.len; omega
  obtain ⟨p1, p2, p3⟩ := put_ok h.may zer_seen hd hnx hle
  have hm := may_put h.may zer_seen hnx hd (nc zer) (nc (maxV f zer)) hle
  refine ⟨p1, ⟨by rw [p2, p3]; exact hm, by rw [p2, hap]; simp [h.len], fun k x hk => ?_, ?_, fun j hj hne => ?_⟩⟩
  · rw [p2, hap] at hk
    rcases Nat.lt_or_ge k l.length with h2 | h2
    · rw [List.getElem?_append_left h2] at hk
      exact h.dots k x hk
    · rw [List.getElem?_append_right h2] at hk
      have hz : k - l.length = 0 := by
        rcases Nat.eq_zero_or_pos (k - l.length) with h3 | h3
        · exact h3
        · rw [List.getElem?_eq_none (by simp; omega)] at hk
          cases hk
      rw [hz] at hk
      simp at hk
      subst hk
      have := h.len
      refine ⟨rfl, ?_⟩
      simp only
      rw [e8, hcnt]
      omega
  · rw [p3, with_apply hn]
    simp only [if_true]
    rw [e8, hcnt]
    omega
  · rw [p3, with_apply hn, if_neg hne, max_zer h.may j hj]
    exact h.rest j hj hne
/-- Two of them, joined. -/
theorem chain_join {f g : Nat → Int} {l k : List A} (h1 : Chain 0 10 f l) (h2 : Chain 1 10 g k) : joinL f g l k = (l ++ k).take 16 ∧ joinV f g l k = maxV f g ∧ MayP (joinV f g l k) (joinL f g l k) := by
  have hv : joinV f g l k = maxV f g := by simp [joinV, may_yes h1.may, may_yes h2.may]
  have hl : joinL f g l k = (mergeA (nc g) (nc f) l k).take 16 := by simp [joinL, may_yes h1.may, may_yes h2.may]
  refine ⟨?_, hv, by rw [hv, hl]; exact may_join h1.may h2.may _ _⟩
  rw [hl, merge_apart]
  · rw [List.filter_eq_self.2, List.filter_eq_self.2]
    · intro x hx
      obtain ⟨i, hi⟩ := List.getElem?_of_mem hx
      have hd := h2.dots i x hi
      have := h1.rest 1 (by decide) (by decide)
      rw [nc_iff, hd.1, hd.2, cov_iff]
      simp only [show (1 : Int).toNat = 1 from rfl, this]
      omega
    · intro x hx
      obtain ⟨i, hi⟩ := List.getElem?_of_mem hx
      have hd := h1.dots i x hi
      have := h2.rest 0 (by decide) (by decide)
      rw [nc_iff, hd.1, hd.2, cov_iff]
      simp only [show (0 : Int).toNat = 0 from rfl, this]
      omega
  · intro x hx y hy
    obtain ⟨i, hi⟩ := List.getElem?_of_mem hx
    obtain ⟨j, hj⟩ := List.getElem?_of_mem hy
    have a1 := h1.dots i x hi
    have a2 := h2.dots j y hj
    left
    omega
theorem chain_end {f g : Nat → Int} {l k : List A} (h1 : Chain 0 10 f l) (h2 : Chain 1 10 g k) : (joinL f g l k).length = 16 ∧ joinV f g l k 0 = 10 ∧ joinV f g l k 1 = 10 ∧ (∀ x, (joinL f g l k)[9]? = some x → x.node = 0 ∧ x.num = 10) ∧ (∀ x, (joinL f g l k)[15]? = some x → x.node = 1 ∧ x.num = 6) := by
  obtain ⟨j1, j2, -⟩ := chain_join h1 h2
  have n1 := h1.len
  have n2 := h2.len
  have c1 : f 0 = 10 := h1.cnt
  have c2 : g 1 = 10 := h2.cnt
  have r1 := h1.rest 1 (by decide) (by decide)
  have r2 := h2.rest 0 (by decide) (by decide)
  rw [j1, j2]
  refine ⟨by simp; omega, by simp only [maxV, c1, r2]; omega, by simp only [maxV, c2, r1]; omega, fun x hx => ?_, fun x hx => ?_⟩
  · rw [List.getElem?_take, if_pos (by decide), List.getElem?_append_left (by omega)] at hx
    exact h1.dots 9 x hx
  · rw [List.getElem?_take, if_pos (by decide), List.getElem?_append_right (by omega), n1] at hx
    exact h2.dots 5 x hx
end Go.Proofs.Ytfkpnmmcdhibbac
