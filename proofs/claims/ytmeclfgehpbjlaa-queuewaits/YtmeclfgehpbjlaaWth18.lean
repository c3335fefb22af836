/- The theory of QueueWaits: who is taken when. -/
import Derived.Test.YtmeclfgehpbjlaaQu18
namespace Go.Proofs.Ytmeclfgehpbjlaa

def klm (u : Int) : Nat := (max 0 (min u 3)).toNat
theorem klm_le (u : Int) : klm u ≤ 3 := by unfold klm; omega
theorem klm_wgt (u : Int) : wgt u = 4 * ((klm u : Nat) : Int) := by unfold wgt klm; omega
theorem klm_is (u : Int) : max 0 (min u 3) = ((klm u : Nat) : Int) := by unfold klm; omega
def cntN (n : Nat) (l : List (Int × Int)) : Nat := (l.filter (fun x => decide (x.1 < (n : Int)))).length
theorem cnt_snoc (n : Nat) (l : List (Int × Int)) (m : Int × Int) : cntN n (l ++ [m]) = cntN n l + (if m.1 < (n : Int) then 1 else 0) := by
  unfold cntN
  rw [List.filter_append, List.length_append]
  by_cases h : m.1 < (n : Int) <;> simp [h]
theorem cnt_ins (n : Nat) (b k : Int) : ∀ l : List (Int × Int), cntN n (insQ b k l) = cntN n l + (if k < (n : Int) then 1 else 0)
  | [] => by
    unfold insQ cntN
    by_cases h : k < (n : Int) <;> simp [h]
  | x :: l => by
    unfold insQ
    split
    · have ih := cnt_ins n b k l
      unfold cntN at *
      by_cases h : x.1 < (n : Int)
      · simp only [List.filter_cons, h, decide_true, if_true, List.length_cons, ih]
        omega
      · simp only [List.filter_cons, h, decide_false, Bool.false_eq_true, if_false, ih]
    · unfold cntN
      by_cases h : k < (n : Int)
      · simp only [List.filter_cons (x := ((k, b) : Int × Int)), h, decide_true, if_true, List.length_cons]
      · simp only [List.filter_cons (x := ((k, b) : Int × Int)), h, decide_false, Bool.false_eq_true, if_false, Nat.add_zero]
theorem cnt_pos {n : Nat} {l : List (Int × Int)} (h : 0 < cntN n l) : ∃ x ∈ l, x.1 < (n : Int) := by
  unfold cntN at h
  obtain ⟨x, hx⟩ := List.exists_mem_of_length_pos h
  rw [List.mem_filter] at hx
  exact ⟨x, hx.1, of_decide_eq_true hx.2⟩
/-- What one put as number j is put at. -/
def bsW (n : Nat) (U : Nat → Nat) (j : Nat) : Int := 4 * ((U j : Nat) : Int) - (if j < n then 0 else 13)
structure WI (n k c : Nat) (U : Nat → Nat) (l : List (Int × Int)) : Prop where
  ok : ∀ x ∈ l, ∃ j : Nat, x.1 = (j : Int) ∧ j < k ∧ x.2 = bsW n U j
  ord : l.Pairwise (fun x y => x.2 < y.2 ∨ (x.2 = y.2 ∧ y.1 < x.1))
  cnt : cntN n l = c
theorem WI.nil (n : Nat) (U : Nat → Nat) : WI n 0 0 U [] := ⟨fun x hx => (by cases hx), List.Pairwise.nil, rfl⟩
theorem ord_ins {b k : Int} : ∀ {l : List (Int × Int)}, l.Pairwise (fun x y => x.2 < y.2 ∨ (x.2 = y.2 ∧ y.1 < x.1)) → (∀ x ∈ l, x.1 < k) → (insQ b k l).Pairwise (fun x y => x.2 < y.2 ∨ (x.2 = y.2 ∧ y.1 < x.1))
  | [], _, _ => by
    unfold insQ
    exact List.pairwise_cons.2 ⟨fun y hy => (by cases hy), List.Pairwise.nil⟩
  | x :: l, h, hk => by
    obtain ⟨h1, h2⟩ := List.pairwise_cons.1 h
    unfold insQ
    split
    · rename_i hx
      refine List.pairwise_cons.2 ⟨fun y hy => ?_, ord_ins h2 (fun y hy => hk y (List.mem_cons.2 (.inr hy)))⟩
      rcases mem_ins hy with rfl | hy
      · exact .inl hx
      · exact h1 y hy
    · rename_i hx
      refine List.pairwise_cons.2 ⟨fun y hy => ?_, h⟩
      have hyk := hk y hy
      rcases List.mem_cons.1 hy with rfl | hy
      · show b < y.2 ∨ (b = y.2 ∧ y.1 < k)
        omega
      · have := h1 y hy
        show b < y.2 ∨ (b = y.2 ∧ y.1 < k)
        omega
theorem WI.put {n k c : Nat} {U : Nat → Nat} {l : List (Int × Int)} (h : WI n k c U l) {b : Int} (hb : b = bsW n U k) : WI n (k + 1) (c + (if k < n then 1 else 0)) U (insQ b (k : Int) l) := by
  refine ⟨fun x hx => ?_, ord_ins h.ord (fun x hx => ?_), ?_⟩
  · rcases mem_ins hx with rfl | hx
    · exact ⟨k, rfl, by omega, hb⟩
    · obtain ⟨j, h1, h2, h3⟩ := h.ok x hx
      exact ⟨j, h1, by omega, h3⟩
  · obtain ⟨j, h1, h2, -⟩ := h.ok x hx
    omega
  · rw [cnt_ins, h.cnt]
    congr 1
    by_cases hk : k < n
    · rw [if_pos hk, if_pos (by omega)]
    · rw [if_neg hk, if_neg (by omega)]
/-- What is left to be taken: none of it was seen, and none is ahead of the last of its urgency. -/
structure WL (n k c : Nat) (U : Nat → Nat) (l : List (Int × Int)) (S : Nat → Bool) (V : Nat → Int) : Prop where
  wi : WI n k c U l
  sen : ∀ x ∈ l, ∀ j : Nat, x.1 = (j : Int) → S j = false ∧ V (U j) ≤ (j : Int)
theorem WL.last {n k c : Nat} {U : Nat → Nat} (hU : ∀ j, U j ≤ 3) {l : List (Int × Int)} {m : Int × Int} {S : Nat → Bool} {V : Nat → Int} (h : WL n k c U (l ++ [m]) S V) :
    ∃ j : Nat, m.1 = (j : Int) ∧ j < k ∧ S j = false ∧ V (U j) ≤ (j : Int) ∧ (j < n ↔ 0 < c) ∧ WL n k (c - 1) U l (fun i => if i = j then true else S i) (fun v => if v = U j then (j : Int) else V v) := by
  have hm : m ∈ l ++ [m] := List.mem_append.2 (.inr (List.mem_singleton.2 rfl))
  obtain ⟨j, h1, h2, h3⟩ := h.wi.ok m hm
  obtain ⟨h4, h5⟩ := h.sen m hm j h1
  have hp := List.pairwise_append.1 h.wi.ord
  have hc := h.wi.cnt
  rw [cnt_snoc] at hc
  have hbj : m.2 = 4 * ((U j : Nat) : Int) - (if j < n then 0 else 13) := h3
  have hiff : j < n ↔ 0 < c := by
    constructor
    · intro hj
      rw [if_pos (by omega)] at hc
      omega
    · intro h0
      by_cases hj : j < n
      · exact hj
      · rw [if_neg (by omega)] at hc
        obtain ⟨x, hx, hxn⟩ := cnt_pos (n := n) (l := l) (by omega)
        obtain ⟨i, g1, g2, g3⟩ := h.wi.ok x (List.mem_append.2 (.inl hx))
        have hbi : x.2 = 4 * ((U i : Nat) : Int) - (if i < n then 0 else 13) := g3
        have := hp.2.2 x hx m (List.mem_singleton.2 rfl)
        have hu := hU j
        rw [if_neg hj] at hbj
        rw [if_pos (by omega)] at hbi
        omega
  refine ⟨j, h1, h2, h4, h5, hiff, ⟨⟨fun x hx => h.wi.ok x (List.mem_append.2 (.inl hx)), hp.1, ?_⟩, fun x hx i hi => ?_⟩⟩
  · by_cases hj : j < n
    · rw [if_pos (by omega)] at hc
      omega
    · rw [if_neg (by omega)] at hc
      have : ¬ 0 < c := fun e => hj (hiff.2 e)
      omega
  · obtain ⟨i', g1, g2, g3⟩ := h.wi.ok x (List.mem_append.2 (.inl hx))
    obtain rfl : i' = i := by omega
    have hbi : x.2 = 4 * ((U i' : Nat) : Int) - (if i' < n then 0 else 13) := g3
    have hr := hp.2.2 x hx m (List.mem_singleton.2 rfl)
    obtain ⟨s1, s2⟩ := h.sen x (List.mem_append.2 (.inl hx)) i' g1
    have hij : i' ≠ j := by
      intro e
      rw [e] at hbi g1
      rw [g1, h1] at hr
      omega
    refine ⟨by show (if i' = j then true else S i') = false; rw [if_neg hij]; exact s1, ?_⟩
    show (if U i' = U j then (j : Int) else V (U i')) ≤ (i' : Int)
    by_cases e : U i' = U j
    · rw [if_pos e]
      rw [e] at hbi
      by_cases hi : i' < n <;> by_cases hj : j < n <;> simp only [hi, hj, if_true, if_false] at hbi hbj <;> omega
    · rw [if_neg e]
      exact s2
end Go.Proofs.Ytmeclfgehpbjlaa
