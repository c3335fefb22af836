/- What calls make of a view: what is held may be and grows; told once more, told less; two that tell each other all. -/
import Derived.Test.YtakijikehpblfaaDo16
namespace Go.Proofs.Ytakijikehpblfaa
open Go.RowKit

/-- All that is held may be. -/
def MayI (d : VD) : Prop := ∀ i, mayB (d.m i).1 (d.m i).2 = true
theorem MayI.d0 (n s : Nat) : MayI (d0 n s) := fun _ => rfl
theorem rf_may {s i t j : Int} (h : mayB s i = true) (h2 : mayB t j = true) : mayB (rfS s i t j) (rfI s i t j) = true := by
  have h1 := may_of h
  have h3 := may_of h2
  unfold rfS rfI
  unfold mayB
  rw [decide_eq_true_iff]
  by_cases a : rA i t j = true
  · rw [if_pos (.inl a), if_pos a]
    unfold rA at a
    rw [Bool.and_eq_true] at a
    have := of_decide_eq_true a.2
    omega
  · by_cases b : rB i t j = true
    · rw [if_pos (.inr b), if_neg a, if_pos b]
      omega
    · rw [if_neg (fun q => q.elim a b), if_neg a, if_neg b]
      omega
theorem MayI.hold {d : VD} (h : MayI d) (i : Nat) {x : Mb} (hx : mayB x.1 x.2 = true) : MayI (holdD d i x) := fun j => by
  rw [holdD_m]
  split
  · exact hx
  · exact h j
theorem MayI.sus {d : VD} (h : MayI d) (k : Int) : MayI (susD d k) := by
  unfold susD
  split
  · refine h.hold _ ?_
    have := may_of (h k.toNat)
    unfold mayB
    rw [decide_eq_true_iff]
    omega
  · exact h
theorem MayI.tick {d : VD} (h : MayI d) : MayI (tickD d) := fun i => by
  show mayB ((tickK d d.n).m i).1 ((tickK d d.n).m i).2 = true
  rw [tickK_m]
  split
  · have := may_of (h i)
    unfold mayB
    rw [decide_eq_true_iff]
    simp only
    omega
  · exact h i
theorem okB_of {d : VD} {i : Nat} {x : Mb} (h : okB d i x = true) : i < d.n ∧ mayB x.1 x.2 = true := by
  unfold okB at h
  rw [Bool.and_eq_true] at h
  exact ⟨of_decide_eq_true h.1, h.2⟩
theorem MayI.join {d : VD} (h : MayI d) (l : List Mb) (k : Nat) : MayI (joinK d l k) := fun i => by
  rw [joinK_m]
  split
  · rename_i q
    have hx := (okB_of q.2).2
    unfold joiD
    split
    · exact rf_may (h i) hx
    · exact j_may (h i) hx
  · exact h i
theorem MayI.do_ {d : VD} (h : MayI d) (x : C) : MayI (doD d x) := by
  unfold doD
  split
  · split
    · exact h
    · exact h.join _ _
  · split
    · exact h.sus _
    · split
      · exact h.tick
      · split
        · unfold askD; split <;> exact h
        · unfold hearD; split <;> exact h

/-- What is not news changes nothing. -/
theorem joinK_same {d : VD} {l : List Mb} {k : Nat} (h : joinB d l k = false) : joinK d l k = d := by
  have hn := joinK_n d l k
  have hno : ∀ i, i < k → newB d i (l.getD i (0, 0)) = false := fun i hi => by
    cases q : newB d i (l.getD i (0, 0))
    · rfl
    · have := (joinB_iff d l k).2 ⟨i, hi, q⟩
      rw [h] at this
      cases this
  have hm : (joinK d l k).m = d.m := by
    funext i
    rw [joinK_m]
    split
    · rename_i q
      have h1 := hno i q.1
      have h2 := okB_of q.2
      by_cases e : joiD d i (l.getD i (0, 0)) = d.m i
      · exact e
      · rw [(newB_iff _ _ _).2 ⟨h2.1, h2.2, e⟩] at h1
        cases h1
    · rfl
  have ha : (joinK d l k).age = d.age := by
    funext i
    rw [joinK_age]
    split
    · rename_i q
      rw [hno i q.1] at q
      exact absurd q.2 (by decide)
    · rfl
  generalize joinK d l k = e at *
  obtain ⟨n, s, m, a, o⟩ := e
  obtain ⟨n', s', m', a', o'⟩ := d
  simp only at hn hm ha
  obtain ⟨rfl, rfl, rfl⟩ := hn
  rw [hm, ha]
theorem joinB_none {d : VD} {l : List Mb} {k : Nat} (h : ∀ i, i < k → i < d.n → mayB (l.getD i (0, 0)).1 (l.getD i (0, 0)).2 = true → joiD d i (l.getD i (0, 0)) = d.m i) : joinB d l k = false := by
  cases q : joinB d l k
  · rfl
  · obtain ⟨i, hi, hb⟩ := (joinB_iff d l k).1 q
    have := (newB_iff _ _ _).1 hb
    exact absurd (h i hi this.1 this.2.1) this.2.2
theorem jn_self (x : Mb) : jn x x = x := Prod.ext (j_self x.1 x.2).1 (j_self x.1 x.2).2
/-- Told once more. -/
theorem join_again {d : VD} {l : List Mb} (hs : l.length ≤ d.self) : joinB (joinK d l l.length) l l.length = false := by
  refine joinB_none fun i hi hin hm => ?_
  have hn := joinK_n d l l.length
  rw [hn.1] at hin
  have hok : okB d i (l.getD i (0, 0)) = true := by unfold okB; rw [decide_eq_true hin, hm]; rfl
  have e : (joinK d l l.length).m i = jn (d.m i) (l.getD i (0, 0)) := by
    rw [joinK_m, if_pos ⟨hi, hok⟩]
    unfold joiD
    rw [if_neg (by omega)]
  unfold joiD
  rw [hn.2.1, if_neg (by omega), e, jn_assoc, jn_self]
theorem rf_same {s i : Int} (hs : s = 0) : (rfS s i s i, rfI s i s i) = (s, i) := by
  unfold rfS rfI rA rB
  subst hs
  simp
/-- Told all that it holds. -/
theorem join_all {d : VD} {k : Nat} (h0 : (d.m d.self).1 = 0) : joinB d (lsM d.m d.n) k = false := by
  refine joinB_none fun i hi hin _ => ?_
  have e : (lsM d.m d.n).getD i (0, 0) = d.m i := by rw [List.getD_eq_getElem?_getD, lsM_get _ hin]; rfl
  rw [e]
  unfold joiD
  split
  · rename_i q
    have h0' : (d.m i).1 = 0 := by rw [q]; exact h0
    exact rf_same h0'
  · exact jn_self _
/-- Told that all are as at first. -/
theorem join_zero {d : VD} {k : Nat} (hm : MayI d) (h0 : (d.m d.self).1 = 0) : joinB d (lsM (fun _ => (0, 0)) d.n) k = false := by
  refine joinB_none fun i hi hin _ => ?_
  have e : (lsM (fun _ => ((0, 0) : Mb)) d.n).getD i (0, 0) = (0, 0) := by rw [List.getD_eq_getElem?_getD, lsM_get _ hin]; rfl
  rw [e]
  have h1 := may_of (hm i)
  unfold joiD
  split
  · rename_i q
    have h0' : (d.m i).1 = 0 := by rw [q]; exact h0
    have a : rA (d.m i).2 0 0 = false := by unfold rA; simp
    have b : rB (d.m i).2 0 0 = false := by
      unfold rB
      rw [Bool.and_eq_false_iff]
      exact .inr (decide_eq_false (by omega))
    unfold rfS rfI
    rw [a, b, if_neg (by decide), if_neg (by decide), if_neg (by decide)]
  · unfold jn jS jI
    simp only
    generalize d.m i = x at *
    obtain ⟨s, j⟩ := x
    simp only at *
    by_cases hj : j = 0
    · rw [if_pos hj, if_pos hj]
      exact Prod.ext (by simp only; omega) rfl
    · rw [if_neg hj, if_neg hj, if_pos (by omega), if_pos (by omega)]

/-- Two that tell each other all they hold hold the same of every third. -/
theorem alike {d e : VD} (hn : e.n = d.n) (hd : MayI d) (he : MayI e) {i : Nat} (hi : i < d.n) (h1 : i ≠ d.self) (h2 : i ≠ e.self) : (joinK d (lsM e.m d.n) d.n).m i = (joinK e (lsM d.m d.n) d.n).m i := by
  have e1 : (lsM e.m d.n).getD i (0, 0) = e.m i := by rw [List.getD_eq_getElem?_getD, lsM_get _ hi]; rfl
  have e2 : (lsM d.m d.n).getD i (0, 0) = d.m i := by rw [List.getD_eq_getElem?_getD, lsM_get _ hi]; rfl
  rw [joinK_m, joinK_m, e1, e2]
  rw [if_pos ⟨hi, by unfold okB; rw [decide_eq_true hi, he i]; rfl⟩, if_pos ⟨hi, by unfold okB; rw [hn, decide_eq_true hi, hd i]; rfl⟩]
  unfold joiD
  rw [if_neg h1, if_neg h2]
  exact (jn_comm _ _).symm

/-- What is held of another only grows. -/
theorem doD_leq {d : VD} (x : C) {k : Nat} (hk : k ≠ d.self) : lq (d.m k) ((doD d x).m k) = true := by
  have hself : lq (d.m k) (d.m k) = true := lq_iff.2 (jn_self _)
  unfold doD
  split
  · split
    · exact hself
    · rw [joinK_m]
      split
      · unfold joiD
        rw [if_neg hk]
        exact lq_left _ _
      · exact hself
  · split
    · unfold susD
      split
      · rename_i hb
        rw [holdD_m]
        split
        · rename_i q
          unfold susB at hb
          rw [Bool.and_eq_true] at hb
          have h1 := of_decide_eq_true hb.2
          rw [q]
          generalize d.m x.node.toNat = y at *
          obtain ⟨s, i⟩ := y
          simp only at h1
          subst h1
          rw [lq_iff]
          unfold jn jS jI
          simp
          decide
        · exact hself
      · exact hself
    · split
      · show lq (d.m k) ((tickK d d.n).m k) = true
        rw [tickK_m]
        split
        · rename_i q
          have h1 := (of_decide_eq_true q.2).1
          generalize d.m k = y at *
          obtain ⟨s, i⟩ := y
          simp only at h1
          subst h1
          rw [lq_iff]
          unfold jn jS jI
          simp
          decide
        · exact hself
      · split
        · unfold askD; split <;> exact hself
        · unfold hearD; split <;> exact hself
/-- To itself its Inc only grows. -/
theorem doD_own {d : VD} (x : C) : (d.m d.self).2 ≤ ((doD d x).m d.self).2 := by
  have hself : (d.m d.self).2 ≤ (d.m d.self).2 := Int.le_refl _
  unfold doD
  split
  · split
    · exact hself
    · rw [joinK_m]
      split
      · unfold joiD
        rw [if_pos rfl]
        simp only
        generalize (x.l.getD d.self (0, 0)) = y
        unfold rfI
        by_cases a : rA (d.m d.self).2 y.1 y.2 = true
        · rw [if_pos a]
          unfold rA at a
          rw [Bool.and_eq_true] at a
          have := of_decide_eq_true a.2
          omega
        · rw [if_neg a]
          by_cases b : rB (d.m d.self).2 y.1 y.2 = true
          · rw [if_pos b]
            unfold rB at b
            rw [Bool.and_eq_true] at b
            have := of_decide_eq_true b.2
            omega
          · rw [if_neg b]
            exact hself
      · exact hself
  · split
    · unfold susD
      split
      · rw [holdD_m]
        split
        · rename_i q
          rw [← q]
          exact hself
        · exact hself
      · exact hself
    · split
      · show (d.m d.self).2 ≤ ((tickK d d.n).m d.self).2
        rw [tickK_m]
        split <;> exact hself
      · split
        · unfold askD; split <;> exact hself
        · unfold hearD; split <;> exact hself
/-- What was told is held then, or more. -/
theorem doD_told {d : VD} {x : C} (h0 : x.k = 0) (h20 : ¬ 20 < x.l.length) {k : Nat} {y : Mb} (hy : x.l[k]? = some y) (hn : k < d.n) (hm : mayB y.1 y.2 = true) (hk : k ≠ d.self) : lq y ((doD d x).m k) = true := by
  have hl : k < x.l.length := by
    obtain ⟨h, -⟩ := List.getElem?_eq_some_iff.1 hy
    exact h
  have e : x.l.getD k (0, 0) = y := by rw [List.getD_eq_getElem?_getD, hy]; rfl
  unfold doD
  rw [if_pos h0, if_neg h20, joinK_m, e, if_pos ⟨hl, by unfold okB; rw [decide_eq_true hn, hm]; rfl⟩]
  unfold joiD
  rw [if_neg hk]
  exact lq_right _ _
end Go.Proofs.Ytakijikehpblfaa
