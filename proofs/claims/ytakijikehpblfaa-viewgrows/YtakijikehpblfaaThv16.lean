/- What a Tick and a Join make of each node. -/
import Derived.Test.YtakijikehpblfaaVk16
import Derived.Test.YtakijikehpblfaaVn16
import Derived.Test.YtakijikehpblfaaIr16
namespace Go.Proofs.Ytakijikehpblfaa
open Go.RowKit

theorem tickK_m (d : VD) (k i : Nat) : (tickK d k).m i = if i < k ∧ tkB d i = true then (2, (d.m i).2) else d.m i := by
  induction k with
  | zero => rw [if_neg (by omega)]; rfl
  | succ k ih =>
    show (tickS (tickK d k) k).m i = _
    have hh := tickK_hi d k k (Nat.le_refl _)
    have hb : tkB (tickK d k) k = tkB d k := by unfold tkB; rw [hh.1, hh.2]
    rw [tickS_m, hb, ih, hh.1]
    by_cases e : i = k
    · subst e
      by_cases h : tkB d i = true
      · rw [if_pos ⟨rfl, h⟩, if_pos ⟨by omega, h⟩]
      · rw [if_neg (fun q => h q.2), if_neg (by omega), if_neg (fun q => h q.2)]
    · rw [if_neg (fun q => e q.1)]
      by_cases h : i < k ∧ tkB d i = true
      · rw [if_pos h, if_pos ⟨by omega, h.2⟩]
      · rw [if_neg h, if_neg (fun q => h ⟨by omega, q.2⟩)]
theorem tickK_age (d : VD) (k i : Nat) : (tickK d k).age i = if i < k ∧ (d.m i).1 = 1 then (if d.age i = 5 then 0 else d.age i + 1) else d.age i := by
  induction k with
  | zero => rw [if_neg (by omega)]; rfl
  | succ k ih =>
    show (tickS (tickK d k) k).age i = _
    have hh := tickK_hi d k k (Nat.le_refl _)
    rw [tickS_age, ih, hh.1, hh.2]
    by_cases e : i = k
    · subst e
      by_cases h : (d.m i).1 = 1
      · rw [if_pos (show i = i ∧ (d.m i).1 = 1 from ⟨rfl, h⟩), if_pos (show i < i + 1 ∧ (d.m i).1 = 1 from ⟨by omega, h⟩)]
      · rw [if_neg (fun q => h q.2), if_neg (by omega), if_neg (fun q => h q.2)]
    · rw [if_neg (fun q => e q.1)]
      by_cases h : i < k ∧ (d.m i).1 = 1
      · rw [if_pos h, if_pos (show i < k + 1 ∧ (d.m i).1 = 1 from ⟨by omega, h.2⟩)]
      · rw [if_neg h, if_neg (fun q => h ⟨by omega, q.2⟩)]
theorem tickN_step (d : VD) (k : Nat) : tickN d (k + 1) = tickN d k + if tkB d k = true then 1 else 0 := by
  have hh := tickK_hi d k k (Nat.le_refl _)
  have hb : tkB (tickK d k) k = tkB d k := by unfold tkB; rw [hh.1, hh.2]
  show tickN d k + (if tkB (tickK d k) k = true then 1 else 0) = _
  rw [hb]
theorem tickN_zero {d : VD} {k : Nat} (h : ∀ i, i < k → (d.m i).1 ≠ 1) : tickN d k = 0 := by
  induction k with
  | zero => rfl
  | succ k ih =>
    rw [tickN_step, ih (fun i hi => h i (by omega)), if_neg (fun e => h k (by omega) (of_decide_eq_true e).1)]
theorem joiS_m (d : VD) (i : Nat) (x : Mb) (j : Nat) : (joiS d i x).m j = if j = i ∧ okB d i x = true then joiD d i x else d.m j := by
  unfold joiS
  split
  · rename_i h
    rw [holdD_m]
    by_cases e : j = i <;> simp [e, h]
  · rename_i h
    rw [if_neg (fun e => h e.2)]
theorem joiS_age (d : VD) (i : Nat) (x : Mb) (j : Nat) : (joiS d i x).age j = if j = i ∧ newB d i x = true then 0 else d.age j := by
  unfold joiS newB
  split
  · rename_i h
    rw [holdD_age, h]
    by_cases e : j = i
    · subst e
      by_cases h2 : d.m j = joiD d j x
      · rw [if_neg (fun q => q.2 h2), if_neg (fun q => by have := eqM_iff.2 h2; rw [this] at q; simp at q)]
      · have : eqM (d.m j).1 (d.m j).2 (joiD d j x).1 (joiD d j x).2 = false := by
          cases hq : eqM (d.m j).1 (d.m j).2 (joiD d j x).1 (joiD d j x).2
          · rfl
          · exact absurd (eqM_iff.1 hq) h2
        rw [if_pos ⟨rfl, h2⟩, if_pos ⟨rfl, by rw [this]; rfl⟩]
    · rw [if_neg (fun q => e q.1), if_neg (fun q => e q.1)]
  · rename_i h
    rw [if_neg (fun q => by
      have := q.2
      cases hq : okB d i x
      · rw [hq] at this; simp at this
      · exact h hq)]
theorem joinK_hi (d : VD) (l : List Mb) (k : Nat) : ∀ j, k ≤ j → (joinK d l k).m j = d.m j ∧ (joinK d l k).age j = d.age j := by
  induction k with
  | zero => exact fun j _ => ⟨rfl, rfl⟩
  | succ k ih =>
    intro j hj
    have h := ih j (by omega)
    constructor
    · show (joiS (joinK d l k) k _).m j = _
      rw [joiS_m, if_neg (by omega), h.1]
    · show (joiS (joinK d l k) k _).age j = _
      rw [joiS_age, if_neg (by omega), h.2]
theorem joiD_at (d : VD) (l : List Mb) (k : Nat) (x : Mb) : joiD (joinK d l k) k x = joiD d k x ∧ okB (joinK d l k) k x = okB d k x ∧ newB (joinK d l k) k x = newB d k x := by
  have h1 := joinK_n d l k
  have h2 := joinK_hi d l k k (Nat.le_refl _)
  have a : joiD (joinK d l k) k x = joiD d k x := by unfold joiD; rw [h1.2.1, h2.1]
  have b : okB (joinK d l k) k x = okB d k x := by unfold okB; rw [h1.1]
  exact ⟨a, b, by unfold newB; rw [a, b, h2.1]⟩
theorem joinK_m (d : VD) (l : List Mb) (k i : Nat) : (joinK d l k).m i = if i < k ∧ okB d i (l.getD i (0, 0)) = true then joiD d i (l.getD i (0, 0)) else d.m i := by
  induction k with
  | zero => rw [if_neg (by omega)]; rfl
  | succ k ih =>
    show (joiS (joinK d l k) k _).m i = _
    have hh := joiD_at d l k (l.getD k (0, 0))
    rw [joiS_m, hh.1, hh.2.1, ih]
    by_cases e : i = k
    · subst e
      by_cases h : okB d i (l.getD i (0, 0)) = true
      · rw [if_pos ⟨rfl, h⟩, if_pos ⟨by omega, h⟩]
      · rw [if_neg (fun q => h q.2), if_neg (by omega), if_neg (fun q => h q.2)]
    · rw [if_neg (fun q => e q.1)]
      by_cases h : i < k ∧ okB d i (l.getD i (0, 0)) = true
      · rw [if_pos h, if_pos ⟨by omega, h.2⟩]
      · rw [if_neg h, if_neg (fun q => h ⟨by omega, q.2⟩)]
theorem joinK_age (d : VD) (l : List Mb) (k i : Nat) : (joinK d l k).age i = if i < k ∧ newB d i (l.getD i (0, 0)) = true then 0 else d.age i := by
  induction k with
  | zero => rw [if_neg (by omega)]; rfl
  | succ k ih =>
    show (joiS (joinK d l k) k _).age i = _
    have hh := joiD_at d l k (l.getD k (0, 0))
    rw [joiS_age, hh.2.2, ih]
    by_cases e : i = k
    · subst e
      by_cases h : newB d i (l.getD i (0, 0)) = true
      · rw [if_pos ⟨rfl, h⟩, if_pos ⟨by omega, h⟩]
      · rw [if_neg (fun q => h q.2), if_neg (by omega), if_neg (fun q => h q.2)]
    · rw [if_neg (fun q => e q.1)]
      by_cases h : i < k ∧ newB d i (l.getD i (0, 0)) = true
      · rw [if_pos h, if_pos ⟨by omega, h.2⟩]
      · rw [if_neg h, if_neg (fun q => h ⟨by omega, q.2⟩)]
theorem joinB_iff (d : VD) (l : List Mb) (k : Nat) : joinB d l k = true ↔ ∃ i, i < k ∧ newB d i (l.getD i (0, 0)) = true := by
  induction k with
  | zero => exact ⟨fun h => (by cases h), fun ⟨i, h, _⟩ => by omega⟩
  | succ k ih =>
    show (joinB d l k || newB (joinK d l k) k (l.getD k (0, 0))) = true ↔ _
    rw [(joiD_at d l k _).2.2, Bool.or_eq_true, ih]
    constructor
    · rintro (⟨i, h1, h2⟩ | h)
      · exact ⟨i, by omega, h2⟩
      · exact ⟨k, by omega, h⟩
    · rintro ⟨i, h1, h2⟩
      by_cases e : i = k
      · subst e; exact .inr h2
      · exact .inl ⟨i, by omega, h2⟩
theorem Inv.joinK {d : VD} (h : Inv d) (l : List Mb) (k : Nat) : Inv (joinK d l k) := fun i => by
  rw [joinK_age]
  have := h i
  split <;> omega
theorem newB_iff (d : VD) (i : Nat) (x : Mb) : newB d i x = true ↔ i < d.n ∧ mayB x.1 x.2 = true ∧ joiD d i x ≠ d.m i := by
  unfold newB okB
  simp only [Bool.and_eq_true, decide_eq_true_eq, Bool.not_eq_true']
  constructor
  · rintro ⟨⟨h1, h2⟩, h3⟩
    refine ⟨h1, h2, fun e => ?_⟩
    rw [e] at h3
    have := (eqM_iff (a := d.m i) (b := d.m i)).2 rfl
    rw [this] at h3
    cases h3
  · rintro ⟨h1, h2, h3⟩
    refine ⟨⟨h1, h2⟩, ?_⟩
    cases hq : eqM (d.m i).1 (d.m i).2 (joiD d i x).1 (joiD d i x).2
    · rfl
    · exact absurd (eqM_iff.1 hq).symm h3

/-- Sole node was suspected, in a view of node 0: its state, its Inc, the Ticks. -/
structure Sole (d : VD) (n node : Nat) (s i a : Int) : Prop where
  nn : d.n = n
  slf : d.self = 0
  lt : node < n
  pos : 0 < node
  at_ : d.m node = (s, i)
  age : d.age node = a
  rest : ∀ j, j ≠ node → d.m j = (0, 0)
  inv : Inv d
theorem Sole.tick {d : VD} {n node : Nat} {s i a : Int} (h : Sole d n node s i a) : Sole (tickD d) n node (if s = 1 ∧ a = 5 then 2 else s) i (if s = 1 then (if a = 5 then 0 else a + 1) else a) := by
  have hb : tkB d node = decide (s = 1 ∧ a = 5) := by unfold tkB; rw [h.at_, h.age]
  have hn := h.nn
  have hl := h.lt
  have hN := tickK_n d d.n
  refine ⟨hN.1.trans hn, hN.2.1.trans h.slf, hl, h.pos, ?_, ?_, fun j hj => ?_, h.inv.tick⟩
  · show (tickK d d.n).m node = _
    rw [tickK_m, hb, h.at_]
    by_cases e : s = 1 ∧ a = 5
    · rw [if_pos ⟨by omega, decide_eq_true e⟩, if_pos e]
    · rw [if_neg (fun q => e (of_decide_eq_true q.2)), if_neg e]
  · show (tickK d d.n).age node = _
    rw [tickK_age, h.at_, h.age]
    by_cases e : s = 1
    · rw [if_pos ⟨by omega, e⟩, if_pos e]
    · rw [if_neg (fun q => e q.2), if_neg e]
  · show (tickK d d.n).m j = _
    rw [tickK_m, if_neg (fun q => by have := (of_decide_eq_true q.2).1; rw [h.rest j hj] at this; exact absurd this (by decide))]
    exact h.rest j hj
/-- Behind t Ticks. -/
theorem Sole.tks {d : VD} {n node : Nat} (h : Sole d n node 1 0 0) (t : Nat) : Sole (tks d t) n node (if t < 6 then 1 else 2) 0 (if t < 6 then (t : Int) else 0) := by
  induction t with
  | zero => exact h
  | succ t ih =>
    have h2 := ih.tick
    have e1 : (if (if t < 6 then (1 : Int) else 2) = 1 ∧ (if t < 6 then (t : Int) else 0) = 5 then (2 : Int) else (if t < 6 then 1 else 2)) = if t + 1 < 6 then 1 else 2 := by
      (repeat split) <;> omega
    have e2 : (if (if t < 6 then (1 : Int) else 2) = 1 then (if (if t < 6 then (t : Int) else 0) = 5 then 0 else (if t < 6 then (t : Int) else 0) + 1) else (if t < 6 then (t : Int) else 0)) = if t + 1 < 6 then ((t + 1 : Nat) : Int) else 0 := by
      (repeat split) <;> omega
    rw [e1, e2] at h2
    exact h2
/-- Told a new Inc it lives. -/
theorem Sole.told {d : VD} {n node : Nat} {s a : Int} (h : Sole d n node s 0 a) {y : Int} (hy : 0 ≤ y ∧ y < 1000) {l : List Mb} (hl : l = lsM (upd (fun _ => (0, 0)) node (0, 1 + y)) n) :
    joinB d l n = true ∧ Sole (joinK d l n) n node 0 (1 + y) 0 := by
  have hg : ∀ i, i < n → l.getD i (0, 0) = upd (fun _ => (0, 0)) node (0, 1 + y) i := fun i hi => by
    rw [hl, List.getD_eq_getElem?_getD, lsM_get _ hi]; rfl
  have hm : mayB 0 (1 + y) = true := by unfold mayB; rw [decide_eq_true_iff]; omega
  have hnode : l.getD node (0, 0) = (0, 1 + y) := by rw [hg _ h.lt, upd_same]
  have hj : joiD d node (0, 1 + y) = (0, 1 + y) := by
    unfold joiD
    rw [if_neg (by rw [h.slf]; have := h.pos; omega), h.at_]
    unfold jn jS jI
    simp only
    rw [if_neg (by omega), if_neg (by omega), if_neg (by omega), if_neg (by omega)]
  have hnew : newB d node (0, 1 + y) = true := by
    rw [newB_iff, hj, h.at_, h.nn]
    exact ⟨h.lt, hm, fun e => by simp at e; omega⟩
  have hoth : ∀ i, i ≠ node → i < n → l.getD i (0, 0) = (0, 0) := fun i hi hin => by rw [hg i hin, upd_ne _ _ hi]
  have h0 : ∀ i, i ≠ node → joiD d i (0, 0) = (0, 0) := fun i hi => by
    unfold joiD
    rw [h.rest i hi]
    split <;> decide
  have hN := joinK_n d l n
  refine ⟨(joinB_iff _ _ _).2 ⟨node, h.lt, by rw [hnode]; exact hnew⟩, hN.1.trans h.nn, hN.2.1.trans h.slf, h.lt, h.pos, ?_, ?_, fun i hi => ?_, h.inv.joinK _ _⟩
  · rw [joinK_m, hnode, hj, if_pos ⟨h.lt, by unfold okB; rw [h.nn, hm, decide_eq_true h.lt]; rfl⟩]
  · rw [joinK_age, hnode, if_pos ⟨h.lt, hnew⟩]
  · rw [joinK_m]
    split
    · rename_i e
      rw [hoth i hi e.1]
      exact h0 i hi
    · exact h.rest i hi
theorem Sole.alive {d : VD} {n node : Nat} {i a : Int} (h : Sole d n node 0 i a) : tickN d n = 0 ∧ Sole (tickD d) n node 0 i a := by
  refine ⟨tickN_zero fun j _ => ?_, ?_⟩
  · by_cases e : j = node
    · rw [e, h.at_]; show (0 : Int) ≠ 1; decide
    · rw [h.rest j e]; show (0 : Int) ≠ 1; decide
  · have := h.tick
    rwa [if_neg (by omega), if_neg (by omega)] at this
theorem Sole.sus {n node : Nat} (h0 : 0 < node) (hn : node < n) : susB (d0 n 0) (node : Int) = true ∧ Sole (susD (d0 n 0) (node : Int)) n node 1 0 0 := by
  have hb : susB (d0 n 0) (node : Int) = true := by
    unfold susB othB
    simp [d0]
    omega
  refine ⟨hb, ?_⟩
  unfold susD
  rw [if_pos hb, Int.toNat_natCast]
  have hN := holdD_n (d0 n 0) node (1, ((d0 n 0).m node).2)
  refine ⟨hN.1, hN.2.1, hn, h0, ?_, ?_, fun j hj => ?_, (Inv.d0 n 0).hold _ _⟩
  · rw [holdD_m, if_pos rfl]; rfl
  · rw [holdD_age]; split <;> rfl
  · rw [holdD_m, if_neg hj]; rfl
theorem Sole.again {d : VD} {n node : Nat} {i a : Int} (h : Sole d n node 1 i a) : susB d (node : Int) = false := by
  unfold susB
  rw [Int.toNat_natCast, h.at_]
  simp
end Go.Proofs.Ytakijikehpblfaa
