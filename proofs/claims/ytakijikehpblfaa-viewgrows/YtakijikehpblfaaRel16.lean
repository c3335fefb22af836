/- What the program's view and the reference's have to do with each other. -/
import Derived.Test.YtakijikehpblfaaRj16
import Derived.Test.YtakijikehpblfaaRn16
namespace Go.Proofs.Ytakijikehpblfaa
open Go.RowKit

/-- They hold the same: d the program's, e the reference's; at most so many questions were asked. -/
structure Rel (d e : VD) (z : Int) : Prop where
  n : e.n = d.n
  self : e.self = d.self
  slt : d.self < d.n
  m : e.m = d.m
  op : e.op = d.op
  age : ∀ i, i < d.n → (d.m i).1 = 1 → e.age i = d.age i
  own : (d.m d.self).1 = 0
  ops : d.op d.self = 0
  inv : Inv d
  few : ∀ i, 0 ≤ d.op i ∧ d.op i ≤ z
theorem Rel.start {n s : Nat} (h : s < n) : Rel (d0 n s) (d0 n s) 0 := ⟨rfl, rfl, h, rfl, rfl, fun _ _ _ => rfl, rfl, rfl, Inv.d0 n s, fun _ => ⟨Int.le_refl 0, Int.le_refl 0⟩⟩
theorem Rel.more {d e : VD} {z y : Int} (h : Rel d e z) (hy : z ≤ y) : Rel d e y := ⟨h.n, h.self, h.slt, h.m, h.op, h.age, h.own, h.ops, h.inv, fun i => by have := h.few i; omega⟩
theorem joiD_rel {d e : VD} {z : Int} (h : Rel d e z) (i : Nat) (x : Mb) : joiD e i x = joiD d i x ∧ okB e i x = okB d i x ∧ newB e i x = newB d i x := by
  have a : joiD e i x = joiD d i x := by unfold joiD; rw [h.self, h.m]
  have b : okB e i x = okB d i x := by unfold okB; rw [h.n]
  exact ⟨a, b, by unfold newB; rw [a, b, h.m]⟩
theorem rf_zero (s i t j : Int) (h : s = 0) : rfS s i t j = 0 := by unfold rfS; split <;> simp [h]
theorem Rel.join {d e : VD} {z : Int} (h : Rel d e z) (l : List Mb) (k : Nat) : joinB e l k = joinB d l k ∧ Rel (joinK d l k) (joinK e l k) z := by
  have hd := joinK_n d l k
  have he := joinK_n e l k
  constructor
  · rw [Bool.eq_iff_iff, joinB_iff, joinB_iff]
    constructor
    · rintro ⟨i, h1, h2⟩; exact ⟨i, h1, by rwa [(joiD_rel h i _).2.2] at h2⟩
    · rintro ⟨i, h1, h2⟩; exact ⟨i, h1, by rwa [(joiD_rel h i _).2.2]⟩
  · refine ⟨by rw [hd.1, he.1]; exact h.n, by rw [hd.2.1, he.2.1]; exact h.self, by rw [hd.1, hd.2.1]; exact h.slt, ?_, by rw [hd.2.2, he.2.2]; exact h.op, fun i hi hs => ?_, ?_, by rw [hd.2.1, hd.2.2]; exact h.ops, h.inv.joinK l k, fun i => by rw [hd.2.2]; exact h.few i⟩
    · funext i
      rw [joinK_m, joinK_m, (joiD_rel h i _).1, (joiD_rel h i _).2.1, h.m]
    · rw [joinK_age, joinK_age, (joiD_rel h i _).2.2]
      rw [hd.1] at hi
      by_cases hb : i < k ∧ newB d i (l.getD i (0, 0)) = true
      · rw [if_pos hb, if_pos hb]
      · rw [if_neg hb, if_neg hb]
        refine h.age i hi ?_
        rw [joinK_m] at hs
        by_cases ho : i < k ∧ okB d i (l.getD i (0, 0)) = true
        · rw [if_pos ho] at hs
          have : joiD d i (l.getD i (0, 0)) = d.m i := by
            by_cases q : joiD d i (l.getD i (0, 0)) = d.m i
            · exact q
            · refine absurd ⟨ho.1, (newB_iff _ _ _).2 ⟨hi, ?_, q⟩⟩ hb
              have := ho.2
              unfold okB at this
              simp only [Bool.and_eq_true] at this
              exact this.2
          rwa [this] at hs
        · rwa [if_neg ho] at hs
    · rw [hd.2.1, joinK_m]
      split
      · unfold joiD
        rw [if_pos rfl]
        exact rf_zero _ _ _ _ h.own
      · exact h.own
theorem Rel.sus {d e : VD} {z : Int} (h : Rel d e z) (k : Int) : susB e k = susB d k ∧ Rel (susD d k) (susD e k) z := by
  have hb : susB e k = susB d k := by unfold susB; rw [h.n, h.self, h.m]
  refine ⟨hb, ?_⟩
  unfold susD
  rw [hb]
  by_cases hs : susB d k = true
  · rw [if_pos hs, if_pos hs, h.m]
    have h' : othB d.n d.self k = true ∧ (d.m k.toNat).1 = 0 := by
      unfold susB at hs
      rw [Bool.and_eq_true] at hs
      exact ⟨hs.1, of_decide_eq_true hs.2⟩
    obtain ⟨i, rfl, hi, hne⟩ := othB_of h'.1
    rw [Int.toNat_natCast] at h' ⊢
    have hd := holdD_n d i (1, (d.m i).2)
    have he := holdD_n e i (1, (d.m i).2)
    refine ⟨by rw [hd.1, he.1]; exact h.n, by rw [hd.2.1, he.2.1]; exact h.self, by rw [hd.1, hd.2.1]; exact h.slt, ?_, by rw [hd.2.2, he.2.2]; exact h.op, fun j hj hs => ?_, ?_, by rw [hd.2.1, hd.2.2]; exact h.ops, h.inv.hold _ _, fun j => by rw [hd.2.2]; exact h.few j⟩
    · funext j
      rw [holdD_m, holdD_m, h.m]
    · rw [holdD_age, holdD_age, h.m]
      rw [hd.1] at hj
      rw [holdD_m] at hs
      by_cases ej : j = i
      · have : j = i ∧ d.m i ≠ (1, (d.m i).2) := ⟨ej, fun q => by rw [q] at h'; exact absurd h'.2 (by show ¬ (1 : Int) = 0; decide)⟩
        rw [if_pos this, if_pos this]
      · rw [if_neg (fun q => ej q.1), if_neg (fun q => ej q.1)]
        rw [if_neg ej] at hs
        exact h.age j hj hs
    · rw [hd.2.1, holdD_m, if_neg (fun q => hne q.symm)]
      exact h.own
  · rw [if_neg hs, if_neg hs]
    exact h
theorem Rel.ask {d e : VD} {z : Int} (h : Rel d e z) (k : Int) : Rel (askD d k) (askD e k) (z + 1) := by
  unfold askD
  rw [h.n, h.self, h.op]
  by_cases hs : othB d.n d.self k = true
  · rw [if_pos hs, if_pos hs]
    obtain ⟨i, rfl, hi, hne⟩ := othB_of hs
    rw [Int.toNat_natCast]
    refine ⟨rfl, rfl, h.slt, h.m, rfl, h.age, h.own, ?_, h.inv, fun j => ?_⟩
    · show upd d.op i _ d.self = 0
      rw [upd_ne _ _ (fun q => hne q.symm)]
      exact h.ops
    · show 0 ≤ upd d.op i _ j ∧ upd d.op i _ j ≤ _
      have h1 := h.few j
      have h2 := h.few i
      unfold upd
      split <;> omega
  · rw [if_neg hs, if_neg hs]
    exact h.more (by omega)
theorem Rel.hear {d e : VD} {z : Int} (h : Rel d e z) (k : Int) : Rel (hearD d k) (rhearD e k) z := by
  unfold hearD rhearD
  rw [h.n, h.self]
  by_cases hs : hasB d.n k = true
  · rw [if_pos hs]
    obtain ⟨i, rfl, hi⟩ := hasB_of hs
    rw [Int.toNat_natCast]
    have hz : 0 ≤ z := by have := h.few 0; omega
    have hops : upd d.op i 0 d.self = 0 := by
      unfold upd
      split
      · rfl
      · exact h.ops
    have hfew : ∀ j, 0 ≤ upd d.op i 0 j ∧ upd d.op i 0 j ≤ z := fun j => by
      have h1 := h.few j
      unfold upd
      split <;> omega
    by_cases hself : i = d.self
    · rw [if_neg (by unfold othB; simp; omega)]
      refine ⟨h.n, h.self, h.slt, h.m, ?_, h.age, h.own, hops, h.inv, hfew⟩
      show e.op = upd d.op i 0
      rw [hself, h.op]
      funext j
      unfold upd
      split
      · rename_i q; rw [q]; exact h.ops
      · rfl
    · rw [if_pos (by unfold othB; simp; omega)]
      refine ⟨rfl, rfl, h.slt, h.m, ?_, h.age, h.own, hops, h.inv, hfew⟩
      show upd e.op i 0 = upd d.op i 0
      rw [h.op]
  · rw [if_neg hs, if_neg (fun q => hs (by
      obtain ⟨i, rfl, hi, -⟩ := othB_of q
      rw [hasB_nat]
      exact decide_eq_true hi))]
    exact h
theorem rtickK_m (d : VD) (k i : Nat) : (rtickK d k).m i = if i < k ∧ rtS d i = true ∧ 5 ≤ d.age i then (2, (d.m i).2) else d.m i := by
  induction k with
  | zero => rw [if_neg (by omega)]; rfl
  | succ k ih =>
    show (rtickS (rtickK d k) k).m i = _
    have hh := rtickK_hi d k k (Nat.le_refl _)
    have hb : rtS (rtickK d k) k = rtS d k := by unfold rtS; rw [hh.1, (rtickK_n d k).2.1]
    rw [rtickS_m, hb, hh.2, ih, hh.1]
    by_cases e : i = k
    · subst e
      by_cases h : rtS d i = true ∧ 5 ≤ d.age i
      · rw [if_pos ⟨rfl, h⟩, if_pos ⟨by omega, h⟩]
      · rw [if_neg (fun q => h q.2), if_neg (by omega), if_neg (fun q => h q.2)]
    · rw [if_neg (fun q => e q.1)]
      by_cases h : i < k ∧ rtS d i = true ∧ 5 ≤ d.age i
      · rw [if_pos h, if_pos ⟨by omega, h.2⟩]
      · rw [if_neg h, if_neg (fun q => h ⟨by omega, q.2⟩)]
theorem rtickK_age (d : VD) (k i : Nat) : (rtickK d k).age i = if i < k ∧ rtS d i = true then d.age i + 1 else d.age i := by
  induction k with
  | zero => rw [if_neg (by omega)]; rfl
  | succ k ih =>
    show (rtickS (rtickK d k) k).age i = _
    have hh := rtickK_hi d k k (Nat.le_refl _)
    have hb : rtS (rtickK d k) k = rtS d k := by unfold rtS; rw [hh.1, (rtickK_n d k).2.1]
    rw [rtickS_age, hb, ih, hh.2]
    by_cases e : i = k
    · subst e
      by_cases h : rtS d i = true
      · rw [if_pos ⟨rfl, h⟩, if_pos ⟨by omega, h⟩]
      · rw [if_neg (fun q => h q.2), if_neg (by omega), if_neg (fun q => h q.2)]
    · rw [if_neg (fun q => e q.1)]
      by_cases h : i < k ∧ rtS d i = true
      · rw [if_pos h, if_pos ⟨by omega, h.2⟩]
      · rw [if_neg h, if_neg (fun q => h ⟨by omega, q.2⟩)]
theorem rtickN_step (d : VD) (k : Nat) : rtickN d (k + 1) = rtickN d k + if rtS d k = true ∧ 5 ≤ d.age k then 1 else 0 := by
  have hh := rtickK_hi d k k (Nat.le_refl _)
  have hb : rtS (rtickK d k) k = rtS d k := by unfold rtS; rw [hh.1, (rtickK_n d k).2.1]
  show rtickN d k + (if rtS (rtickK d k) k = true ∧ 5 ≤ (rtickK d k).age k then 1 else 0) = _
  rw [hb, hh.2]
theorem Rel.at_ {d e : VD} {z : Int} (h : Rel d e z) {i : Nat} (hi : i < d.n) : (rtS e i = true ∧ 5 ≤ e.age i) ↔ tkB d i = true := by
  unfold rtS tkB
  rw [decide_eq_true_iff, decide_eq_true_iff, h.self, h.m]
  have h5 := (h.inv i).2
  constructor
  · rintro ⟨⟨h1, h2⟩, h3⟩
    rw [h.age i hi h2] at h3
    exact ⟨h2, by omega⟩
  · rintro ⟨h1, h2⟩
    refine ⟨⟨fun q => ?_, h1⟩, by rw [h.age i hi h1]; omega⟩
    rw [q, h.own] at h1
    exact absurd h1 (by decide)
theorem Rel.tick {d e : VD} {z : Int} (h : Rel d e z) : rtickN e e.n = tickN d d.n ∧ Rel (tickD d) (rtickK e e.n) z := by
  rw [h.n]
  constructor
  · have : ∀ k, k ≤ d.n → rtickN e k = tickN d k := fun k => by
      induction k with
      | zero => exact fun _ => rfl
      | succ k ih =>
        intro hk
        rw [rtickN_step, tickN_step, ih (by omega)]
        by_cases q : tkB d k = true
        · rw [if_pos ((h.at_ (by omega)).2 q), if_pos q]
        · rw [if_neg (fun w => q ((h.at_ (by omega)).1 w)), if_neg q]
    exact this _ (Nat.le_refl _)
  · have hd := tickK_n d d.n
    have he := rtickK_n e d.n
    refine ⟨?_, ?_, ?_, ?_, ?_, fun i hi hs => ?_, ?_, ?_, h.inv.tick, fun i => ?_⟩
    · show (rtickK e d.n).n = (tickK d d.n).n
      rw [hd.1, he.1]; exact h.n
    · show (rtickK e d.n).self = (tickK d d.n).self
      rw [hd.2.1, he.2.1]; exact h.self
    · show (tickK d d.n).self < (tickK d d.n).n
      rw [hd.1, hd.2.1]; exact h.slt
    · show (rtickK e d.n).m = (tickK d d.n).m
      funext i
      rw [rtickK_m, tickK_m, h.m]
      by_cases hi : i < d.n
      · by_cases q : tkB d i = true
        · rw [if_pos ⟨hi, (h.at_ hi).2 q⟩, if_pos ⟨hi, q⟩]
        · rw [if_neg (fun w => q ((h.at_ hi).1 w.2)), if_neg (fun w => q w.2)]
      · rw [if_neg (fun w => hi w.1), if_neg (fun w => hi w.1)]
    · show (rtickK e d.n).op = (tickK d d.n).op
      rw [hd.2.2, he.2.2]; exact h.op
    · have hi : i < d.n := by
        have : i < (tickK d d.n).n := hi
        rwa [hd.1] at this
      have hs : ((tickK d d.n).m i).1 = 1 := hs
      show (rtickK e d.n).age i = (tickK d d.n).age i
      rw [tickK_m] at hs
      by_cases q : tkB d i = true
      · rw [if_pos ⟨hi, q⟩] at hs
        exact absurd hs (by show (2 : Int) ≠ 1; decide)
      · rw [if_neg (fun w => q w.2)] at hs
        have hne : i ≠ d.self := fun w => by rw [w, h.own] at hs; exact absurd hs (by decide)
        have hr : rtS e i = true := by unfold rtS; rw [decide_eq_true_iff, h.self, h.m]; exact ⟨hne, hs⟩
        have h5 : d.age i ≠ 5 := fun w => q (decide_eq_true ⟨hs, w⟩)
        rw [rtickK_age, if_pos ⟨hi, hr⟩, tickK_age, if_pos (show i < d.n ∧ (d.m i).1 = 1 from ⟨hi, hs⟩), if_neg h5, h.age i hi hs]
    · show ((tickK d d.n).m (tickK d d.n).self).1 = 0
      rw [hd.2.1, tickK_m, if_neg (fun w => by have := (of_decide_eq_true w.2).1; rw [h.own] at this; exact absurd this (by decide))]
      exact h.own
    · show (tickK d d.n).op (tickK d d.n).self = 0
      rw [hd.2.1, hd.2.2]; exact h.ops
    · show 0 ≤ (tickK d d.n).op i ∧ (tickK d d.n).op i ≤ z
      rw [hd.2.2]; exact h.few i
theorem Rel.ages {d e : VD} {z : Int} (h : Rel d e z) : ∀ i, i < e.n → (e.m i).1 = 1 → 0 ≤ e.age i ∧ e.age i ≤ 1000000 := fun i hi hs => by
  rw [h.n] at hi
  rw [h.m] at hs
  have := h.inv i
  rw [h.age i hi hs]
  omega
theorem Rel.ops_d {d e : VD} {z : Int} (h : Rel d e z) (hz : z ≤ 1000) : ∀ i, i < d.n → -9223372036854775808 ≤ d.op i ∧ d.op i < 9223372036854775807 := fun i _ => by have := h.few i; omega
theorem Rel.ops_e {d e : VD} {z : Int} (h : Rel d e z) (hz : z ≤ 1000) : ∀ i, i < e.n → -9223372036854775808 ≤ e.op i ∧ e.op i < 9223372036854775807 := fun i _ => by have := h.few i; rw [h.op]; omega
theorem Rel.missed {d e : VD} {z : Int} (h : Rel d e z) (k : Int) : (if hasB d.n k = true then d.op k.toNat else 0) = (if othB e.n e.self k = true then e.op k.toNat else 0) := by
  rw [h.n, h.self, h.op]
  by_cases hh : hasB d.n k = true
  · obtain ⟨i, rfl, hi⟩ := hasB_of hh
    rw [if_pos hh, Int.toNat_natCast]
    by_cases q : i = d.self
    · rw [if_neg (by unfold othB; simp; omega), q]; exact h.ops
    · rw [if_pos (by unfold othB; simp; omega)]
  · rw [if_neg hh, if_neg (fun q => hh (by
      obtain ⟨i, rfl, hi, -⟩ := othB_of q
      rw [hasB_nat]
      exact decide_eq_true hi))]
end Go.Proofs.Ytakijikehpblfaa
