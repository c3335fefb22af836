/- The theory of rings: points in order, the nodes in the order in which their points come. -/
import Derived.Test.YtpiknkgnmjcjjaaPlc14
namespace Go.Proofs.Ytpiknkgnmjcjjaa
open Go.RowKit

/-- A point: where it stands, its node, its number. -/
abbrev Pn := Nat × Nat × Nat
def ltP (x y : Pn) : Bool := decide (x.1 < y.1 ∨ x.1 = y.1 ∧ (x.2.1 < y.2.1 ∨ x.2.1 = y.2.1 ∧ x.2.2 < y.2.2))
theorem ltP_iff {x y : Pn} : ltP x y = true ↔ x.1 < y.1 ∨ x.1 = y.1 ∧ (x.2.1 < y.2.1 ∨ x.2.1 = y.2.1 ∧ x.2.2 < y.2.2) := by simp [ltP]
theorem ltP_no {x y : Pn} : ltP x y = false ↔ ¬ (x.1 < y.1 ∨ x.1 = y.1 ∧ (x.2.1 < y.2.1 ∨ x.2.1 = y.2.1 ∧ x.2.2 < y.2.2)) := by simp [ltP]
theorem ltP_tri {x y : Pn} (h1 : ltP x y = false) (h2 : ltP y x = false) : x = y := by
  rw [ltP_no] at h1 h2
  obtain ⟨a, b, c⟩ := x
  obtain ⟨d, e, f⟩ := y
  simp only at h1 h2
  have : a = d ∧ b = e ∧ c = f := by omega
  obtain ⟨rfl, rfl, rfl⟩ := this
  rfl
theorem ltP_trans {x y z : Pn} (h1 : ltP x y = true) (h2 : ltP y z = true) : ltP x z = true := by
  rw [ltP_iff] at *
  omega
theorem ltP_irr (x : Pn) : ltP x x = false := by
  rw [ltP_no]
  omega
/-- In order, no two equal. -/
def Sp (l : List Pn) : Prop := l.Pairwise fun x y => ltP x y = true
theorem sp_ext {l m : List Pn} (hl : Sp l) (hm : Sp m) (h : ∀ x, x ∈ l ↔ x ∈ m) : l = m := by
  have nd : ∀ {l : List Pn}, Sp l → l.Nodup := fun {l} hl => hl.imp (fun {a b} h e => by rw [e, ltP_irr] at h; cases h)
  have hp : l.Perm m := (List.perm_ext_iff_of_nodup (nd hl) (nd hm)).2 (fun a => h a)
  refine hp.eq_of_pairwise (le := fun x y => ltP x y = true) (fun a b _ _ h1 h2 => ?_) hl hm
  have := ltP_trans h1 h2
  rw [ltP_irr] at this
  cases this
/-- A point laid into a row in order. -/
def insP (p : Pn) : List Pn → List Pn
  | [] => [p]
  | x :: l => if ltP x p = true then x :: insP p l else p :: x :: l
theorem ins_mem (p x : Pn) (l : List Pn) : x ∈ insP p l ↔ x = p ∨ x ∈ l := by
  induction l with
  | nil => simp [insP]
  | cons y l ih =>
    simp only [insP]
    split
    · simp only [List.mem_cons, ih]
      constructor
      · rintro (h | h | h)
        · exact .inr (.inl h)
        · exact .inl h
        · exact .inr (.inr h)
      · rintro (h | h | h)
        · exact .inr (.inl h)
        · exact .inl h
        · exact .inr (.inr h)
    · simp
theorem ins_sp {p : Pn} {l : List Pn} (hl : Sp l) (hp : p ∉ l) : Sp (insP p l) := by
  induction l with
  | nil => exact List.pairwise_singleton _ _
  | cons y l ih =>
    simp only [insP]
    obtain ⟨h1, h2⟩ := List.pairwise_cons.1 hl
    split
    · rename_i hy
      refine List.pairwise_cons.2 ⟨fun x hx => ?_, ih h2 (fun h => hp (by simp [h]))⟩
      rw [ins_mem] at hx
      rcases hx with rfl | hx
      · exact hy
      · exact h1 x hx
    · rename_i hy
      have hy' : ltP p y = true := by
        cases h : ltP p y
        · exact absurd (ltP_tri h (by simpa using hy)) (fun e => hp (by simp [e]))
        · rfl
      refine List.pairwise_cons.2 ⟨fun x hx => ?_, hl⟩
      rcases List.mem_cons.1 hx with rfl | hx
      · exact hy'
      · exact ltP_trans hy' (h1 x hx)
/-- Where it is laid: how many stand ahead. -/
def cntP (p : Pn) : List Pn → Nat
  | [] => 0
  | x :: l => if ltP x p = true then cntP p l + 1 else 0
theorem cnt_le (p : Pn) (l : List Pn) : cntP p l ≤ l.length := by
  induction l with
  | nil => simp [cntP]
  | cons y l ih =>
    simp only [cntP]
    split
    · simp; omega
    · simp
theorem ins_cut (p : Pn) (l : List Pn) : insP p l = l.take (cntP p l) ++ p :: l.drop (cntP p l) := by
  induction l with
  | nil => simp [cntP, insP]
  | cons y l ih =>
    simp only [cntP, insP]
    split
    · simp [ih]
    · simp
theorem cnt_lt {p : Pn} {l : List Pn} {i : Nat} (hi : i < cntP p l) {x : Pn} (hx : l[i]? = some x) : ltP x p = true := by
  induction l generalizing i with
  | nil => simp [cntP] at hi
  | cons y l ih =>
    simp only [cntP] at hi
    split at hi
    · cases i with
      | zero =>
        simp at hx
        subst hx
        assumption
      | succ i => exact ih (i := i) (by omega) (by simpa using hx)
    · omega
theorem cnt_at {p : Pn} {l : List Pn} {x : Pn} (hx : l[cntP p l]? = some x) : ltP x p = false := by
  induction l with
  | nil => simp at hx
  | cons y l ih =>
    simp only [cntP] at hx
    split at hx
    · exact ih (by simpa using hx)
    · rename_i hy
      simp at hx
      subst hx
      simpa using hy

/-- The kth point of a node. -/
def pt (i j : Nat) : Pn := (mixL [110, i, 112, j], i, j)
/-- The points of i nodes, and the first j of the next. -/
def preP (i j : Nat) : List Pn := ((List.range i).flatMap fun a => (List.range 4).map (pt a)) ++ (List.range j).map (pt i)
theorem pre_zero : preP 0 0 = [] := rfl
theorem pre_next (i j : Nat) : preP i (j + 1) = preP i j ++ [pt i j] := by
  simp [preP, List.range_succ]
theorem pre_row (i : Nat) : preP i 4 = preP (i + 1) 0 := by
  simp only [preP, List.range_succ (n := i), List.flatMap_append, List.range_zero, List.map_nil, List.append_nil, List.flatMap_cons, List.flatMap_nil]
theorem pre_mem (i j : Nat) (x : Pn) : x ∈ preP i j ↔ ∃ a b, x = pt a b ∧ (a < i ∧ b < 4 ∨ a = i ∧ b < j) := by
  simp only [preP, List.mem_append, List.mem_flatMap, List.mem_range, List.mem_map]
  constructor
  · rintro (⟨a, ha, b, hb, rfl⟩ | ⟨b, hb, rfl⟩)
    · exact ⟨a, b, rfl, .inl ⟨ha, hb⟩⟩
    · exact ⟨i, b, rfl, .inr ⟨rfl, hb⟩⟩
  · rintro ⟨a, b, rfl, ⟨ha, hb⟩ | ⟨rfl, hb⟩⟩
    · exact .inl ⟨a, ha, b, hb, rfl⟩
    · exact .inr ⟨b, hb, rfl⟩
theorem pt_inj {a b c d : Nat} (h : pt a b = pt c d) : a = c ∧ b = d := by
  simp only [pt, Prod.mk.injEq] at h
  exact h.2
theorem pre_new (i j : Nat) : pt i j ∉ preP i j := by
  rw [pre_mem]
  rintro ⟨a, b, e, h⟩
  obtain ⟨rfl, rfl⟩ := pt_inj e
  omega
theorem pre_nodup (i j : Nat) (hj : j ≤ 4) : (preP i j).Nodup := by
  have step : ∀ i, (preP i 0).Nodup → ∀ j, j ≤ 4 → (preP i j).Nodup := fun i h0 j => by
    induction j with
    | zero => exact fun _ => h0
    | succ j ih =>
      intro hj
      rw [pre_next]
      refine List.nodup_append.2 ⟨ih (by omega), by simp, fun a ha b hb => ?_⟩
      simp only [List.mem_singleton] at hb
      subst hb
      exact fun e => pre_new i j (e ▸ ha)
  have all : ∀ i, (preP i 0).Nodup := fun i => by
    induction i with
    | zero => exact List.nodup_nil
    | succ i ih =>
      rw [← pre_row]
      exact step i ih 4 (Nat.le_refl _)
  exact step i (all i) j hj
theorem pre_len (i j : Nat) : (preP i j).length = i * 4 + j := by
  have h : ∀ i, ((List.range i).flatMap fun a => (List.range 4).map (pt a)).length = i * 4 := fun i => by
    induction i with
    | zero => rfl
    | succ i ih =>
      rw [List.range_succ (n := i), List.flatMap_append, List.length_append, ih]
      simp
      omega
  simp [preP, h]
/-- The points in order. -/
def srtP (l : List Pn) : List Pn := l.foldl (fun m p => insP p m) []
theorem srt_next (l : List Pn) (p : Pn) : srtP (l ++ [p]) = insP p (srtP l) := by simp [srtP]
theorem srt_mem (l : List Pn) (x : Pn) : x ∈ srtP l ↔ x ∈ l := by
  have h : ∀ (l m : List Pn), x ∈ l.foldl (fun m p => insP p m) m ↔ x ∈ l ∨ x ∈ m := fun l => by
    induction l with
    | nil => simp
    | cons y l ih =>
      intro m
      rw [List.foldl_cons, ih, ins_mem, List.mem_cons]
      constructor
      · rintro (h | h | h)
        · exact .inl (.inr h)
        · exact .inl (.inl h)
        · exact .inr h
      · rintro ((h | h) | h)
        · exact .inr (.inl h)
        · exact .inl h
        · exact .inr (.inr h)
  simpa [srtP] using h l []
theorem srt_sp {l : List Pn} (h : l.Nodup) : Sp (srtP l) := by
  have H : ∀ (l m : List Pn), l.Nodup → Sp m → (∀ x ∈ l, x ∉ m) → Sp (l.foldl (fun m p => insP p m) m) := fun l => by
    induction l with
    | nil => exact fun m _ h _ => h
    | cons y l ih =>
      intro m hn hm hd
      obtain ⟨h1, h2⟩ := List.nodup_cons.1 hn
      rw [List.foldl_cons]
      refine ih _ h2 (ins_sp hm (hd y (by simp))) (fun x hx => ?_)
      rw [ins_mem]
      rintro (rfl | h)
      · exact h1 hx
      · exact hd x (by simp [hx]) h
  exact H l [] h List.Pairwise.nil (by simp)
/-- The points of n nodes in order. -/
def ptsP (n : Nat) : List Pn := srtP (preP n 0)
theorem pts_sp (n : Nat) : Sp (ptsP n) := srt_sp (pre_nodup n 0 (by omega))
theorem pts_mem (n : Nat) (x : Pn) : x ∈ ptsP n ↔ ∃ a b, x = pt a b ∧ a < n ∧ b < 4 := by
  rw [ptsP, srt_mem, pre_mem]
  constructor
  · rintro ⟨a, b, e, h⟩
    exact ⟨a, b, e, by omega, by omega⟩
  · rintro ⟨a, b, e, h1, h2⟩
    exact ⟨a, b, e, .inl ⟨h1, h2⟩⟩
theorem ins_len (p : Pn) (l : List Pn) : (insP p l).length = l.length + 1 := by
  induction l with
  | nil => rfl
  | cons y l ih =>
    simp only [insP]
    split
    · simp [ih]
    · simp
theorem srt_len (l : List Pn) : (srtP l).length = l.length := by
  have : ∀ (l m : List Pn), (l.foldl (fun m p => insP p m) m).length = l.length + m.length := fun l => by
    induction l with
    | nil => simp
    | cons y l ih =>
      intro m
      rw [List.foldl_cons, ih, ins_len]
      simp
      omega
  simpa [srtP] using this l []
theorem pts_len (n : Nat) : (ptsP n).length = n * 4 := by rw [ptsP, srt_len, pre_len]; omega

/-- A node, if it is not there yet. -/
def addO (o : List Nat) (x : Nat) : List Nat := if x ∈ o then o else o ++ [x]
/-- The nodes of points, each once, as they come. -/
def addN (o : List Nat) (l : List Pn) : List Nat := l.foldl (fun o p => addO o p.2.1) o
theorem addN_next (o : List Nat) (l : List Pn) (p : Pn) : addN o (l ++ [p]) = addO (addN o l) p.2.1 := by simp [addN]
theorem addN_app (o : List Nat) (l m : List Pn) : addN o (l ++ m) = addN (addN o l) m := by simp [addN]
theorem addO_mem (o : List Nat) (x y : Nat) : y ∈ addO o x ↔ y ∈ o ∨ y = x := by
  unfold addO
  split
  · constructor
    · exact .inl
    · rintro (h | rfl)
      · exact h
      · assumption
  · simp
theorem addN_mem (l : List Pn) (o : List Nat) (y : Nat) : y ∈ addN o l ↔ y ∈ o ∨ ∃ p ∈ l, p.2.1 = y := by
  induction l generalizing o with
  | nil => simp [addN]
  | cons p l ih =>
    have : addN o (p :: l) = addN (addO o p.2.1) l := rfl
    rw [this, ih, addO_mem]
    constructor
    · rintro ((h | h) | ⟨q, hq, h⟩)
      · exact .inl h
      · exact .inr ⟨p, by simp, h.symm⟩
      · exact .inr ⟨q, by simp [hq], h⟩
    · rintro (h | ⟨q, hq, h⟩)
      · exact .inl (.inl h)
      · rcases List.mem_cons.1 hq with rfl | hq
        · exact .inl (.inr h.symm)
        · exact .inr ⟨q, hq, h⟩
theorem addO_nodup {o : List Nat} (h : o.Nodup) (x : Nat) : (addO o x).Nodup := by
  unfold addO
  split
  · exact h
  · rename_i hx
    refine List.nodup_append.2 ⟨h, by simp, fun a ha b hb => ?_⟩
    simp only [List.mem_singleton] at hb
    subst hb
    exact fun e => hx (e ▸ ha)
theorem addN_nodup (l : List Pn) {o : List Nat} (h : o.Nodup) : (addN o l).Nodup := by
  induction l generalizing o with
  | nil => exact h
  | cons p l ih => exact ih (addO_nodup h _)
theorem addO_filter (q : Nat → Bool) (o : List Nat) (x : Nat) : (addO o x).filter q = if q x = true then addO (o.filter q) x else o.filter q := by
  unfold addO
  by_cases hx : x ∈ o
  · simp only [hx, if_true]
    split
    · rename_i hq
      simp [hx, hq]
    · rfl
  · simp only [hx, if_false, List.filter_append, List.filter_cons, List.filter_nil]
    split
    · rename_i hq
      simp [hx]
    · simp
theorem addN_filter (q : Nat → Bool) (l : List Pn) (o : List Nat) : (addN o l).filter q = addN (o.filter q) (l.filter fun p => q p.2.1) := by
  induction l generalizing o with
  | nil => rfl
  | cons p l ih =>
    have : addN o (p :: l) = addN (addO o p.2.1) l := rfl
    rw [this, ih, addO_filter, List.filter_cons]
    split
    · rfl
    · rfl
/-- The nodes in the order in which their points come from a place on. -/
def ordP (s : Nat) (l : List Pn) : List Nat := addN (addN [] (l.filter fun p => decide (s ≤ p.1))) (l.filter fun p => !decide (s ≤ p.1))
theorem ord_nodup (s : Nat) (l : List Pn) : (ordP s l).Nodup := addN_nodup _ (addN_nodup _ List.nodup_nil)
theorem ord_mem (s n y : Nat) : y ∈ ordP s (ptsP n) ↔ y < n := by
  rw [ordP, addN_mem, addN_mem]
  constructor
  · rintro ((h | ⟨p, hp, rfl⟩) | ⟨p, hp, rfl⟩)
    · simp at h
    all_goals
      have := (List.mem_filter.1 hp).1
      rw [pts_mem] at this
      obtain ⟨a, b, rfl, ha, hb⟩ := this
      exact ha
  · intro hy
    have hm : pt y 0 ∈ ptsP n := (pts_mem n _).2 ⟨y, 0, rfl, hy, by omega⟩
    by_cases h : s ≤ (pt y 0).1
    · exact .inl (.inr ⟨pt y 0, List.mem_filter.2 ⟨hm, by simpa using h⟩, rfl⟩)
    · exact .inr ⟨pt y 0, List.mem_filter.2 ⟨hm, by simpa using h⟩, rfl⟩
theorem ord_len (s n : Nat) : (ordP s (ptsP n)).length = n := by
  have hp : (ordP s (ptsP n)).Perm (List.range n) := (List.perm_ext_iff_of_nodup (ord_nodup s _) List.nodup_range).2 (fun a => by rw [ord_mem, List.mem_range])
  simpa using hp.length_eq
theorem pts_less (n : Nat) : (ptsP (n + 1)).filter (fun p => decide (p.2.1 ≠ n)) = ptsP n := by
  refine sp_ext ((pts_sp _).filter _) (pts_sp n) (fun x => ?_)
  rw [List.mem_filter, pts_mem, pts_mem]
  constructor
  · rintro ⟨⟨a, b, rfl, ha, hb⟩, h⟩
    have : a ≠ n := of_decide_eq_true h
    exact ⟨a, b, rfl, by omega, hb⟩
  · rintro ⟨a, b, rfl, ha, hb⟩
    refine ⟨⟨a, b, rfl, by omega, hb⟩, ?_⟩
    have : a ≠ n := by omega
    exact decide_eq_true this
theorem ord_less (s n : Nat) : (ordP s (ptsP (n + 1))).filter (fun y => decide (y ≠ n)) = ordP s (ptsP n) := by
  have e := pts_less n
  unfold ordP
  rw [addN_filter, addN_filter, List.filter_filter, List.filter_filter]
  simp only [List.filter_nil]
  rw [← e, List.filter_filter, List.filter_filter]
  congr 1
  · congr 1
    refine List.filter_congr (fun x _ => ?_)
    rw [Bool.and_comm]
  · refine List.filter_congr (fun x _ => ?_)
    rw [Bool.and_comm]
/-- A row in order, cut where the place stands. -/
theorem cut_ge {l : List Pn} {s c : Nat} (h1 : ∀ i x, i < c → l[i]? = some x → x.1 < s) (h2 : ∀ i x, c ≤ i → l[i]? = some x → s ≤ x.1) :
    l.filter (fun p => decide (s ≤ p.1)) = l.drop c ∧ l.filter (fun p => !decide (s ≤ p.1)) = l.take c := by
  have a1 : ∀ x ∈ l.take c, x.1 < s := fun x hx => by
    obtain ⟨i, hi⟩ := List.getElem?_of_mem hx
    rw [List.getElem?_take] at hi
    split at hi
    · exact h1 i x (by assumption) hi
    · cases hi
  have a2 : ∀ x ∈ l.drop c, s ≤ x.1 := fun x hx => by
    obtain ⟨i, hi⟩ := List.getElem?_of_mem hx
    rw [List.getElem?_drop] at hi
    exact h2 _ x (Nat.le_add_right _ _) hi
  have e : l = l.take c ++ l.drop c := (List.take_append_drop c l).symm
  constructor
  · conv => lhs; rw [e]
    rw [List.filter_append, List.filter_eq_nil_iff.2 (fun x hx => by have := a1 x hx; simp; omega), List.filter_eq_self.2 (fun x hx => by simpa using a2 x hx)]
    rfl
  · conv => lhs; rw [e]
    rw [List.filter_append, List.filter_eq_self.2 (fun x hx => by have := a1 x hx; simp; omega), List.filter_eq_nil_iff.2 (fun x hx => by simpa using a2 x hx)]
    simp
theorem sp_le {l : List Pn} (h : Sp l) {i j : Nat} {x y : Pn} (hx : l[i]? = some x) (hy : l[j]? = some y) (hij : i ≤ j) : x.1 ≤ y.1 := by
  rcases Nat.lt_or_ge i j with hlt | hge
  · obtain ⟨hi, rfl⟩ := List.getElem?_eq_some_iff.1 hx
    obtain ⟨hj, rfl⟩ := List.getElem?_eq_some_iff.1 hy
    have := List.pairwise_iff_getElem.1 h i j hi hj hlt
    rw [ltP_iff] at this
    omega
  · obtain rfl : i = j := by omega
    rw [hx] at hy
    cases hy
    exact Nat.le_refl _
end Go.Proofs.Ytpiknkgnmjcjjaa
