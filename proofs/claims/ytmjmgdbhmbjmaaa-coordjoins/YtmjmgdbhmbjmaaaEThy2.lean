/- Items of several texts. -/
import Derived.Lib.SlBytesConst
import Derived.Test.YtmjmgdbhmbjmaaaELiv
namespace Go.Proofs.Ytmjmgdbhmbjmaaa
def LT (x y : A) : Prop := x.node < y.node ∨ x.node = y.node ∧ x.num < y.num
def EQ (x y : A) : Prop := x.node = y.node ∧ x.num = y.num
theorem less_iff {x y : A} : lessA x y = true ↔ LT x y := by simp [lessA, lessB, LT]
theorem LT.trans {x y z : A} (h : LT x y) (k : LT y z) : LT x z := by unfold LT at *; omega
theorem LT.ne {x y : A} (h : LT x y) : ¬ EQ x y := by unfold LT EQ at *; omega
theorem LT.ne' {x y : A} (h : LT x y) : ¬ EQ y x := by unfold LT EQ at *; omega
theorem EQ.symm {x y : A} (h : EQ x y) : EQ y x := ⟨h.1.symm, h.2.symm⟩
theorem EQ.trans {x y z : A} (h : EQ x y) (k : EQ y z) : EQ x z := ⟨h.1.trans k.1, h.2.trans k.2⟩
theorem EQ.lt {x y z : A} (h : EQ x y) (k : LT y z) : LT x z := by unfold LT EQ at *; omega
theorem LT.eq {x y z : A} (h : LT x y) (k : EQ y z) : LT x z := by unfold LT EQ at *; omega
theorem tri (x y : A) : LT x y ∨ LT y x ∨ EQ x y := by unfold LT EQ; omega
theorem LT.asym {x y : A} (h : LT x y) : ¬ LT y x := by unfold LT at *; omega
theorem LT.irr (x : A) : ¬ LT x x := by unfold LT; omega
theorem EQ.refl (x : A) : EQ x x := ⟨rfl, rfl⟩
def Srt (l : List A) : Prop := l.Pairwise LT
theorem may_srt {f : Nat → Int} {l : List A} (h : MayP f l) : Srt l := by
 have key : ∀ k i x y, l[i]? = some x → l[i + k + 1]? = some y → LT x y := by
  intro k
  induction k with
  | zero => intro i x y hx hy; exact less_iff.1 (h.less i x y hx hy)
  | succ k ih =>
   intro i x y hx hy
   have hl : i + k + 1 < l.length := by
    obtain ⟨h, -⟩ := List.getElem?_eq_some_iff.1 hy
    omega
   have hz := ih i x l[i + k + 1] hx (List.getElem?_eq_getElem hl)
   exact hz.trans (less_iff.1 (h.less (i + k + 1) _ y (List.getElem?_eq_getElem hl) hy))
 unfold Srt
 rw [List.pairwise_iff_getElem]
 intro i j hi hj hij
 refine key (j - i - 1) i _ _ (List.getElem?_eq_getElem hi) ?_
 rw [show i + (j - i - 1) + 1 = j by omega]
 exact List.getElem?_eq_getElem hj
theorem srt_ext : ∀ {l k : List A}, Srt l → Srt k → (∀ z, z ∈ l ↔ z ∈ k) → l = k
 | [], [], _, _, _ => rfl
 | [], y :: k, _, _, h => by have := (h y).2 (by simp); simp at this
 | x :: l, [], _, _, h => by have := (h x).1 (by simp); simp at this
 | x :: l, y :: k, hl, hk, h => by
  unfold Srt at hl hk
  rw [List.pairwise_cons] at hl hk
  have hxy : x = y := by
   have h1 := (h x).1 (by simp)
   have h2 := (h y).2 (by simp)
   simp only [List.mem_cons] at h1 h2
   rcases h1 with h1 | h1
   ·exact h1
   ·rcases h2 with h2 | h2
    ·exact h2.symm
    ·exact ((hl.1 y h2).asym (hk.1 x h1)).elim
  subst hxy
  rw [srt_ext hl.2 hk.2 (fun z => ?_)]
  have hz := h z
  simp only [List.mem_cons] at hz
  constructor
  ·intro h1
   rcases hz.1 (.inr h1) with rfl | h2
   ·exact ((hl.1 z h1).asym (hl.1 z h1)).elim
   ·exact h2
  ·intro h1
   rcases hz.2 (.inr h1) with rfl | h2
   ·exact ((hk.1 z h1).asym (hk.1 z h1)).elim
   ·exact h2
theorem srt_dot {l : List A} (h : Srt l) {x y : A} (hx : x ∈ l) (hy : y ∈ l) (e : EQ x y) : x = y := by
 obtain ⟨i, hi, rfl⟩ := List.getElem_of_mem hx
 obtain ⟨j, hj, rfl⟩ := List.getElem_of_mem hy
 rcases Nat.lt_trichotomy i j with h1 | rfl | h1
 ·exact ((List.pairwise_iff_getElem.1 h i j hi hj h1).ne e).elim
 ·rfl
 ·exact ((List.pairwise_iff_getElem.1 h j i hj hi h1).ne' e).elim
def InM (p q : A → Bool) (xs ys : List A) (z : A) : Prop :=
 (∃ x ∈ xs, ∃ y ∈ ys, EQ x y ∧ z = firstA x y) ∨ (z ∈ xs ∧ p z = true ∧ ∀ y ∈ ys, ¬ EQ z y) ∨ (z ∈ ys ∧ q z = true ∧ ∀ x ∈ xs, ¬ EQ x z)
theorem first_dot {x y : A} (h : EQ x y) : EQ (firstA x y) x := by
 unfold firstA
 split
 ·exact EQ.refl x
 ·exact h.symm
theorem mem_keep {b : Bool} {x z : A} : z ∈ keep b x ↔ z = x ∧ b = true := by
 unfold keep
 cases b <;> simp
theorem not_less {x y : A} : lessA x y = false ↔ ¬ LT x y := by rw [← less_iff]; simp
theorem mem_merge (p q : A → Bool) (xs ys : List A) (hx : Srt xs) (hy : Srt ys) (z : A) : z ∈ mergeA p q xs ys ↔ InM p q xs ys z := by
 induction xs, ys using mergeA_ind with
 | case1 ys =>
  rw [mergeA_nil _ _ _ _ (.inl rfl)]
  simp [InM]
 | case2 x xs =>
  rw [mergeA_nil _ _ _ _ (.inr rfl)]
  simp [InM]
 | case3 x xs y ys h ih =>
  rw [mergeA_lt _ _ _ _ h, List.mem_append, mem_keep]
  unfold Srt at hx hy
  rw [List.pairwise_cons] at hx
  have hlt := less_iff.1 h
  have hlt' : ∀ y' ∈ y :: ys, LT x y' := fun y' hy' => by
   rcases List.mem_cons.1 hy' with rfl | h2
   ·exact hlt
   ·exact hlt.trans ((List.pairwise_cons.1 hy).1 y' h2)
  rw [ih hx.2 hy]
  unfold InM
  constructor
  ·rintro (⟨rfl, hp⟩ | ⟨x', h1, y', h2, h3, h4⟩ | ⟨h1, h2, h3⟩ | ⟨h1, h2, h3⟩)
   ·exact .inr (.inl ⟨by simp, hp, fun y' hy' => (hlt' y' hy').ne⟩)
   ·exact .inl ⟨x', by simp [h1], y', h2, h3, h4⟩
   ·exact .inr (.inl ⟨by simp [h1], h2, h3⟩)
   ·refine .inr (.inr ⟨h1, h2, fun x' hx' => ?_⟩)
    rcases List.mem_cons.1 hx' with rfl | hx'
    ·exact (hlt' z h1).ne
    ·exact h3 x' hx'
  ·rintro (⟨x', h1, y', h2, h3, h4⟩ | ⟨h1, h2, h3⟩ | ⟨h1, h2, h3⟩)
   ·rcases List.mem_cons.1 h1 with rfl | h1
    ·exact ((hlt' y' h2).ne h3).elim
    ·exact .inr (.inl ⟨x', h1, y', h2, h3, h4⟩)
   ·rcases List.mem_cons.1 h1 with rfl | h1
    ·exact .inl ⟨rfl, h2⟩
    ·exact .inr (.inr (.inl ⟨h1, h2, h3⟩))
   ·exact .inr (.inr (.inr ⟨h1, h2, fun x' hx' => h3 x' (by simp [hx'])⟩))
 | case4 x xs y ys h h' ih =>
  have h0 : lessA x y = false := by simpa using h
  rw [mergeA_gt _ _ _ _ h0 h', List.mem_append, mem_keep]
  unfold Srt at hx hy
  rw [List.pairwise_cons] at hy
  have hlt := less_iff.1 h'
  have hlt' : ∀ x' ∈ x :: xs, LT y x' := fun x' hx' => by
   rcases List.mem_cons.1 hx' with rfl | h2
   ·exact hlt
   ·exact hlt.trans ((List.pairwise_cons.1 hx).1 x' h2)
  rw [ih hx hy.2]
  unfold InM
  constructor
  ·rintro (⟨rfl, hp⟩ | ⟨x', h1, y', h2, h3, h4⟩ | ⟨h1, h2, h3⟩ | ⟨h1, h2, h3⟩)
   ·exact .inr (.inr ⟨by simp, hp, fun x' hx' => (hlt' x' hx').ne'⟩)
   ·exact .inl ⟨x', h1, y', by simp [h2], h3, h4⟩
   ·refine .inr (.inl ⟨h1, h2, fun y' hy' => ?_⟩)
    rcases List.mem_cons.1 hy' with rfl | hy'
    ·exact (hlt' z h1).ne'
    ·exact h3 y' hy'
   ·exact .inr (.inr ⟨by simp [h1], h2, h3⟩)
  ·rintro (⟨x', h1, y', h2, h3, h4⟩ | ⟨h1, h2, h3⟩ | ⟨h1, h2, h3⟩)
   ·rcases List.mem_cons.1 h2 with rfl | h2
    ·exact ((hlt' x' h1).ne' h3).elim
    ·exact .inr (.inl ⟨x', h1, y', h2, h3, h4⟩)
   ·exact .inr (.inr (.inl ⟨h1, h2, fun y' hy' => h3 y' (by simp [hy'])⟩))
   ·rcases List.mem_cons.1 h1 with rfl | h1
    ·exact .inl ⟨rfl, h2⟩
    ·exact .inr (.inr (.inr ⟨h1, h2, h3⟩))
 | case5 x xs y ys h h' ih =>
  have h0 : lessA x y = false := by simpa using h
  have h1' : lessA y x = false := by simpa using h'
  rw [mergeA_eq _ _ _ _ h0 h1', List.mem_cons]
  unfold Srt at hx hy
  rw [List.pairwise_cons] at hx hy
  have he : EQ x y := by
   rcases tri x y with h2 | h2 | h2
   ·exact (not_less.1 h0 h2).elim
   ·exact (not_less.1 h1' h2).elim
   ·exact h2
  rw [ih hx.2 hy.2]
  unfold InM
  constructor
  ·rintro (rfl | ⟨x', h1, y', h2, h3, h4⟩ | ⟨h1, h2, h3⟩ | ⟨h1, h2, h3⟩)
   ·exact .inl ⟨x, by simp, y, by simp, he, rfl⟩
   ·exact .inl ⟨x', by simp [h1], y', by simp [h2], h3, h4⟩
   ·refine .inr (.inl ⟨by simp [h1], h2, fun y' hy' => ?_⟩)
    rcases List.mem_cons.1 hy' with rfl | hy'
    ·exact fun e => (hx.1 z h1).ne (he.trans e.symm)
    ·exact h3 y' hy'
   ·refine .inr (.inr ⟨by simp [h1], h2, fun x' hx' => ?_⟩)
    rcases List.mem_cons.1 hx' with rfl | hx'
    ·exact fun e => (hy.1 z h1).ne (he.symm.trans e)
    ·exact h3 x' hx'
  ·rintro (⟨x', h1, y', h2, h3, h4⟩ | ⟨h1, h2, h3⟩ | ⟨h1, h2, h3⟩)
   ·rcases List.mem_cons.1 h1 with rfl | h1 <;> rcases List.mem_cons.1 h2 with rfl | h2
    ·exact .inl h4
    ·exact ((hy.1 y' h2).ne (he.symm.trans h3)).elim
    ·exact ((hx.1 x' h1).ne (he.trans h3.symm)).elim
    ·exact .inr (.inl ⟨x', h1, y', h2, h3, h4⟩)
   ·rcases List.mem_cons.1 h1 with rfl | h1
    ·exact (h3 y (by simp) he).elim
    ·exact .inr (.inr (.inl ⟨h1, h2, fun y' hy' => h3 y' (by simp [hy'])⟩))
   ·rcases List.mem_cons.1 h1 with rfl | h1
    ·exact (h3 x (by simp) he).elim
    ·exact .inr (.inr (.inr ⟨h1, h2, fun x' hx' => h3 x' (by simp [hx'])⟩))
theorem inM_dot {p q : A → Bool} {xs ys : List A} {z : A} (h : InM p q xs ys z) : (∃ x ∈ xs, EQ z x) ∨ ∃ y ∈ ys, EQ z y := by
 rcases h with ⟨x, hx, y, hy, e, rfl⟩ | ⟨h, -, -⟩ | ⟨h, -, -⟩
 ·exact .inl ⟨x, hx, first_dot e⟩
 ·exact .inl ⟨z, h, EQ.refl z⟩
 ·exact .inr ⟨z, h, EQ.refl z⟩
theorem srt_merge (p q : A → Bool) (xs ys : List A) (hx : Srt xs) (hy : Srt ys) : Srt (mergeA p q xs ys) := by
 induction xs, ys using mergeA_ind with
 | case1 ys =>
  rw [mergeA_nil _ _ _ _ (.inl rfl)]
  simp only [List.filter_nil, List.nil_append]
  exact List.Pairwise.filter q hy
 | case2 x xs =>
  rw [mergeA_nil _ _ _ _ (.inr rfl)]
  simp only [List.filter_nil, List.append_nil]
  exact List.Pairwise.filter p hx
 | case3 x xs y ys h ih =>
  have hx2 := List.pairwise_cons.1 hx
  have hlt := less_iff.1 h
  rw [mergeA_lt _ _ _ _ h]
  unfold Srt
  rw [List.pairwise_append]
  refine ⟨by unfold keep; split <;> simp, ih hx2.2 hy, fun a ha b hb => ?_⟩
  obtain ⟨rfl, -⟩ := mem_keep.1 ha
  rcases inM_dot ((mem_merge p q _ _ hx2.2 hy b).1 hb) with ⟨x', h1, h2⟩ | ⟨y', h1, h2⟩
  ·exact (hx2.1 x' h1).eq h2.symm
  ·rcases List.mem_cons.1 h1 with rfl | h1
   ·exact hlt.eq h2.symm
   ·exact (hlt.trans ((List.pairwise_cons.1 hy).1 y' h1)).eq h2.symm
 | case4 x xs y ys h h' ih =>
  have hy2 := List.pairwise_cons.1 hy
  have h0 : lessA x y = false := by simpa using h
  have hlt := less_iff.1 h'
  rw [mergeA_gt _ _ _ _ h0 h']
  unfold Srt
  rw [List.pairwise_append]
  refine ⟨by unfold keep; split <;> simp, ih hx hy2.2, fun a ha b hb => ?_⟩
  obtain ⟨rfl, -⟩ := mem_keep.1 ha
  rcases inM_dot ((mem_merge p q _ _ hx hy2.2 b).1 hb) with ⟨x', h1, h2⟩ | ⟨y', h1, h2⟩
  ·rcases List.mem_cons.1 h1 with rfl | h1
   ·exact hlt.eq h2.symm
   ·exact (hlt.trans ((List.pairwise_cons.1 hx).1 x' h1)).eq h2.symm
  ·exact (hy2.1 y' h1).eq h2.symm
 | case5 x xs y ys h h' ih =>
  have h0 : lessA x y = false := by simpa using h
  have h1' : lessA y x = false := by simpa using h'
  have hx2 := List.pairwise_cons.1 hx
  have hy2 := List.pairwise_cons.1 hy
  have he : EQ x y := by
   rcases tri x y with h2 | h2 | h2
   ·exact (not_less.1 h0 h2).elim
   ·exact (not_less.1 h1' h2).elim
   ·exact h2
  rw [mergeA_eq _ _ _ _ h0 h1']
  unfold Srt
  rw [List.pairwise_cons]
  refine ⟨fun b hb => ?_, ih hx2.2 hy2.2⟩
  have hf := first_dot he
  rcases inM_dot ((mem_merge p q _ _ hx2.2 hy2.2 b).1 hb) with ⟨x', h1, h2⟩ | ⟨y', h1, h2⟩
  ·exact hf.lt ((hx2.1 x' h1).eq h2.symm)
  ·exact (hf.trans he).lt ((hy2.1 y' h1).eq h2.symm)
end Go.Proofs.Ytmjmgdbhmbjmaaa

namespace Go.Proofs.Ytmjmgdbhmbjmaaa
theorem srt_take {l : List A} (h : Srt l) (n : Nat) : Srt (l.take n) := List.Pairwise.sublist (List.take_sublist n l) h
end Go.Proofs.Ytmjmgdbhmbjmaaa
