/- Sibs as what is known of each dot: nothing, a value, that it is gone. -/
import Derived.Test.YtmeclfgehpbjlaaOrdP
namespace Go.Proofs.Ytmeclfgehpbjlaa

abbrev St := Option (Option A)
def joinSt : St → St → St
  | none, s => s
  | some none, _ => some none
  | some (some x), none => some (some x)
  | some (some x), some (some y) => some (some (firstA x y))
  | some (some _), some none => some none
def hit (d : Int × Int) (x : A) : Bool := decide (x.node = d.1 ∧ x.num = d.2)
def st (f : Nat → Int) (l : List A) (d : Int × Int) : St :=
  match l.find? (hit d) with
  | some x => some (some x)
  | none => if coversB f d.1 d.2 then some none else none
theorem hit_iff {d : Int × Int} {x : A} : hit d x = true ↔ x.node = d.1 ∧ x.num = d.2 := by simp [hit]
theorem find_some {l : List A} (h : Srt l) {d : Int × Int} {x : A} : l.find? (hit d) = some x ↔ x ∈ l ∧ hit d x = true := by
  constructor
  · intro e
    exact ⟨List.mem_of_find?_eq_some e, List.find?_some e⟩
  · rintro ⟨hx, hd⟩
    cases e : l.find? (hit d) with
    | none => exact absurd hd (by simpa using List.find?_eq_none.1 e x hx)
    | some y =>
      have hy := List.mem_of_find?_eq_some e
      have hyd := List.find?_some e
      rw [hit_iff] at hd hyd
      rw [srt_dot h hy hx ⟨hyd.1.trans hd.1.symm, hyd.2.trans hd.2.symm⟩]
theorem find_none {l : List A} {d : Int × Int} : l.find? (hit d) = none ↔ ∀ x ∈ l, ¬ (x.node = d.1 ∧ x.num = d.2) := by
  rw [List.find?_eq_none]
  simp only [hit_iff]
theorem st_val {f : Nat → Int} {l : List A} (h : Srt l) {d : Int × Int} {x : A} : st f l d = some (some x) ↔ x ∈ l ∧ x.node = d.1 ∧ x.num = d.2 := by
  rw [← hit_iff, ← find_some h]
  unfold st
  cases l.find? (hit d) with
  | none => cases hc : coversB f d.1 d.2 <;> simp
  | some y => simp
theorem st_ext {f g : Nat → Int} {l k : List A} (h1 : Srt l) (h2 : Srt k) (h : ∀ d, st f l d = st g k d) : l = k := by
  refine srt_ext h1 h2 (fun z => ?_)
  have e := h (z.node, z.num)
  constructor
  · intro hz
    have := (st_val (f := f) h1 (d := (z.node, z.num))).2 ⟨hz, rfl, rfl⟩
    rw [e] at this
    exact ((st_val h2).1 this).1
  · intro hz
    have := (st_val (f := g) h2 (d := (z.node, z.num))).2 ⟨hz, rfl, rfl⟩
    rw [← e] at this
    exact ((st_val h1).1 this).1
theorem st_vec {f g : Nat → Int} (h : ∀ j, j < 8 → f j = g j) (l : List A) (d : Int × Int) : st f l d = st g l d := by
  have : coversB f d.1 d.2 = coversB g d.1 d.2 := by
    rw [Bool.eq_iff_iff]
    exact ⟨cov_mono (fun j hj => by rw [h j hj]; exact Int.le_refl _), cov_mono (fun j hj => by rw [h j hj]; exact Int.le_refl _)⟩
  unfold st
  rw [this]
theorem st_join {f g : Nat → Int} {l k : List A} (h1 : MayP f l) (h2 : MayP g k) (d : Int × Int) : st (maxV f g) (mergeA (nc g) (nc f) l k) d = joinSt (st f l d) (st g k d) := by
  have s1 := may_srt h1
  have s2 := may_srt h2
  have s3 := srt_merge (nc g) (nc f) l k s1 s2
  have mm := mem_merge (nc g) (nc f) l k s1 s2
  cases e1 : l.find? (hit d) with
  | some x =>
    obtain ⟨hx, hxd⟩ := (find_some s1).1 e1
    rw [hit_iff] at hxd
    have st1 : st f l d = some (some x) := by unfold st; rw [e1]
    cases e2 : k.find? (hit d) with
    | some y =>
      obtain ⟨hy, hyd⟩ := (find_some s2).1 e2
      rw [hit_iff] at hyd
      have st2 : st g k d = some (some y) := by unfold st; rw [e2]
      have he : EQ x y := ⟨hxd.1.trans hyd.1.symm, hxd.2.trans hyd.2.symm⟩
      have hf := first_dot he
      rw [st1, st2]
      exact (st_val s3).2 ⟨(mm _).2 (.inl ⟨x, hx, y, hy, he, rfl⟩), hf.1.trans hxd.1, hf.2.trans hxd.2⟩
    | none =>
      have hn := find_none.1 e2
      cases hc : coversB g d.1 d.2
      · have st2 : st g k d = none := by unfold st; rw [e2]; simp [hc]
        rw [st1, st2]
        refine (st_val s3).2 ⟨(mm _).2 (.inr (.inl ⟨hx, ?_, fun y hy e => hn y hy ⟨e.1.symm.trans hxd.1, e.2.symm.trans hxd.2⟩⟩)), hxd⟩
        rw [nc_iff, hxd.1, hxd.2, hc]
        simp
      · have st2 : st g k d = some none := by unfold st; rw [e2]; simp [hc]
        rw [st1, st2]
        have hz : (mergeA (nc g) (nc f) l k).find? (hit d) = none := by
          rw [find_none]
          intro z hz hzd
          rcases (mm z).1 hz with ⟨x', hx', y', hy', he, rfl⟩ | ⟨hzl, hp, -⟩ | ⟨hzk, -, -⟩
          · have hf := first_dot he
            exact hn y' hy' ⟨he.1.symm.trans (hf.1.symm.trans hzd.1), he.2.symm.trans (hf.2.symm.trans hzd.2)⟩
          · rw [nc_iff, hzd.1, hzd.2] at hp
            exact hp hc
          · exact hn z hzk hzd
        have hcm : coversB (maxV f g) d.1 d.2 = true := cov_max.2 (.inr hc)
        unfold st
        rw [hz]
        simp [hcm, joinSt]
  | none =>
    have hn := find_none.1 e1
    cases e2 : k.find? (hit d) with
    | some y =>
      obtain ⟨hy, hyd⟩ := (find_some s2).1 e2
      rw [hit_iff] at hyd
      have st2 : st g k d = some (some y) := by unfold st; rw [e2]
      cases hc : coversB f d.1 d.2
      · have st1 : st f l d = none := by unfold st; rw [e1]; simp [hc]
        rw [st1, st2]
        refine (st_val s3).2 ⟨(mm _).2 (.inr (.inr ⟨hy, ?_, fun x hx e => hn x hx ⟨e.1.trans hyd.1, e.2.trans hyd.2⟩⟩)), hyd⟩
        rw [nc_iff, hyd.1, hyd.2, hc]
        simp
      · have st1 : st f l d = some none := by unfold st; rw [e1]; simp [hc]
        rw [st1, st2]
        have hz : (mergeA (nc g) (nc f) l k).find? (hit d) = none := by
          rw [find_none]
          intro z hz hzd
          rcases (mm z).1 hz with ⟨x', hx', y', hy', he, rfl⟩ | ⟨hzl, -, -⟩ | ⟨hzk, hp, -⟩
          · have hf := first_dot he
            exact hn x' hx' ⟨hf.1.symm.trans hzd.1, hf.2.symm.trans hzd.2⟩
          · exact hn z hzl hzd
          · rw [nc_iff, hzd.1, hzd.2] at hp
            exact hp hc
        have hcm : coversB (maxV f g) d.1 d.2 = true := cov_max.2 (.inl hc)
        unfold st
        rw [hz]
        simp [hcm, joinSt]
    | none =>
      have hn2 := find_none.1 e2
      have hz : (mergeA (nc g) (nc f) l k).find? (hit d) = none := by
        rw [find_none]
        intro z hz hzd
        rcases inM_mem ((mm z).1 hz) with h | h
        · exact hn z h hzd
        · exact hn2 z h hzd
      unfold st
      rw [hz, e1, e2]
      cases c1 : coversB f d.1 d.2 <;> cases c2 : coversB g d.1 d.2
      · have : coversB (maxV f g) d.1 d.2 = false := by rw [Bool.eq_false_iff, ne_eq, cov_max, c1, c2]; simp
        simp [this, joinSt]
      · simp [cov_max.2 (.inr c2), joinSt]
      · simp [cov_max.2 (.inl c1), joinSt]
      · simp [cov_max.2 (.inl c1), joinSt]

/-- Of one dot. -/
def Of (d : Int × Int) : St → Prop
  | some (some x) => x.node = d.1 ∧ x.num = d.2
  | _ => True
theorem st_of {f : Nat → Int} {l : List A} (h : Srt l) (d : Int × Int) : Of d (st f l d) := by
  rcases e : st f l d with _ | _ | x
  · trivial
  · trivial
  · exact ((st_val h).1 e).2
theorem of_eq {d : Int × Int} {x y : A} (h : Of d (some (some x))) (k : Of d (some (some y))) : EQ x y := ⟨h.1.trans k.1.symm, h.2.trans k.2.symm⟩
theorem join_comm {d : Int × Int} {a b : St} (ha : Of d a) (hb : Of d b) : joinSt a b = joinSt b a := by
  rcases a with _ | _ | x <;> rcases b with _ | _ | y <;> try rfl
  simp only [joinSt]
  rw [first_comm (of_eq ha hb)]
theorem join_idem (a : St) : joinSt a a = a := by
  rcases a with _ | _ | x <;> try rfl
  simp only [joinSt, first_self]
theorem of_join {d : Int × Int} {a b : St} (ha : Of d a) (hb : Of d b) : Of d (joinSt a b) := by
  rcases a with _ | _ | x <;> rcases b with _ | _ | y <;> try trivial
  have hf := first_dot (of_eq ha hb)
  exact ⟨hf.1.trans ha.1, hf.2.trans ha.2⟩
theorem first_assoc {x y z : A} (h : EQ x y) (k : EQ y z) : firstA (firstA x y) z = firstA x (firstA y z) := by
  have e1 := first_dot h
  have e2 := first_dot k
  have k1 : EQ (firstA x y) z := e1.trans (h.trans k)
  have k2 : EQ x (firstA y z) := h.trans e2.symm
  obtain ⟨a1, a2, a3, a4⟩ := first_min k1
  obtain ⟨b1, b2, b3, b4⟩ := first_min k2
  obtain ⟨c1, c2, c3, c4⟩ := first_min h
  obtain ⟨d1, d2, d3, d4⟩ := first_min k
  have p1 := bef_trans a2 c2
  have p2 := bef_trans a2 c3
  have q2 := bef_trans b3 d2
  have q3 := bef_trans b3 d3
  refine bef_anti (a1.trans (e1.trans b1.symm)) ?_ ?_
  · rcases b4 with e | e
    · rw [e]; exact p1
    · rcases d4 with e' | e'
      · rw [e, e']; exact p2
      · rw [e, e']; exact a3
  · rcases a4 with e | e
    · rcases c4 with e' | e'
      · rw [e, e']; exact b2
      · rw [e, e']; exact q2
    · rw [e]; exact q3
theorem join_assoc {d : Int × Int} {a b c : St} (ha : Of d a) (hb : Of d b) (hc : Of d c) : joinSt (joinSt a b) c = joinSt a (joinSt b c) := by
  rcases a with _ | _ | x <;> rcases b with _ | _ | y <;> rcases c with _ | _ | z <;> try rfl
  simp only [joinSt]
  rw [first_assoc (of_eq ha hb) (of_eq hb hc)]

/-- Sibs that may be, as data. -/
structure P5 where
  f : Nat → Int
  l : List A
  may : MayP f l
/-- The same. -/
def Sam (a b : P5) : Prop := (∀ j, j < 8 → a.f j = b.f j) ∧ a.l = b.l
theorem join_few {f g : Nat → Int} {l k : List A} (h1 : MayP f l) (h2 : MayP g k) (hn : l.length + k.length ≤ 16) : joinV f g l k = maxV f g ∧ joinL f g l k = mergeA (nc g) (nc f) l k := by
  have e1 := may_yes h1
  have e2 := may_yes h2
  refine ⟨by simp [joinV, e1, e2], ?_⟩
  simp only [joinL, e1, e2, and_self, if_true]
  exact List.take_of_length_le (Nat.le_trans (len_merge _ _ _ _) hn)
theorem join_ok {f g : Nat → Int} {l k : List A} (h1 : MayP f l) (h2 : MayP g k) : MayP (joinV f g l k) (joinL f g l k) := by
  have e1 := may_yes h1
  have e2 := may_yes h2
  have a1 : joinV f g l k = maxV f g := by simp [joinV, e1, e2]
  have a2 : joinL f g l k = (mergeA (nc g) (nc f) l k).take 16 := by simp [joinL, e1, e2]
  rw [a1, a2]
  exact may_join h1 h2 _ _
theorem join_len {f g : Nat → Int} {l k : List A} (h1 : MayP f l) (h2 : MayP g k) (hn : l.length + k.length ≤ 16) : (joinL f g l k).length ≤ l.length + k.length := by
  rw [(join_few h1 h2 hn).2]
  exact len_merge _ _ _ _
theorem join_st {f g : Nat → Int} {l k : List A} (h1 : MayP f l) (h2 : MayP g k) (hn : l.length + k.length ≤ 16) (d : Int × Int) : st (joinV f g l k) (joinL f g l k) d = joinSt (st f l d) (st g k d) := by
  obtain ⟨e1, e2⟩ := join_few h1 h2 hn
  rw [e1, e2]
  exact st_join h1 h2 d
section
variable {f g h : Nat → Int} {l k m : List A}
theorem ord_comm (h1 : MayP f l) (h2 : MayP g k) (hn : l.length + k.length ≤ 16) : sameS (joinV f g l k) (joinV g f k l) (joinL f g l k) (joinL g f k l) = true := by
  rw [same_iff]
  refine ⟨fun j _ => ?_, st_ext (f := joinV f g l k) (g := joinV g f k l) (may_srt (join_ok h1 h2)) (may_srt (join_ok h2 h1)) (fun d => ?_)⟩
  · rw [(join_few h1 h2 hn).1, (join_few h2 h1 (by omega)).1]
    simp only [maxV]
    omega
  · rw [join_st h1 h2 hn, join_st h2 h1 (by omega)]
    exact join_comm (st_of (may_srt h1) d) (st_of (may_srt h2) d)
theorem ord_self (h1 : MayP f l) : sameS (joinV f f l l) f (joinL f f l l) l = true := by
  have e1 := may_yes h1
  rw [same_iff]
  refine ⟨fun j _ => by simp [joinV, e1, maxV], ?_⟩
  simp only [joinL, e1, and_self, if_true]
  rw [merge_self]
  exact take_may h1
theorem ord_assoc (h1 : MayP f l) (h2 : MayP g k) (h3 : MayP h m) (hn : l.length + k.length + m.length ≤ 16) :
    sameS (joinV (joinV f g l k) h (joinL f g l k) m) (joinV f (joinV g h k m) l (joinL g h k m)) (joinL (joinV f g l k) h (joinL f g l k) m) (joinL f (joinV g h k m) l (joinL g h k m)) = true := by
  have j1 := join_ok h1 h2
  have j2 := join_ok h2 h3
  have n1 := join_len h1 h2 (by omega)
  have n2 := join_len h2 h3 (by omega)
  rw [same_iff]
  refine ⟨fun j _ => ?_, st_ext (f := joinV (joinV f g l k) h (joinL f g l k) m) (g := joinV f (joinV g h k m) l (joinL g h k m)) (may_srt (join_ok j1 h3)) (may_srt (join_ok h1 j2)) (fun d => ?_)⟩
  · rw [(join_few j1 h3 (by omega)).1, (join_few h1 j2 (by omega)).1, (join_few h1 h2 (by omega)).1, (join_few h2 h3 (by omega)).1]
    simp only [maxV]
    omega
  · rw [join_st j1 h3 (by omega), join_st h1 j2 (by omega), join_st h1 h2 (by omega), join_st h2 h3 (by omega)]
    exact join_assoc (st_of (may_srt h1) d) (st_of (may_srt h2) d) (st_of (may_srt h3) d)
/-- Leq, dot by dot. -/
theorem leq_of (h1 : MayP f l) (h2 : MayP g k) (h3 : ∀ j, j < 8 → f j ≤ g j) (h4 : ∀ d, joinSt (st f l d) (st g k d) = st g k d) : leqS f g l k = true := by
  have hm := st_join h1 h2
  have e : mergeA (nc g) (nc f) l k = k := st_ext (f := maxV f g) (g := g) (srt_merge _ _ _ _ (may_srt h1) (may_srt h2)) (may_srt h2) (fun d => by rw [hm d, h4 d])
  exact leq_iff.2 ⟨h1, h2, h3, by rw [e]; exact take_may h2⟩
theorem of_leq (hn : l.length + k.length ≤ 16) (h : leqS f g l k = true) : MayP f l ∧ MayP g k ∧ (∀ j, j < 8 → f j ≤ g j) ∧ ∀ d, joinSt (st f l d) (st g k d) = st g k d := by
  obtain ⟨h1, h2, h3, h4⟩ := leq_iff.1 h
  have ht : (mergeA (nc g) (nc f) l k).take 16 = mergeA (nc g) (nc f) l k := List.take_of_length_le (Nat.le_trans (len_merge _ _ _ _) hn)
  rw [ht] at h4
  refine ⟨h1, h2, h3, fun d => ?_⟩
  rw [← st_join h1 h2 d, h4]
  exact st_vec (fun j hj => by have := h3 j hj; simp only [maxV]; omega) k d
theorem ord_left (h1 : MayP f l) (h2 : MayP g k) (hn : l.length + k.length ≤ 16) : leqS f (joinV f g l k) l (joinL f g l k) = true := by
  refine leq_of h1 (join_ok h1 h2) (fun j _ => by rw [(join_few h1 h2 hn).1]; simp only [maxV]; omega) (fun d => ?_)
  rw [join_st h1 h2 hn, ← join_assoc (st_of (may_srt h1) d) (st_of (may_srt h1) d) (st_of (may_srt h2) d), join_idem]
theorem ord_right (h1 : MayP f l) (h2 : MayP g k) (hn : l.length + k.length ≤ 16) : leqS g (joinV f g l k) k (joinL f g l k) = true := by
  refine leq_of h2 (join_ok h1 h2) (fun j _ => by rw [(join_few h1 h2 hn).1]; simp only [maxV]; omega) (fun d => ?_)
  have o1 := st_of (f := f) (may_srt h1) d
  have o2 := st_of (f := g) (may_srt h2) d
  rw [join_st h1 h2 hn, join_comm o1 o2, ← join_assoc o2 o2 o1, join_idem]
theorem ord_refl (h1 : MayP f l) : leqS f f l l = true := leq_of h1 h1 (fun _ _ => Int.le_refl _) (fun _ => join_idem _)
theorem ord_anti (hn : l.length + k.length ≤ 16) (h : leqS f g l k = true) (h' : leqS g f k l = true) : sameS f g l k = true := by
  obtain ⟨a1, a2, a3, a4⟩ := of_leq hn h
  obtain ⟨-, -, b3, b4⟩ := of_leq (by omega) h'
  have e : ∀ j, j < 8 → f j = g j := fun j hj => by have := a3 j hj; have := b3 j hj; omega
  refine same_iff.2 ⟨e, st_ext (f := f) (g := g) (may_srt a1) (may_srt a2) (fun d => ?_)⟩
  rw [← a4 d, join_comm (st_of (may_srt a1) d) (st_of (may_srt a2) d), b4 d]
theorem ord_trans (hn : l.length + k.length ≤ 16) (hn2 : k.length + m.length ≤ 16) (a : leqS f g l k = true) (b : leqS g h k m = true) : leqS f h l m = true := by
  obtain ⟨a1, a2, a3, a4⟩ := of_leq hn a
  obtain ⟨-, b2, b3, b4⟩ := of_leq hn2 b
  refine leq_of a1 b2 (fun j hj => Int.le_trans (a3 j hj) (b3 j hj)) (fun d => ?_)
  have o1 := st_of (f := f) (may_srt a1) d
  have o2 := st_of (f := g) (may_srt a2) d
  have o3 := st_of (f := h) (may_srt b2) d
  rw [← b4 d, ← join_assoc o1 o2 o3, a4 d]
theorem ord_least (hn : l.length + k.length ≤ 16) (hn1 : l.length + m.length ≤ 16) (hn2 : k.length + m.length ≤ 16) (a : leqS f h l m = true) (b : leqS g h k m = true) : leqS (joinV f g l k) h (joinL f g l k) m = true := by
  obtain ⟨a1, a2, a3, a4⟩ := of_leq hn1 a
  obtain ⟨b1, -, b3, b4⟩ := of_leq hn2 b
  refine leq_of (join_ok a1 b1) a2 (fun j hj => by rw [(join_few a1 b1 hn).1]; have := a3 j hj; have := b3 j hj; simp only [maxV]; omega) (fun d => ?_)
  have o1 := st_of (f := f) (may_srt a1) d
  have o2 := st_of (f := g) (may_srt b1) d
  have o3 := st_of (f := h) (may_srt a2) d
  rw [join_st a1 b1 hn, join_assoc o1 o2 o3, b4 d, a4 d]
end
end Go.Proofs.Ytmeclfgehpbjlaa
