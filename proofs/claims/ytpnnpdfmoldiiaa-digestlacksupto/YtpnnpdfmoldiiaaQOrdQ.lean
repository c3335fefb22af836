/- Items of several texts. -/
import Derived.Test.YtpnnpdfmoldiiaaQLessP
namespace Go.Proofs.Ytpnnpdfmoldiiaa
theorem ltL_asym : ∀ {a b : List Nat}, ltL a b = true → ltL b a = false
 | [], [], h => by simp [ltL] at h
 | [], _ :: _, _ => by simp [ltL]
 | _ :: _, [], h => by simp [ltL] at h
 | x :: a, y :: b, h => by
  simp only [ltL] at *
  by_cases h1 : x < y
  ·have : ¬ y < x := by omega
   simp [h1, this]
  ·by_cases h2 : y < x
   ·simp [h1, h2] at h
   ·simp only [h1, h2, if_false] at *
    exact ltL_asym h
theorem ltL_tri : ∀ {a b : List Nat}, ltL a b = false → ltL b a = false → a = b
 | [], [], _, _ => rfl
 | [], _ :: _, h, _ => by simp [ltL] at h
 | _ :: _, [], _, h => by simp [ltL] at h
 | x :: a, y :: b, h, k => by
  simp only [ltL] at *
  by_cases h1 : x < y
  ·simp [h1] at h
  ·by_cases h2 : y < x
   ·simp [h2] at k
   ·simp only [h1, h2, if_false] at h k
    have : x = y := by omega
    rw [this, ltL_tri h k]
theorem ltL_trans : ∀ {a b c : List Nat}, ltL a b = true → ltL b c = true → ltL a c = true
 | [], [], _, h, _ => by simp [ltL] at h
 | [], _ :: _, [], _, h => by simp [ltL] at h
 | [], _ :: _, _ :: _, _, _ => by simp [ltL]
 | _ :: _, [], _, h, _ => by simp [ltL] at h
 | _ :: _, _ :: _, [], _, h => by simp [ltL] at h
 | x :: a, y :: b, z :: c, h, k => by
  simp only [ltL] at *
  by_cases h1 : x < y
  ·by_cases h2 : y < z
   ·simp [show x < z by omega]
   ·by_cases h3 : z < y
    ·simp [h2, h3] at k
    ·simp [show x < z by omega]
  ·by_cases h2 : y < x
   ·simp [h1, h2] at h
   ·simp only [h1, h2, if_false] at h
    obtain rfl : x = y := by omega
    by_cases h3 : x < z
    ·simp [h3]
    ·by_cases h4 : z < x
     ·simp [h3, h4] at k
     ·simp only [h3, h4, if_false] at k ⊢
      exact ltL_trans h k
def Bef (x y : A) : Prop := firstB x.dead y.dead x.data y.data = true
theorem first_bef {x y : A} (h : Bef x y) : firstA x y = x := by
 unfold Bef at h
 simp [firstA, h]
theorem bef_iff {x y : A} : Bef x y ↔ (x.dead = false ∧ y.dead = true) ∨ (x.dead = y.dead ∧ ltL y.data x.data = false) := by
 unfold Bef firstB
 cases x.dead <;> cases y.dead <;> simp
theorem bef_total (x y : A) : Bef x y ∨ Bef y x := by
 rw [bef_iff, bef_iff]
 cases hx : x.dead <;> cases hy : y.dead <;> simp
 all_goals
  cases h : ltL y.data x.data
  ·simp
  ·simp [ltL_asym h]
theorem bef_anti {x y : A} (e : EQ x y) (h : Bef x y) (k : Bef y x) : x = y := by
 rw [bef_iff] at h k
 have hd : x.dead = y.dead := by
  rcases h with h | h
  ·rcases k with k | k
   ·rw [h.2] at k; cases k.1
   ·exact k.1.symm
  ·exact h.1
 refine A.ext e.1 e.2 ?_ hd
 have h2 : ltL y.data x.data = false := by
  rcases h with h | h
  ·rw [h.1, h.2] at hd; cases hd
  ·exact h.2
 have k2 : ltL x.data y.data = false := by
  rcases k with k | k
  ·rw [k.1, k.2] at hd; cases hd
  ·exact k.2
 exact ltL_tri k2 h2
theorem bef_trans {x y z : A} (h : Bef x y) (k : Bef y z) : Bef x z := by
 rw [bef_iff] at *
 rcases h with ⟨h1, h2⟩ | ⟨h1, h2⟩
 ·rcases k with ⟨k1, k2⟩ | ⟨k1, k2⟩
  ·rw [h2] at k1; cases k1
  ·exact .inl ⟨h1, by rw [← k1]; exact h2⟩
 ·rcases k with ⟨k1, k2⟩ | ⟨k1, k2⟩
  ·exact .inl ⟨by rw [h1]; exact k1, k2⟩
  ·refine .inr ⟨h1.trans k1, ?_⟩
   cases h3 : ltL z.data x.data
   ·rfl
   ·exfalso
    -- z < x; not y < x; not z < y
    cases h4 : ltL x.data y.data
    ·have e := ltL_tri h4 h2
     rw [e] at h3
     rw [h3] at k2
     cases k2
    ·have := ltL_trans h3 h4
     rw [this] at k2
     cases k2
theorem first_min {x y : A} (e : EQ x y) : EQ (firstA x y) x ∧ Bef (firstA x y) x ∧ Bef (firstA x y) y ∧ (firstA x y = x ∨ firstA x y = y) := by
 refine ⟨first_dot e, ?_, ?_, first_or x y⟩
 ·rcases bef_total x y with h | h
  ·rw [first_bef h]
   exact (bef_total x x).elim id id
  ·by_cases h2 : Bef x y
   ·rw [first_bef h2]; exact (bef_total x x).elim id id
   ·have : firstA x y = y := by unfold Bef at h2; simp [firstA, h2]
    rw [this]; exact h
 ·by_cases h2 : Bef x y
  ·rw [first_bef h2]; exact h2
  ·have : firstA x y = y := by unfold Bef at h2; simp [firstA, h2]
   rw [this]
   exact (bef_total y y).elim id id
theorem first_comm {x y : A} (e : EQ x y) : firstA x y = firstA y x := by
 obtain ⟨a1, a2, a3, a4⟩ := first_min e
 obtain ⟨b1, b2, b3, b4⟩ := first_min e.symm
 refine bef_anti (a1.trans (e.trans b1.symm)) ?_ ?_
 ·rcases b4 with h | h
  ·rw [h]; exact a3
  ·rw [h]; exact a2
 ·rcases a4 with h | h
  ·rw [h]; exact b3
  ·rw [h]; exact b2
end Go.Proofs.Ytpnnpdfmoldiiaa

namespace Go.Proofs.Ytpnnpdfmoldiiaa
abbrev St := Option (Option A)
def joinSt : St → St → St
 | none, s => s
 | some none, _ => some none
 | some (some x), none => some (some x)
 | some (some x), some (some y) => some (some (firstA x y))
 | some (some _), some none => some none
def hit (d : Int × Int) (x : A) : Bool := decide (x.node = d.1 ∧ x.num = d.2)
def st (f : Nat → Int) (l : List A) (d : Int × Int) : St :=
 match l.find? (hit d) with
 | some x => some (some x)
 | none => if coversB f d.1 d.2 then some none else none
theorem hit_iff {d : Int × Int} {x : A} : hit d x = true ↔ x.node = d.1 ∧ x.num = d.2 := by simp [hit]
theorem find_some {l : List A} (h : Srt l) {d : Int × Int} {x : A} : l.find? (hit d) = some x ↔ x ∈ l ∧ hit d x = true := by
 constructor
 ·intro e
  exact ⟨List.mem_of_find?_eq_some e, List.find?_some e⟩
 ·rintro ⟨hx, hd⟩
  cases e : l.find? (hit d) with
  | none => exact absurd hd (by simpa using List.find?_eq_none.1 e x hx)
  | some y =>
   have hy := List.mem_of_find?_eq_some e
   have hyd := List.find?_some e
   rw [hit_iff] at hd hyd
   rw [srt_dot h hy hx ⟨hyd.1.trans hd.1.symm, hyd.2.trans hd.2.symm⟩]
theorem find_none {l : List A} {d : Int × Int} : l.find? (hit d) = none ↔ ∀ x ∈ l, ¬ (x.node = d.1 ∧ x.num = d.2) := by
 rw [List.find?_eq_none]
 simp only [hit_iff]
theorem st_val {f : Nat → Int} {l : List A} (h : Srt l) {d : Int × Int} {x : A} : st f l d = some (some x) ↔ x ∈ l ∧ x.node = d.1 ∧ x.num = d.2 := by
 rw [← hit_iff, ← find_some h]
 unfold st
 cases l.find? (hit d) with
 | none => cases hc : coversB f d.1 d.2 <;> simp
 | some y => simp
theorem st_ext {f g : Nat → Int} {l k : List A} (h1 : Srt l) (h2 : Srt k) (h : ∀ d, st f l d = st g k d) : l = k := by
 refine srt_ext h1 h2 (fun z => ?_)
 have e := h (z.node, z.num)
 constructor
 ·intro hz
  have := (st_val (f := f) h1 (d := (z.node, z.num))).2 ⟨hz, rfl, rfl⟩
  rw [e] at this
  exact ((st_val h2).1 this).1
 ·intro hz
  have := (st_val (f := g) h2 (d := (z.node, z.num))).2 ⟨hz, rfl, rfl⟩
  rw [← e] at this
  exact ((st_val h1).1 this).1
theorem st_join {f g : Nat → Int} {l k : List A} (h1 : MayP f l) (h2 : MayP g k) (d : Int × Int) : st (maxV f g) (mergeA (nc g) (nc f) l k) d = joinSt (st f l d) (st g k d) := by
 have s1 := may_srt h1
 have s2 := may_srt h2
 have s3 := srt_merge (nc g) (nc f) l k s1 s2
 have mm := mem_merge (nc g) (nc f) l k s1 s2
 cases e1 : l.find? (hit d) with
 | some x =>
  obtain ⟨hx, hxd⟩ := (find_some s1).1 e1
  rw [hit_iff] at hxd
  have st1 : st f l d = some (some x) := by unfold st; rw [e1]
  cases e2 : k.find? (hit d) with
  | some y =>
   obtain ⟨hy, hyd⟩ := (find_some s2).1 e2
   rw [hit_iff] at hyd
   have st2 : st g k d = some (some y) := by unfold st; rw [e2]
   have he : EQ x y := ⟨hxd.1.trans hyd.1.symm, hxd.2.trans hyd.2.symm⟩
   have hf := first_dot he
   rw [st1, st2]
   exact (st_val s3).2 ⟨(mm _).2 (.inl ⟨x, hx, y, hy, he, rfl⟩), hf.1.trans hxd.1, hf.2.trans hxd.2⟩
  | none =>
   have hn := find_none.1 e2
   cases hc : coversB g d.1 d.2
   ·have st2 : st g k d = none := by unfold st; rw [e2]; simp [hc]
    rw [st1, st2]
    refine (st_val s3).2 ⟨(mm _).2 (.inr (.inl ⟨hx, ?_, fun y hy e => hn y hy ⟨e.1.symm.trans hxd.1, e.2.symm.trans hxd.2⟩⟩)), hxd⟩
    rw [nc_iff, hxd.1, hxd.2, hc]
    simp
   ·have st2 : st g k d = some none := by unfold st; rw [e2]; simp [hc]
    rw [st1, st2]
    have hz : (mergeA (nc g) (nc f) l k).find? (hit d) = none := by
     rw [find_none]
     intro z hz hzd
     rcases (mm z).1 hz with ⟨x', hx', y', hy', he, rfl⟩ | ⟨hzl, hp, -⟩ | ⟨hzk, -, -⟩
     ·have hf := first_dot he
      exact hn y' hy' ⟨he.1.symm.trans (hf.1.symm.trans hzd.1), he.2.symm.trans (hf.2.symm.trans hzd.2)⟩
     ·rw [nc_iff, hzd.1, hzd.2] at hp
      exact hp hc
     ·exact hn z hzk hzd
    have hcm : coversB (maxV f g) d.1 d.2 = true := cov_max.2 (.inr hc)
    unfold st
    rw [hz]
    simp [hcm, joinSt]
 | none =>
  have hn := find_none.1 e1
  cases e2 : k.find? (hit d) with
  | some y =>
   obtain ⟨hy, hyd⟩ := (find_some s2).1 e2
   rw [hit_iff] at hyd
   have st2 : st g k d = some (some y) := by unfold st; rw [e2]
   cases hc : coversB f d.1 d.2
   ·have st1 : st f l d = none := by unfold st; rw [e1]; simp [hc]
    rw [st1, st2]
    refine (st_val s3).2 ⟨(mm _).2 (.inr (.inr ⟨hy, ?_, fun x hx e => hn x hx ⟨e.1.trans hyd.1, e.2.trans hyd.2⟩⟩)), hyd⟩
    rw [nc_iff, hyd.1, hyd.2, hc]
    simp
   ·have st1 : st f l d = some none := by unfold st; rw [e1]; simp [hc]
    rw [st1, st2]
    have hz : (mergeA (nc g) (nc f) l k).find? (hit d) = none := by
     rw [find_none]
     intro z hz hzd
     rcases (mm z).1 hz with ⟨x', hx', y', hy', he, rfl⟩ | ⟨hzl, -, -⟩ | ⟨hzk, hp, -⟩
     ·have hf := first_dot he
      exact hn x' hx' ⟨hf.1.symm.trans hzd.1, hf.2.symm.trans hzd.2⟩
     ·exact hn z hzl hzd
     ·rw [nc_iff, hzd.1, hzd.2] at hp
      exact hp hc
    have hcm : coversB (maxV f g) d.1 d.2 = true := cov_max.2 (.inl hc)
    unfold st
    rw [hz]
    simp [hcm, joinSt]
  | none =>
   have hn2 := find_none.1 e2
   have hz : (mergeA (nc g) (nc f) l k).find? (hit d) = none := by
    rw [find_none]
    intro z hz hzd
    rcases inM_mem ((mm z).1 hz) with h | h
    ·exact hn z h hzd
    ·exact hn2 z h hzd
   unfold st
   rw [hz, e1, e2]
   cases c1 : coversB f d.1 d.2 <;> cases c2 : coversB g d.1 d.2
   ·have : coversB (maxV f g) d.1 d.2 = false := by rw [Bool.eq_false_iff, ne_eq, cov_max, c1, c2]; simp
    simp [this, joinSt]
   ·simp [cov_max.2 (.inr c2), joinSt]
   ·simp [cov_max.2 (.inl c1), joinSt]
   ·simp [cov_max.2 (.inl c1), joinSt]
def Of (d : Int × Int) : St → Prop
 | some (some x) => x.node = d.1 ∧ x.num = d.2
 | _ => True
theorem st_of {f : Nat → Int} {l : List A} (h : Srt l) (d : Int × Int) : Of d (st f l d) := by
 rcases e : st f l d with _ | _ | x
 ·trivial
 ·trivial
 ·exact ((st_val h).1 e).2
theorem of_eq {d : Int × Int} {x y : A} (h : Of d (some (some x))) (k : Of d (some (some y))) : EQ x y := ⟨h.1.trans k.1.symm, h.2.trans k.2.symm⟩
theorem join_comm {d : Int × Int} {a b : St} (ha : Of d a) (hb : Of d b) : joinSt a b = joinSt b a := by
 rcases a with _ | _ | x <;> rcases b with _ | _ | y <;> try rfl
 simp only [joinSt]
 rw [first_comm (of_eq ha hb)]
theorem join_idem (a : St) : joinSt a a = a := by
 rcases a with _ | _ | x <;> try rfl
 simp only [joinSt, first_self]
theorem first_assoc {x y z : A} (h : EQ x y) (k : EQ y z) : firstA (firstA x y) z = firstA x (firstA y z) := by
 have e1 := first_dot h
 have e2 := first_dot k
 have k1 : EQ (firstA x y) z := e1.trans (h.trans k)
 have k2 : EQ x (firstA y z) := h.trans e2.symm
 obtain ⟨a1, a2, a3, a4⟩ := first_min k1
 obtain ⟨b1, b2, b3, b4⟩ := first_min k2
 obtain ⟨c1, c2, c3, c4⟩ := first_min h
 obtain ⟨d1, d2, d3, d4⟩ := first_min k
 have p1 := bef_trans a2 c2
 have p2 := bef_trans a2 c3
 have q2 := bef_trans b3 d2
 have q3 := bef_trans b3 d3
 refine bef_anti (a1.trans (e1.trans b1.symm)) ?_ ?_
 ·rcases b4 with e | e
  ·rw [e]; exact p1
  ·rcases d4 with e' | e'
   ·rw [e, e']; exact p2
   ·rw [e, e']; exact a3
 ·rcases a4 with e | e
  ·rcases c4 with e' | e'
   ·rw [e, e']; exact b2
   ·rw [e, e']; exact q2
  ·rw [e]; exact q3
theorem join_assoc {d : Int × Int} {a b c : St} (ha : Of d a) (hb : Of d b) (hc : Of d c) : joinSt (joinSt a b) c = joinSt a (joinSt b c) := by
 rcases a with _ | _ | x <;> rcases b with _ | _ | y <;> rcases c with _ | _ | z <;> try rfl
 simp only [joinSt]
 rw [first_assoc (of_eq ha hb) (of_eq hb hc)]
theorem join_ok {f g : Nat → Int} {l k : List A} (h1 : MayP f l) (h2 : MayP g k) : MayP (joinV f g l k) (joinL f g l k) := by
 have e1 := may_yes h1
 have e2 := may_yes h2
 have a1 : joinV f g l k = maxV f g := by simp [joinV, e1, e2]
 have a2 : joinL f g l k = (mergeA (nc g) (nc f) l k).take 16 := by simp [joinL, e1, e2]
 rw [a1, a2]
 exact may_join h1 h2 _ _
section
variable {f g h : Nat → Int} {l k m : List A}
end
end Go.Proofs.Ytpnnpdfmoldiiaa
