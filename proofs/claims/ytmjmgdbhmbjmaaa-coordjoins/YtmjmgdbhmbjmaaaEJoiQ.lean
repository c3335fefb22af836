/- Items of several texts. -/
import Derived.Test.YtmjmgdbhmbjmaaaEInsP
namespace Go.Proofs.Ytmjmgdbhmbjmaaa
open Go.RowKit
structure Mk (N : Nat) (w : World) (a : Option Addr) (c : Nat) (l : List V) : Prop where
 own : OwnV w a c l
 lo : ∀ k, blk a = some k → N ≤ k
 val : ∀ v ∈ l, VOk w v ∧ ∀ k, blk v.ad = some k → N ≤ k ∧ k < w.heap.size ∧ blk a ≠ some k
theorem Mk.nil (N : Nat) (w : World) : Mk N w none 0 [] := ⟨OwnV.nil w, fun k hk => by simp [blk] at hk, fun v hv => by simp at hv⟩
theorem Mk.off {D : Nat → Prop} {N : Nat} {w w' : World} {a : Option Addr} {c : Nat} {l : List V} (h : Mk N w a c l) (o : Off D w w') (hD : ∀ k, N ≤ k → k < w.heap.size → ¬ D k) : Mk N w' a c l :=
 ⟨h.own.off o (fun k hk => hD k (h.lo k hk) (h.own.lt k hk)), h.lo, fun v hv => ⟨(h.val v hv).1.off o (fun k _ hk => hD k ((h.val v hv).2 k hk).1 ((h.val v hv).2 k hk).2.1), fun k hk => ⟨((h.val v hv).2 k hk).1, Nat.lt_of_lt_of_le ((h.val v hv).2 k hk).2.1 o.size, ((h.val v hv).2 k hk).2.2⟩⟩⟩
theorem Mk.free {N : Nat} {w w' : World} {a : Option Addr} {c : Nat} {l : List V} (h : Mk N w a c l) (o : Off (fun _ => False) w w') : Mk N w' a c l := h.off o (fun _ _ _ h => h)
theorem Mk.row {N : Nat} {w : World} {a : Option Addr} {c : Nat} {l : List V} (h : Mk N w a c l) : Row w a c l := h.own.toRow (fun v hv => (h.val v hv).1)
theorem Mk.ins {N : Nat} {w w' : World} {a a' : Option Addr} {c c' : Nat} {l : List V} {u : V} {m : Nat} (h : Mk N w a c l) (hN : N ≤ w.heap.size) (hu : VOk w u) (hk : ∀ k, blk u.ad = some k → N ≤ k ∧ k < w.heap.size)
  (own : OwnV w' a' c' (l.take m ++ u :: l.drop m)) (o : Off (fun _ => False) w w') (hat : ∀ k, blk a' = some k → w.heap.size ≤ k) : Mk N w' a' c' (l.take m ++ u :: l.drop m) := by
 refine ⟨own, fun k hk => Nat.le_trans hN (hat k hk), fun v hv => ?_⟩
 have far : ∀ k, k < w.heap.size → blk a' ≠ some k := fun k h1 e => by
  have := hat k e
  omega
 rw [ins_mem] at hv
 rcases hv with rfl | hv
 ·exact ⟨hu.off o (fun _ _ _ h => h), fun k h => ⟨(hk k h).1, Nat.lt_of_lt_of_le (hk k h).2 o.size, far k (hk k h).2⟩⟩
 ·have hx := h.val v hv
  exact ⟨hx.1.off o (fun _ _ _ h => h), fun k h => ⟨(hx.2 k h).1, Nat.lt_of_lt_of_le (hx.2 k h).2.1 o.size, far k (hx.2 k h).2.1⟩⟩
end Go.Proofs.Ytmjmgdbhmbjmaaa

namespace Go.Proofs.Ytmjmgdbhmbjmaaa
open Go.RowKit
def J0 (g : Nat → Int) (l2 : List A) (x z : A) : Prop := (∃ y ∈ l2, EQ x y ∧ z = firstA x y) ∨ (z = x ∧ nc g x = true ∧ ∀ y ∈ l2, ¬ EQ x y)
def J1 (g : Nat → Int) (l1 l2 : List A) (z : A) : Prop := ∃ x ∈ l1, J0 g l2 x z
def J2 (f : Nat → Int) (l1 l2 : List A) (z : A) : Prop := z ∈ l2 ∧ nc f z = true ∧ ∀ x ∈ l1, ¬ EQ x z
def St1 (g : Nat → Int) (l1 l2 : List A) (i : Nat) (m : List A) : Prop := Srt m ∧ ∀ z, z ∈ m ↔ J1 g (l1.take i) l2 z
def St2 (f g : Nat → Int) (l1 l2 : List A) (i : Nat) (m : List A) : Prop := Srt m ∧ ∀ z, z ∈ m ↔ J1 g l1 l2 z ∨ J2 f l1 (l2.take i) z
theorem j0_dot {g : Nat → Int} {l2 : List A} {x z : A} (h : J0 g l2 x z) : EQ z x := by
 rcases h with ⟨y, -, e, rfl⟩ | ⟨rfl, -⟩
 ·exact first_dot e
 ·exact EQ.refl _
theorem mem_take_succ {l : List A} {i : Nat} {x z : A} (hx : l[i]? = some x) : z ∈ l.take (i + 1) ↔ z ∈ l.take i ∨ z = x := by
 rw [List.take_add_one, hx, List.mem_append]
 simp
theorem take_lt {l : List A} (h : Srt l) {i : Nat} {x z : A} (hx : l[i]? = some x) (hz : z ∈ l.take i) : LT z x := by
 have h1 : Srt (l.take (i + 1)) := srt_take h _
 rw [List.take_add_one, hx] at h1
 unfold Srt at h1
 rw [List.pairwise_append] at h1
 exact h1.2.2 z hz x (by simp)
theorem j1_succ {g : Nat → Int} {l1 l2 : List A} {i : Nat} {x z : A} (hx : l1[i]? = some x) : J1 g (l1.take (i + 1)) l2 z ↔ J1 g (l1.take i) l2 z ∨ J0 g l2 x z := by
 unfold J1
 constructor
 ·rintro ⟨u, hu, hj⟩
  rcases (mem_take_succ hx).1 hu with h | rfl
  ·exact .inl ⟨u, h, hj⟩
  ·exact .inr hj
 ·rintro (⟨u, hu, hj⟩ | hj)
  ·exact ⟨u, (mem_take_succ hx).2 (.inl hu), hj⟩
  ·exact ⟨x, (mem_take_succ hx).2 (.inr rfl), hj⟩
theorem st1_zero (g : Nat → Int) (l1 l2 : List A) : St1 g l1 l2 0 [] := ⟨by simp [Srt], fun z => by simp [J1]⟩
theorem st1_skip {g : Nat → Int} {l1 l2 m : List A} {i : Nat} {x : A} (h : St1 g l1 l2 i m) (hx : l1[i]? = some x) (hn : ∀ y ∈ l2, ¬ EQ x y) (hc : nc g x = false) : St1 g l1 l2 (i + 1) m := by
 refine ⟨h.1, fun z => ?_⟩
 rw [h.2 z, j1_succ hx]
 constructor
 ·exact .inl
 ·rintro (h | ⟨y, hy, e, -⟩ | ⟨-, hp, -⟩)
  ·exact h
  ·exact absurd e (hn y hy)
  ·rw [hc] at hp
   cases hp
theorem st1_ins {g : Nat → Int} {l1 l2 m : List A} {i k : Nat} {x n : A} (h : St1 g l1 l2 i m) (hs : Srt l1) (hx : l1[i]? = some x) (hj : ∀ z, J0 g l2 x z ↔ z = n)
  (h1 : ∀ z ∈ m.take k, LT z n) (h2 : ∀ y, m[k]? = some y → ¬ LT y n) : St1 g l1 l2 (i + 1) (m.take k ++ n :: m.drop k) := by
 have hnx : EQ n x := j0_dot ((hj n).2 rfl)
 refine ⟨ins_srt h.1 h1 h2 (fun y hy e => ?_), fun z => ?_⟩
 ·obtain ⟨u, hu, hju⟩ := (h.2 y).1 hy
  have := take_lt hs hx hu
  exact this.ne ((j0_dot hju).symm.trans (e.trans hnx))
 ·rw [ins_mem, h.2 z, j1_succ hx, hj z]
  exact ⟨fun h => h.symm, fun h => h.symm⟩
theorem j0_found {g : Nat → Int} {l2 : List A} {x y : A} (hs : Srt l2) (hy : y ∈ l2) (e : EQ x y) (z : A) : J0 g l2 x z ↔ z = firstA x y := by
 unfold J0
 constructor
 ·rintro (⟨u, hu, e2, rfl⟩ | ⟨-, -, hn⟩)
  ·rw [srt_dot hs hu hy (e2.symm.trans e)]
  ·exact absurd e (hn y hy)
 ·rintro rfl
  exact .inl ⟨y, hy, e, rfl⟩
theorem j0_new {g : Nat → Int} {l2 : List A} {x : A} (hn : ∀ y ∈ l2, ¬ EQ x y) (hc : nc g x = true) (z : A) : J0 g l2 x z ↔ z = x := by
 unfold J0
 constructor
 ·rintro (⟨u, hu, e2, -⟩ | ⟨h, -, -⟩)
  ·exact absurd e2 (hn u hu)
  ·exact h
 ·rintro rfl
  exact .inr ⟨rfl, hc, hn⟩
theorem st2_zero {f g : Nat → Int} {l1 l2 m : List A} {n : Nat} (h : St1 g l1 l2 n m) (hn : n = l1.length) : St2 f g l1 l2 0 m := by
 subst hn
 refine ⟨h.1, fun z => ?_⟩
 rw [h.2 z, List.take_length]
 simp [J2]
theorem st2_skip {f g : Nat → Int} {l1 l2 m : List A} {i : Nat} {y : A} (h : St2 f g l1 l2 i m) (hy : l2[i]? = some y) (hn : (∃ x ∈ l1, EQ x y) ∨ nc f y = false) : St2 f g l1 l2 (i + 1) m := by
 refine ⟨h.1, fun z => ?_⟩
 rw [h.2 z]
 unfold J2
 rw [mem_take_succ hy]
 constructor
 ·rintro (h | ⟨h1, h2, h3⟩)
  ·exact .inl h
  ·exact .inr ⟨.inl h1, h2, h3⟩
 ·rintro (h | ⟨h1 | rfl, h2, h3⟩)
  ·exact .inl h
  ·exact .inr ⟨h1, h2, h3⟩
  ·rcases hn with ⟨x, hx, e⟩ | hn
   ·exact absurd e (h3 x hx)
   ·rw [hn] at h2
    cases h2
theorem st2_ins {f g : Nat → Int} {l1 l2 m : List A} {i k : Nat} {y : A} (h : St2 f g l1 l2 i m) (hs : Srt l2) (hy : l2[i]? = some y) (hn : ∀ x ∈ l1, ¬ EQ x y) (hc : nc f y = true)
  (h1 : ∀ z ∈ m.take k, LT z y) (h2 : ∀ u, m[k]? = some u → ¬ LT u y) : St2 f g l1 l2 (i + 1) (m.take k ++ y :: m.drop k) := by
 refine ⟨ins_srt h.1 h1 h2 (fun z hz e => ?_), fun z => ?_⟩
 ·rcases (h.2 z).1 hz with ⟨x, hx, hj⟩ | ⟨hz2, -, -⟩
  ·exact hn x hx ((j0_dot hj).symm.trans e)
  ·exact (take_lt hs hy hz2).ne e
 ·rw [ins_mem, h.2 z]
  unfold J2
  rw [mem_take_succ hy]
  constructor
  ·rintro (rfl | h | ⟨h1, h2, h3⟩)
   ·exact .inr ⟨.inr rfl, hc, hn⟩
   ·exact .inl h
   ·exact .inr ⟨.inl h1, h2, h3⟩
  ·rintro (h | ⟨h1 | rfl, h2, h3⟩)
   ·exact .inr (.inl h)
   ·exact .inr (.inr ⟨h1, h2, h3⟩)
   ·exact .inl rfl
theorem st2_done {f g : Nat → Int} {l1 l2 m : List A} {n : Nat} (h : St2 f g l1 l2 n m) (hn : n = l2.length) (hs1 : Srt l1) (hs2 : Srt l2) : m = mergeA (nc g) (nc f) l1 l2 := by
 subst hn
 refine srt_ext h.1 (srt_merge _ _ _ _ hs1 hs2) (fun z => ?_)
 rw [h.2 z, mem_merge _ _ _ _ hs1 hs2, List.take_length]
 unfold J1 J0 J2 InM
 constructor
 ·rintro (⟨x, hx, ⟨y, hy, e, h⟩ | ⟨rfl, hc, hn⟩⟩ | h)
  ·exact .inl ⟨x, hx, y, hy, e, h⟩
  ·exact .inr (.inl ⟨hx, hc, hn⟩)
  ·exact .inr (.inr h)
 ·rintro (⟨x, hx, y, hy, e, h⟩ | ⟨hx, hc, hn⟩ | h)
  ·exact .inl ⟨x, hx, .inl ⟨y, hy, e, h⟩⟩
  ·exact .inl ⟨z, hx, .inr ⟨rfl, hc, hn⟩⟩
  ·exact .inr h
theorem ins_cont {lo : List V} {k : Nat} {u : V} (hk1 : ∀ z ∈ lo.take k, lessB z.node z.num u.node u.num = true) (hk2 : ∀ y, lo[k]? = some y → lessB y.node y.num u.node u.num = false) :
  cont (lo.take k ++ u :: lo.drop k) = (cont lo).take k ++ u.abs :: (cont lo).drop k ∧ (∀ z ∈ (cont lo).take k, LT z u.abs) ∧ ∀ y, (cont lo)[k]? = some y → ¬ LT y u.abs := by
 refine ⟨by simp [cont, List.map_take, List.map_drop], fun z hz => ?_, fun y hy hlt => ?_⟩
 ·have : z ∈ cont (lo.take k) := by simpa [cont, List.map_take] using hz
  simp only [cont, List.mem_map] at this
  obtain ⟨z', hz', rfl⟩ := this
  exact less_iff.1 (hk1 z' hz')
 ·simp only [cont, List.getElem?_map, Option.map_eq_some_iff] at hy
  obtain ⟨y', hy', rfl⟩ := hy
  have := hk2 y' hy'
  have h2 := less_iff.2 hlt
  simp only [lessA, V.abs] at h2
  rw [this] at h2
  cases h2
theorem cont_get {l : List V} {i : Nat} {x : V} (h : l[i]? = some x) : (cont l)[i]? = some x.abs := by simp [cont, h]
theorem abs_none {l : List V} {x : V} (h : ∀ y ∈ l, ¬ (y.node = x.node ∧ y.num = x.num)) : ∀ y ∈ cont l, ¬ EQ y x.abs := by
 intro y hy e
 simp only [cont, List.mem_map] at hy
 obtain ⟨y', hy', rfl⟩ := hy
 exact h y' hy' e
end Go.Proofs.Ytmjmgdbhmbjmaaa
