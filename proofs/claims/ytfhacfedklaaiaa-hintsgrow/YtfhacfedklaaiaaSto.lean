/- A hint's Sibs written over in a row of one's own. -/
import Derived.Test.YtfhacfedklaaiaaDel
namespace Go.Proofs.Ytfhacfedklaaiaa
open Go.RowKit

/-- Values written one behind the other. -/
def wrs (g : Nat) : Nat → List Value → World → World
  | _, [], w => w
  | o, u :: us, w => wrs g (o + 1) us (w.setCell ⟨g, o, none⟩ u)
theorem off_wrs {D : Nat → Prop} {a : World} {g : Nat} : ∀ {us : List Value} {o : Nat} {w : World}, Off D a w → (D g ∨ a.heap.size ≤ g) → Off D a (wrs g o us w)
  | [], _, _, h, _ => h
  | u :: us, o, w, h, hg => by
    unfold wrs
    exact off_wrs (h.setCell (p := ⟨g, o, none⟩) hg u) hg
def sets : List Value → Nat → List Value → List Value
  | l, _, [] => l
  | l, o, v :: vs => sets (l.set o v) (o + 1) vs
theorem Cel.sets {g : Nat} {t : TypeId} : ∀ {vs : List Value} {o : Nat} {cur : Array Value} {w : World}, Cel g t cur w → Cel g t (sets cur.toList o vs).toArray (wrs g o vs w)
  | [], _, cur, w, h => by simpa [Ytfhacfedklaaiaa.sets, wrs] using h
  | v :: vs, o, cur, w, h => by
    have := Cel.sets (vs := vs) (o := o + 1) (h.set o v)
    rw [Array.toList_setIfInBounds] at this
    exact this
theorem sets_eq : ∀ (vs : List Value) (l : List Value) (o : Nat), o + vs.length ≤ l.length → sets l o vs = spl l o vs
  | [], l, o, _ => by simp [sets, spl]
  | v :: vs, l, o, h => by
    rw [List.length_cons] at h
    unfold sets
    rw [sets_eq vs (l.set o v) (o + 1) (by rw [List.length_set]; omega)]
    unfold spl
    rw [list_seg_step l o v vs (by omega), List.length_cons]
theorem spl_take {l : List Value} {o n : Nat} {cs : List Value} (h : o + cs.length ≤ n) (hn : n ≤ l.length) : (spl l o cs).take n = spl (l.take n) o cs := by
  rw [spl_up (by omega) h]
  unfold spl
  rw [List.take_take, Nat.min_eq_left (by omega), List.drop_take]
/-- The nine cells of Sibs. -/
def sib9 (f : Nat → Int) (s : Value) : List Value := [.int .i64 (f 0), .int .i64 (f 1), .int .i64 (f 2), .int .i64 (f 3), .int .i64 (f 4), .int .i64 (f 5), .int .i64 (f 6), .int .i64 (f 7), s]
theorem flat_set {xs : List H} {n : Nat} {x y : H} (hx : xs[n]? = some x) (h1 : y.node = x.node) (h2 : y.e.key = x.e.key) : (xs.set n y).flatMap hcs = spl (xs.flatMap hcs) (n * 11 + 2) (sib9 y.e.f (.slice y.e.a y.e.l.length y.e.cap)) := by
  induction xs generalizing n with
  | nil => simp at hx
  | cons z xs ih =>
    cases n with
    | zero =>
      simp at hx
      subst hx
      simp only [List.set_cons_zero, List.flatMap_cons]
      simp [spl, hcs, sib9, h1, h2]
    | succ n =>
      have := ih (n := n) (by simpa using hx)
      simp only [List.set_cons_succ, List.flatMap_cons]
      rw [this]
      unfold spl
      rw [show (n + 1) * 11 + 2 = (hcs z).length + (n * 11 + 2) by rw [hcs_len]; omega, List.take_append, List.take_of_length_le (l := hcs z) (by omega), Nat.add_sub_cancel_left, List.drop_append, List.drop_of_length_le (l := hcs z) (by omega), List.nil_append, show ∀ a b c : Nat, a + b + c - a = b + c from fun a b c => by omega]
      simp only [List.append_assoc]
theorem OwnG.setS {w : World} {g cap : Nat} {xs : List H} (own : OwnG 39 11 hcs w (some ⟨g, 0, none⟩) cap xs) {n : Nat} {x y : H} (hx : xs[n]? = some x) (h1 : y.node = x.node) (h2 : y.e.key = x.e.key) :
    OwnG 39 11 hcs (wrs g (n * 11 + 2) (sib9 y.e.f (.slice y.e.a y.e.l.length y.e.cap)) w) (some ⟨g, 0, none⟩) cap (xs.set n y) := by
  obtain ⟨g', cur, eg, hc, hl, hm, hs, ht⟩ := own.cel (by simp)
  simp only [Option.some.injEq, Addr.mk.injEq, and_true] at eg
  subst eg
  obtain ⟨hlt, -⟩ := List.getElem?_eq_some_iff.1 hx
  have hcl : cur.toList.length = cap * 11 := by rw [Array.length_toList]; exact hs
  have h9 : (sib9 y.e.f (.slice y.e.a y.e.l.length y.e.cap)).length = 9 := rfl
  have hC := hc.sets (vs := sib9 y.e.f (.slice y.e.a y.e.l.length y.e.cap)) (o := n * 11 + 2)
  rw [sets_eq _ _ _ (by omega)] at hC
  refine own_of hcs_len hC (by rw [List.length_set]; exact hl) hm ?_ ?_
  · rw [List.size_toArray, spl_len (by omega), hcl]
  · rw [List.length_set, List.toList_toArray, spl_take (by omega) (by omega), ht, flat_set hx h1 h2]
end Go.Proofs.Ytfhacfedklaaiaa
