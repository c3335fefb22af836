/- Items of several texts. -/
import Derived.Test.YtmjmgdbhmbjmaabAMrg
namespace Go.Proofs.Ytmjmgdbhmbjmaab
open Go.RowKit
theorem vec_ext {f g : Nat → Int} (h : ∀ j, j < 8 → f j = g j) (s : Value) : (.agg #[.int .i64 (f 0), .int .i64 (f 1), .int .i64 (f 2), .int .i64 (f 3), .int .i64 (f 4), .int .i64 (f 5), .int .i64 (f 6), .int .i64 (f 7), s] : Value) = .agg #[.int .i64 (g 0), .int .i64 (g 1), .int .i64 (g 2), .int .i64 (g 3), .int .i64 (g 4), .int .i64 (g 5), .int .i64 (g 6), .int .i64 (g 7), s] := by
 rw [h 0 (by decide), h 1 (by decide), h 2 (by decide), h 3 (by decide), h 4 (by decide), h 5 (by decide), h 6 (by decide), h 7 (by decide)]
theorem Cel.st9 {b : Nat} {t : TypeId} {f : Nat → Int} {s : Value} {w : World} (h : Cel b t #[.int .i64 (f 0), .int .i64 (f 1), .int .i64 (f 2), .int .i64 (f 3), .int .i64 (f 4), .int .i64 (f 5), .int .i64 (f 6), .int .i64 (f 7), s] w) (g : Nat → Int) (r : Value) : Cel b t #[.int .i64 (g 0), .int .i64 (g 1), .int .i64 (g 2), .int .i64 (g 3), .int .i64 (g 4), .int .i64 (g 5), .int .i64 (g 6), .int .i64 (g 7), r] (((((((((w.setCell ⟨b, 0, none⟩ (.int .i64 (g 0))).setCell ⟨b, 1, none⟩ (.int .i64 (g 1))).setCell ⟨b, 2, none⟩ (.int .i64 (g 2))).setCell ⟨b, 3, none⟩ (.int .i64 (g 3))).setCell ⟨b, 4, none⟩ (.int .i64 (g 4))).setCell ⟨b, 5, none⟩ (.int .i64 (g 5))).setCell ⟨b, 6, none⟩ (.int .i64 (g 6))).setCell ⟨b, 7, none⟩ (.int .i64 (g 7))).setCell ⟨b, 8, none⟩ r) := by
 replace h := h.set 0 (.int .i64 (g 0))
 simp only [List.setIfInBounds_toArray, List.set_cons_zero] at h
 replace h := h.set 1 (.int .i64 (g 1))
 simp only [lsA, lsZ, lsS] at h
 replace h := h.set 2 (.int .i64 (g 2))
 simp only [lsA, lsZ, lsS] at h
 replace h := h.set 3 (.int .i64 (g 3))
 simp only [lsA, lsZ, lsS] at h
 replace h := h.set 4 (.int .i64 (g 4))
 simp only [lsA, lsZ, lsS] at h
 replace h := h.set 5 (.int .i64 (g 5))
 simp only [lsA, lsZ, lsS] at h
 replace h := h.set 6 (.int .i64 (g 6))
 simp only [lsA, lsZ, lsS] at h
 replace h := h.set 7 (.int .i64 (g 7))
 simp only [lsA, lsZ, lsS] at h
 replace h := h.set 8 r
 simp only [lsA, lsZ, lsS] at h
 exact h
theorem Off.st9 {D : Nat → Prop} {a w : World} {b : Nat} (h : Off D a w) (hb : D b ∨ a.heap.size ≤ b) (g : Nat → Int) (r : Value) : Off D a (((((((((w.setCell ⟨b, 0, none⟩ (.int .i64 (g 0))).setCell ⟨b, 1, none⟩ (.int .i64 (g 1))).setCell ⟨b, 2, none⟩ (.int .i64 (g 2))).setCell ⟨b, 3, none⟩ (.int .i64 (g 3))).setCell ⟨b, 4, none⟩ (.int .i64 (g 4))).setCell ⟨b, 5, none⟩ (.int .i64 (g 5))).setCell ⟨b, 6, none⟩ (.int .i64 (g 6))).setCell ⟨b, 7, none⟩ (.int .i64 (g 7))).setCell ⟨b, 8, none⟩ r) :=
 ((((((((h.setCell hb _).setCell hb _).setCell hb _).setCell hb _).setCell hb _).setCell hb _).setCell hb _).setCell hb _).setCell hb _
theorem Cel.clr9 {b : Nat} {t : TypeId} {f : Nat → Int} {s : Value} {w : World} (h : Cel b t #[.int .i64 (f 0), .int .i64 (f 1), .int .i64 (f 2), .int .i64 (f 3), .int .i64 (f 4), .int .i64 (f 5), .int .i64 (f 6), .int .i64 (f 7), s] w) : Cel b t #[.int .i64 0, .int .i64 0, .int .i64 0, .int .i64 0, .int .i64 0, .int .i64 0, .int .i64 0, .int .i64 0, .slice none 0 0] (((((((((w.setCell ⟨b, 0, none⟩ (.int .i64 0)).setCell ⟨b, 1, none⟩ (.int .i64 0)).setCell ⟨b, 2, none⟩ (.int .i64 0)).setCell ⟨b, 3, none⟩ (.int .i64 0)).setCell ⟨b, 4, none⟩ (.int .i64 0)).setCell ⟨b, 5, none⟩ (.int .i64 0)).setCell ⟨b, 6, none⟩ (.int .i64 0)).setCell ⟨b, 7, none⟩ (.int .i64 0)).setCell ⟨b, 8, none⟩ (.slice none 0 0)) := by
 have := h.st9 zer (.slice none 0 0)
 simp only [zer] at this
 exact this
theorem Off.clr9 {D : Nat → Prop} {a w : World} {b : Nat} (h : Off D a w) (hb : D b ∨ a.heap.size ≤ b) : Off D a (((((((((w.setCell ⟨b, 0, none⟩ (.int .i64 0)).setCell ⟨b, 1, none⟩ (.int .i64 0)).setCell ⟨b, 2, none⟩ (.int .i64 0)).setCell ⟨b, 3, none⟩ (.int .i64 0)).setCell ⟨b, 4, none⟩ (.int .i64 0)).setCell ⟨b, 5, none⟩ (.int .i64 0)).setCell ⟨b, 6, none⟩ (.int .i64 0)).setCell ⟨b, 7, none⟩ (.int .i64 0)).setCell ⟨b, 8, none⟩ (.slice none 0 0)) :=
 ((((((((h.setCell hb _).setCell hb _).setCell hb _).setCell hb _).setCell hb _).setCell hb _).setCell hb _).setCell hb _).setCell hb _
theorem results_none9 {fn : Func} {p : Tmp} (h : fn.results = #[.cell p 30]) {tmps : Array Value} {w : World} {b : Nat} (hp : tmps.getD p undef = .pointer (some ⟨b, 0, none⟩)) (hc : Cel b 30 #[.int .i64 0, .int .i64 0, .int .i64 0, .int .i64 0, .int .i64 0, .int .i64 0, .int .i64 0, .int .i64 0, .slice none 0 0] w) :
  (results fn tmps).run Try.prog w = .ok (.agg #[.int .i64 0, .int .i64 0, .int .i64 0, .int .i64 0, .int .i64 0, .int .i64 0, .int .i64 0, .int .i64 0, .slice none 0 0]) w := by
 obtain ⟨d, hd⟩ : ∃ d, Try.prog.underlying 30 = some (.struct d) := ⟨_, Try.underlying30⟩
 exact results_cell_row h tmps w b 30 _ (0, 0) (.struct d) hp hc.is hd rfl (by kernel_rfl)
theorem results_sibs {fn : Func} {p : Tmp} (h : fn.results = #[.cell p 30]) {tmps : Array Value} {w : World} {b : Nat} {f : Nat → Int} {s : Value} (hp : tmps.getD p undef = .pointer (some ⟨b, 0, none⟩)) (hc : Cel b 30 #[.int .i64 (f 0), .int .i64 (f 1), .int .i64 (f 2), .int .i64 (f 3), .int .i64 (f 4), .int .i64 (f 5), .int .i64 (f 6), .int .i64 (f 7), s] w) :
  (results fn tmps).run Try.prog w = .ok (.agg #[.int .i64 (f 0), .int .i64 (f 1), .int .i64 (f 2), .int .i64 (f 3), .int .i64 (f 4), .int .i64 (f 5), .int .i64 (f 6), .int .i64 (f 7), s]) w := by
 obtain ⟨d, hd⟩ : ∃ d, Try.prog.underlying 30 = some (.struct d) := ⟨_, Try.underlying30⟩
 exact results_cell_row h tmps w b 30 _ (0, 0) (.struct d) hp hc.is hd rfl (by kernel_rfl)
structure Made (N : Nat) (w : World) (a : Option Addr) (cap : Nat) (l : List V) : Prop where
 row : Row w a cap l
 own : ∀ v ∈ l, OwnR w v.ad v.cap v.data ∧ ∀ k, blk v.ad = some k → N ≤ k ∧ blk a ≠ some k
 lo : ∀ k, blk a = some k → N ≤ k
theorem Made.off {N : Nat} {w w' : World} {a : Option Addr} {cap : Nat} {l : List V} (h : Made N w a cap l) (o : Off (fun _ => False) w w') : Made N w' a cap l :=
 ⟨h.row.off o, fun v hv => ⟨(h.own v hv).1.off o (fun _ _ _ h => h), (h.own v hv).2⟩, h.lo⟩
theorem Made.offN {D : Nat → Prop} {N : Nat} {w w' : World} {a : Option Addr} {cap : Nat} {l : List V} (h : Made N w a cap l) (o : Off D w w') (hD : ∀ k, N ≤ k → ¬ D k) : Made N w' a cap l :=
 ⟨h.row.offD o (fun c _ hc => hD c (h.lo c hc)) (fun v hv c _ hc => hD c ((h.own v hv).2 c hc).1), fun v hv => ⟨(h.own v hv).1.off o (fun c _ hc => hD c ((h.own v hv).2 c hc).1), (h.own v hv).2⟩, h.lo⟩
theorem Made.nil (N : Nat) (w : World) : Made N w none 0 [] := ⟨Row.nil w none 0 (by omega), fun v hv => by simp at hv, fun k hk => by simp [blk] at hk⟩
theorem Made.mono {N M : Nat} {w : World} {a : Option Addr} {cap : Nat} {l : List V} (h : Made N w a cap l) (hM : M ≤ N) : Made M w a cap l :=
 ⟨h.row, fun v hv => ⟨(h.own v hv).1, fun k hk => ⟨Nat.le_trans hM ((h.own v hv).2 k hk).1, ((h.own v hv).2 k hk).2⟩⟩, fun k hk => Nat.le_trans hM (h.lo k hk)⟩
theorem OwnV.made {N : Nat} {w : World} {a : Option Addr} {cap : Nat} {l : List V} (h : OwnV w a cap l) (hv : ∀ v ∈ l, VOk w v ∧ OwnR w v.ad v.cap v.data ∧ ∀ k, blk v.ad = some k → N ≤ k ∧ blk a ≠ some k) (ha : ∀ k, blk a = some k → N ≤ k) : Made N w a cap l :=
 ⟨h.toRow (fun v hx => (hv v hx).1), fun v hx => (hv v hx).2, ha⟩
theorem Made.take {N : Nat} {w : World} {a : Option Addr} {cap : Nat} {l : List V} (h : Made N w a cap l) (m : Nat) (hm : m ≤ l.length) :
  (∀ W, (Instr.slice 28 (.slice a l.length cap) none (some (.int .i64 (m : Int))) none).run Try.prog W = .ok (.slice a (l.take m).length cap) W) ∧ Made N w a cap (l.take m) := by
 have hc := h.row.len
 have hb := h.row.bound
 refine ⟨fun W => ?_, ⟨⟨by simp; omega, hb, fun i v hi => ?_⟩, fun v hv => h.own v (List.mem_of_mem_take hv), h.lo⟩⟩
 ·rw [run_slice_h (P := Try.prog) (t := 28) (ht := by kernel_rfl) (h0 := by omega) (h2 := by omega)]
  have hs : (sizeOf (Try.prog.elem 28)).run Try.prog W = .ok 4 W := by
   have : Try.prog.elem 28 = 56 := by kernel_rfl
   rw [this]
   obtain ⟨i0, hi, hz0, hz1, hz2⟩ := info_parts Try.infoV
   simp [sizeOf, typeInfo, hi, hz1]
  rw [hs]
  have e : (l.take m).length = m := by simp; omega
  rw [e]
  cases l with
  | nil =>
   obtain rfl : m = 0 := by simpa using hm
   simp [Result.andThen, sliced]
   cases a <;> simp [Addr.add]
  | cons v l' =>
   obtain ⟨b, o, rfl, -⟩ := h.row.at_ 0 v rfl
   simp [Result.andThen, sliced, Addr.add]
 ·refine h.row.at_ i v ?_
  rw [List.getElem?_take] at hi
  split at hi
  ·exact hi
  ·simp at hi
def maxV (f g : Nat → Int) : Nat → Int := fun j => max (f j) (g j)
def joinV (f g : Nat → Int) (l1 l2 : List A) : Nat → Int := if mayS f l1 = true ∧ mayS g l2 = true then maxV f g else zer
def joinL (f g : Nat → Int) (l1 l2 : List A) : List A := if mayS f l1 = true ∧ mayS g l2 = true then (mergeA (nc g) (nc f) l1 l2).take 16 else []
end Go.Proofs.Ytmjmgdbhmbjmaab
