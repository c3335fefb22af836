/- Items of several texts. -/
import Derived.Lib.Bytealg
import Derived.Lib.BytesEntry
import Derived.Laws.Externs
import Derived.Deep.RegionWith
import Derived.Deep.Cut
import Derived.Test.YtmbphlkohlggfaaDMay
namespace Go.Proofs.Ytmbphlkohlggfaa
open Go.RowKit
theorem results_val {fn : Func} {p : Tmp} (h : fn.results = #[.cell p 44]) {tmps : Array Value} {w : World} {b : Nat} {v : V} (hp : tmps.getD p undef = .pointer (some ⟨b, 0, none⟩)) (hc : Cel b 44 #[.int .i64 v.node, .int .i64 v.num, .slice v.ad v.data.length v.cap, .bool v.dead] w) :
  (results fn tmps).run Try.prog w = .ok (.agg #[.int .i64 v.node, .int .i64 v.num, .slice v.ad v.data.length v.cap, .bool v.dead]) w := by
 obtain ⟨d, hd⟩ : ∃ d, Try.prog.underlying 44 = some (.struct d) := ⟨_, Try.underlying44⟩
 exact results_cell_row h tmps w b 44 _ (0, 0) (.struct d) hp hc.is hd rfl (by kernel_rfl)
theorem Cel.st4 {b : Nat} {t : TypeId} {v : V} {w : World} (h : Cel b t #[.int .i64 v.node, .int .i64 v.num, .slice v.ad v.data.length v.cap, .bool v.dead] w) (u : V) : Cel b t #[.int .i64 u.node, .int .i64 u.num, .slice u.ad u.data.length u.cap, .bool u.dead] ((((w.setCell ⟨b, 0, none⟩ (.int .i64 u.node)).setCell ⟨b, 1, none⟩ (.int .i64 u.num)).setCell ⟨b, 2, none⟩ (.slice u.ad u.data.length u.cap)).setCell ⟨b, 3, none⟩ (.bool u.dead)) := by
 replace h := h.set 0 (.int .i64 u.node)
 simp only [List.setIfInBounds_toArray, List.set_cons_zero] at h
 replace h := h.set 1 (.int .i64 u.num)
 simp only [lsA, lsZ, lsS] at h
 replace h := h.set 2 (.slice u.ad u.data.length u.cap)
 simp only [lsA, lsZ, lsS] at h
 replace h := h.set 3 (.bool u.dead)
 simp only [lsA, lsZ, lsS] at h
 exact h
theorem Off.st4 {D : Nat → Prop} {a w : World} {b : Nat} (h : Off D a w) (hb : D b ∨ a.heap.size ≤ b) (u : V) : Off D a ((((w.setCell ⟨b, 0, none⟩ (.int .i64 u.node)).setCell ⟨b, 1, none⟩ (.int .i64 u.num)).setCell ⟨b, 2, none⟩ (.slice u.ad u.data.length u.cap)).setCell ⟨b, 3, none⟩ (.bool u.dead)) :=
 (((h.setCell hb _).setCell hb _).setCell hb _).setCell hb _
def zeroV : V := ⟨0, 0, none, 0, [], false⟩
end Go.Proofs.Ytmbphlkohlggfaa

namespace Go.Proofs.Ytmbphlkohlggfaa
open Go.RowKit
def vcs : List V → List Value
 | [] => []
 | v :: l => .int .i64 v.node :: .int .i64 v.num :: .slice v.ad v.data.length v.cap :: .bool v.dead :: vcs l
theorem vcs_append (a b : List V) : vcs (a ++ b) = vcs a ++ vcs b := by
 induction a with
 | nil => rfl
 | cons v l ih => simp [vcs, ih]
theorem vcs_len (l : List V) : (vcs l).length = l.length * 4 := by
 induction l with
 | nil => rfl
 | cons v l ih => simp [vcs, ih]; omega
theorem vcs_get {l : List V} {i : Nat} {v : V} (h : l[i]? = some v) : (vcs l)[i * 4]? = some (.int .i64 v.node) ∧ (vcs l)[i * 4 + 1]? = some (.int .i64 v.num) ∧ (vcs l)[i * 4 + 2]? = some (.slice v.ad v.data.length v.cap) ∧ (vcs l)[i * 4 + 3]? = some (.bool v.dead) := by
 induction l generalizing i with
 | nil => simp at h
 | cons u l ih =>
  cases i with
  | zero => simp at h; subst h; simp [vcs]
  | succ i =>
   have := ih (i := i) (by simpa using h)
   simpa [vcs, Nat.succ_mul, Nat.add_right_comm] using this
structure OwnV (w : World) (a : Option Addr) (cap : Nat) (l : List V) : Prop where
 row : w.ownsRow 0 44 4 (.slice a l.length cap) l.length (vcs l)
theorem OwnV.off {D : Nat → Prop} {w w' : World} {a : Option Addr} {cap : Nat} {l : List V} (h : OwnV w a cap l) (k : Off D w w') (hD : ∀ c, blk a = some c → ¬ D c) : OwnV w' a cap l := by
 refine ⟨h.row.1, ?_⟩
 rcases h.row.2 with h2 | ⟨g, c, cur, hv, hg, hh, r⟩
 ·exact .inl h2
 ·have hlt := lt_of_block hh
  simp only [Value.slice.injEq] at hv
  obtain ⟨rfl, -, rfl⟩ := hv
  exact .inr ⟨g, _, cur, rfl, hg, (k.block g hlt (hD g rfl)).trans hh, r⟩
theorem OwnV.nil (w : World) : OwnV w none 0 [] := ⟨World.ownsRow_nil w 0 _ 4⟩
theorem OwnV.lt {w : World} {a : Option Addr} {cap : Nat} {l : List V} (h : OwnV w a cap l) : ∀ c, blk a = some c → c < w.heap.size := fun c hc =>
 (World.ownsRow.lt h.row c (by rw [blk_own]; exact hc)).2
theorem OwnV.toRow {w : World} {a : Option Addr} {cap : Nat} {l : List V} (h : OwnV w a cap l) (hk : ∀ v ∈ l, VOk w v) : Row w a cap l := by
 rcases h.row.2 with ⟨hv, h0⟩ | ⟨g, c, cur, hv, hb, hh, hc, hm, -⟩
 ·simp only [Value.slice.injEq] at hv
  obtain rfl : l = [] := List.eq_nil_of_length_eq_zero h0
  exact ⟨by simp, by omega, fun i v h => by simp at h⟩
 ·simp only [Value.slice.injEq] at hv
  obtain ⟨rfl, -, rfl⟩ := hv
  refine ⟨hc, by unfold maxLen at hm; omega, fun i v hi => ⟨g, 0, rfl, ?_, hk v (List.mem_of_getElem? hi)⟩⟩
  have hx := World.ownsRow.cells h.row (g := g) rfl
  obtain ⟨g0, g1, g2, g3⟩ := vcs_get hi
  have k0 := hx _ _ g0
  have k1 := hx _ _ g1
  have k2 := hx _ _ g2
  have k3 := hx _ _ g3
  rw [add_lit] at k0 k1 k2 k3
  exact ⟨k0, k1, k2, k3⟩
theorem wp_append_if {P : Program} {o : Oper} {a : Act} {w w' : World} {K : Act → World → Prop} {Q : Exit → Act → World → Prop} {y : Nat → Option Bool} {E : Prop} (hw : Region.wanted o y = true) (s x : Operand) {t u : TypeId}
  (ho : o.op = .call { callee := .builtin .append, args := #[s, x], argTypes := #[t, u] }) {v v' X : Value} (hs : a.eval s = v) (hx : a.eval x = X) (hr : (Builtin.append_ #[t, u] o.type #[v, X]).run P w = .ok v' w')
  (d : Nat) (hd : o.dst = some d) (h : K (a.put (some d) v') w') : if Region.wanted o y = true then Oper.wp P o a w K Q else E := by
 rw [if_pos hw]
 unfold Oper.wp execOp
 simp only [ho, resolve, invoke, builtin, Sem.run_bind, Sem.run_pure, Result.andThen_ok, List.map_toArray, List.map_cons, List.map_nil, hs, hx, hr]
 rw [← hd] at h
 exact h
end Go.Proofs.Ytmbphlkohlggfaa

namespace Go.Proofs.Ytmbphlkohlggfaa
open Go.RowKit
theorem Cel.st9 {b : Nat} {t : TypeId} {f : Nat → Int} {s : Value} {w : World} (h : Cel b t #[.int .i64 (f 0), .int .i64 (f 1), .int .i64 (f 2), .int .i64 (f 3), .int .i64 (f 4), .int .i64 (f 5), .int .i64 (f 6), .int .i64 (f 7), s] w) (g : Nat → Int) (r : Value) : Cel b t #[.int .i64 (g 0), .int .i64 (g 1), .int .i64 (g 2), .int .i64 (g 3), .int .i64 (g 4), .int .i64 (g 5), .int .i64 (g 6), .int .i64 (g 7), r] (((((((((w.setCell ⟨b, 0, none⟩ (.int .i64 (g 0))).setCell ⟨b, 1, none⟩ (.int .i64 (g 1))).setCell ⟨b, 2, none⟩ (.int .i64 (g 2))).setCell ⟨b, 3, none⟩ (.int .i64 (g 3))).setCell ⟨b, 4, none⟩ (.int .i64 (g 4))).setCell ⟨b, 5, none⟩ (.int .i64 (g 5))).setCell ⟨b, 6, none⟩ (.int .i64 (g 6))).setCell ⟨b, 7, none⟩ (.int .i64 (g 7))).setCell ⟨b, 8, none⟩ r) := by
 replace h := h.set 0 (.int .i64 (g 0))
 simp only [List.setIfInBounds_toArray, List.set_cons_zero] at h
 replace h := h.set 1 (.int .i64 (g 1))
 simp only [lsA, lsZ, lsS] at h
 replace h := h.set 2 (.int .i64 (g 2))
 simp only [lsA, lsZ, lsS] at h
 replace h := h.set 3 (.int .i64 (g 3))
 simp only [lsA, lsZ, lsS] at h
 replace h := h.set 4 (.int .i64 (g 4))
 simp only [lsA, lsZ, lsS] at h
 replace h := h.set 5 (.int .i64 (g 5))
 simp only [lsA, lsZ, lsS] at h
 replace h := h.set 6 (.int .i64 (g 6))
 simp only [lsA, lsZ, lsS] at h
 replace h := h.set 7 (.int .i64 (g 7))
 simp only [lsA, lsZ, lsS] at h
 replace h := h.set 8 r
 simp only [lsA, lsZ, lsS] at h
 exact h
theorem Off.st9 {D : Nat → Prop} {a w : World} {b : Nat} (h : Off D a w) (hb : D b ∨ a.heap.size ≤ b) (g : Nat → Int) (r : Value) : Off D a (((((((((w.setCell ⟨b, 0, none⟩ (.int .i64 (g 0))).setCell ⟨b, 1, none⟩ (.int .i64 (g 1))).setCell ⟨b, 2, none⟩ (.int .i64 (g 2))).setCell ⟨b, 3, none⟩ (.int .i64 (g 3))).setCell ⟨b, 4, none⟩ (.int .i64 (g 4))).setCell ⟨b, 5, none⟩ (.int .i64 (g 5))).setCell ⟨b, 6, none⟩ (.int .i64 (g 6))).setCell ⟨b, 7, none⟩ (.int .i64 (g 7))).setCell ⟨b, 8, none⟩ r) :=
 ((((((((h.setCell hb _).setCell hb _).setCell hb _).setCell hb _).setCell hb _).setCell hb _).setCell hb _).setCell hb _).setCell hb _
theorem Cel.clr9 {b : Nat} {t : TypeId} {f : Nat → Int} {s : Value} {w : World} (h : Cel b t #[.int .i64 (f 0), .int .i64 (f 1), .int .i64 (f 2), .int .i64 (f 3), .int .i64 (f 4), .int .i64 (f 5), .int .i64 (f 6), .int .i64 (f 7), s] w) : Cel b t #[.int .i64 0, .int .i64 0, .int .i64 0, .int .i64 0, .int .i64 0, .int .i64 0, .int .i64 0, .int .i64 0, .slice none 0 0] (((((((((w.setCell ⟨b, 0, none⟩ (.int .i64 0)).setCell ⟨b, 1, none⟩ (.int .i64 0)).setCell ⟨b, 2, none⟩ (.int .i64 0)).setCell ⟨b, 3, none⟩ (.int .i64 0)).setCell ⟨b, 4, none⟩ (.int .i64 0)).setCell ⟨b, 5, none⟩ (.int .i64 0)).setCell ⟨b, 6, none⟩ (.int .i64 0)).setCell ⟨b, 7, none⟩ (.int .i64 0)).setCell ⟨b, 8, none⟩ (.slice none 0 0)) := by
 have := h.st9 zer (.slice none 0 0)
 simp only [zer] at this
 exact this
theorem Off.clr9 {D : Nat → Prop} {a w : World} {b : Nat} (h : Off D a w) (hb : D b ∨ a.heap.size ≤ b) : Off D a (((((((((w.setCell ⟨b, 0, none⟩ (.int .i64 0)).setCell ⟨b, 1, none⟩ (.int .i64 0)).setCell ⟨b, 2, none⟩ (.int .i64 0)).setCell ⟨b, 3, none⟩ (.int .i64 0)).setCell ⟨b, 4, none⟩ (.int .i64 0)).setCell ⟨b, 5, none⟩ (.int .i64 0)).setCell ⟨b, 6, none⟩ (.int .i64 0)).setCell ⟨b, 7, none⟩ (.int .i64 0)).setCell ⟨b, 8, none⟩ (.slice none 0 0)) :=
 ((((((((h.setCell hb _).setCell hb _).setCell hb _).setCell hb _).setCell hb _).setCell hb _).setCell hb _).setCell hb _).setCell hb _
end Go.Proofs.Ytmbphlkohlggfaa

namespace Go.Proofs.Ytmbphlkohlggfaa
open Go.RowKit
theorem results_err9 {fn : Func} {p u : Tmp} (h : fn.results = #[.cell p 40, .tmp u]) {tmps : Array Value} {w : World} {b : Nat} (hp : tmps.getD p undef = .pointer (some ⟨b, 0, none⟩)) {v : Value} (hu : tmps.getD u undef = v) (hc : Cel b 40 #[.int .i64 0, .int .i64 0, .int .i64 0, .int .i64 0, .int .i64 0, .int .i64 0, .int .i64 0, .int .i64 0, .slice none 0 0] w) :
  (results fn tmps).run Try.prog w = .ok (.tuple #[.agg #[.int .i64 0, .int .i64 0, .int .i64 0, .int .i64 0, .int .i64 0, .int .i64 0, .int .i64 0, .int .i64 0, .slice none 0 0], v]) w := by
 rw [results_cell_tmp h]
 have ha : (asAddr (.pointer (some ⟨b, 0, none⟩))).run Try.prog w = .ok ⟨b, 0, none⟩ w := rfl
 rw [hp, hu, ha]
 obtain ⟨d, hd⟩ : ∃ d, Try.prog.underlying 40 = some (.struct d) := ⟨_, Try.underlying40⟩
 have hv := run_loadVar_row (P := Try.prog) w b 40 40 _ (0, 0) (.struct d) hc.is hd rfl (by kernel_rfl)
 simp only [Result.andThen, hv]
theorem results_sibs2 {fn : Func} {p u : Tmp} (h : fn.results = #[.cell p 40, .tmp u]) {tmps : Array Value} {w : World} {b : Nat} {f : Nat → Int} {s : Value} (hp : tmps.getD p undef = .pointer (some ⟨b, 0, none⟩)) {v : Value} (hu : tmps.getD u undef = v) (hc : Cel b 40 #[.int .i64 (f 0), .int .i64 (f 1), .int .i64 (f 2), .int .i64 (f 3), .int .i64 (f 4), .int .i64 (f 5), .int .i64 (f 6), .int .i64 (f 7), s] w) :
  (results fn tmps).run Try.prog w = .ok (.tuple #[.agg #[.int .i64 (f 0), .int .i64 (f 1), .int .i64 (f 2), .int .i64 (f 3), .int .i64 (f 4), .int .i64 (f 5), .int .i64 (f 6), .int .i64 (f 7), s], v]) w := by
 rw [results_cell_tmp h]
 have ha : (asAddr (.pointer (some ⟨b, 0, none⟩))).run Try.prog w = .ok ⟨b, 0, none⟩ w := rfl
 rw [hp, hu, ha]
 obtain ⟨d, hd⟩ : ∃ d, Try.prog.underlying 40 = some (.struct d) := ⟨_, Try.underlying40⟩
 have hv := run_loadVar_row (P := Try.prog) w b 40 40 _ (0, 0) (.struct d) hc.is hd rfl (by kernel_rfl)
 simp only [Result.andThen, hv]
theorem cel2 {b : Nat} {t : TypeId} {x y : Value} {w : World} (h : Cel b t #[x, y] w) : w.cell? ⟨b, 0, none⟩ = some x ∧ w.cell? ⟨b, 1, none⟩ = some y := ⟨h.cell 0, h.cell 1⟩
theorem row_one {b : Nat} {v : V} {w : World} (h : Cel b 44 #[.int .i64 v.node, .int .i64 v.num, .slice v.ad v.data.length v.cap, .bool v.dead] w) (hv : VOk w v) : Row w (some ⟨b, 0, none⟩) 1 [v] := by
 refine ⟨by simp, by omega, fun i u hi => ?_⟩
 match i, hi with
 | 0, hi =>
  simp at hi
  subst hi
  obtain ⟨x0, x1, x2, x3⟩ := cel4 h
  exact ⟨b, 0, rfl, ⟨x0, x1, x2, x3⟩, hv⟩
end Go.Proofs.Ytmbphlkohlggfaa
