/- Items of several texts. -/
import Derived.Deep.RegionHeld
import Derived.Deep.Cut
import Derived.Deep.CutBlock
import Derived.BigQuiet
import Derived.Laws.CopyRow
import Derived.Laws.LoneSync
import Derived.Lib.AppendZerosOnto
import Derived.Lib.Overlaps
import Derived.Test.YtmbphlkohlggfaaGreatALiv
import Derived.Test.YtmbphlkohlggfaaGreatAInsP
namespace Go.Proofs.YtmbphlkohlggfaaGreat
open Go.RowKit
structure Mg where
 k : Int
 fr : Int
 tn : Int
 op : Int
 fo : Int
 key : ByteArray
 bk : Int
 ea : Option Addr
 el : Nat
 ec : Nat
 da : Option Addr
 dl : Nat
 dc : Nat
 ma : Option Addr
 ml : Nat
 mc : Nat
end Go.Proofs.YtmbphlkohlggfaaGreat

namespace Go.Proofs.YtmbphlkohlggfaaGreat
open Go.RowKit
def spl (l : List Value) (o : Nat) (cs : List Value) : List Value := l.take o ++ cs ++ l.drop (o + cs.length)
end Go.Proofs.YtmbphlkohlggfaaGreat

namespace Go.Proofs.YtmbphlkohlggfaaGreat
set_option maxRecDepth 100000
open Go.RowKit
def wrw (g : Nat) : Nat → List Value → World → World
 | _, [], w => w
 | o, u :: us, w => wrw g (o + 1) us (w.setCell ⟨g, o, none⟩ u)
theorem off_wrw {D : Nat → Prop} {a : World} {g : Nat} : ∀ {us : List Value} {o : Nat} {w : World}, Off D a w → (D g ∨ a.heap.size ≤ g) → Off D a (wrw g o us w)
 | [], _, _, h, _ => h
 | u :: us, o, w, h, hg => by
  unfold wrw
  exact off_wrw (h.setCell (p := ⟨g, o, none⟩) hg u) hg
def setw : List Value → Nat → List Value → List Value
 | l, _, [] => l
 | l, o, v :: vs => setw (l.set o v) (o + 1) vs
theorem Cel.setw {g : Nat} {t : TypeId} : ∀ {vs : List Value} {o : Nat} {cur : Array Value} {w : World}, Cel g t cur w → Cel g t (setw cur.toList o vs).toArray (wrw g o vs w)
 | [], _, cur, w, h => by simpa [YtmbphlkohlggfaaGreat.setw, wrw] using h
 | v :: vs, o, cur, w, h => by
  have := Cel.setw (vs := vs) (o := o + 1) (h.set o v)
  rw [Array.toList_setIfInBounds] at this
  exact this
theorem setw_eq : ∀ (vs : List Value) (l : List Value) (o : Nat), o + vs.length ≤ l.length → setw l o vs = spl l o vs
 | [], l, o, _ => by simp [setw, spl]
 | v :: vs, l, o, h => by
  rw [List.length_cons] at h
  unfold setw
  rw [setw_eq vs (l.set o v) (o + 1) (by rw [List.length_set]; omega)]
  unfold spl
  rw [list_seg_step l o v vs (by omega), List.length_cons]
theorem Cel.wrwAll {g : Nat} {t : TypeId} {vs : List Value} {cur : Array Value} {w : World} (h : Cel g t cur w) (hl : vs.length = cur.size) : Cel g t vs.toArray (wrw g 0 vs w) := by
 have := h.setw (vs := vs) (o := 0)
 have hc : cur.toList.length = vs.length := by rw [Array.length_toList]; exact hl.symm
 rw [setw_eq _ _ _ (by rw [hc]; omega)] at this
 unfold spl at this
 rw [List.take_zero, List.nil_append, List.drop_of_length_le (by rw [hc]; omega), List.append_nil] at this
 exact this
end Go.Proofs.YtmbphlkohlggfaaGreat

namespace Go.Proofs.YtmbphlkohlggfaaGreat
set_option maxRecDepth 100000
open Go.RowKit
theorem celw10 {b : Nat} {t : TypeId} {s0 s1 s2 s3 s4 s5 s6 s7 s8 s9 : Value} {w : World} (h : Cel b t #[s0, s1, s2, s3, s4, s5, s6, s7, s8, s9] w) : w.cell? ⟨b, 0, none⟩ = some s0 ∧ w.cell? ⟨b, 1, none⟩ = some s1 ∧ w.cell? ⟨b, 2, none⟩ = some s2 ∧ w.cell? ⟨b, 3, none⟩ = some s3 ∧ w.cell? ⟨b, 4, none⟩ = some s4 ∧ w.cell? ⟨b, 5, none⟩ = some s5 ∧ w.cell? ⟨b, 6, none⟩ = some s6 ∧ w.cell? ⟨b, 7, none⟩ = some s7 ∧ w.cell? ⟨b, 8, none⟩ = some s8 ∧ w.cell? ⟨b, 9, none⟩ = some s9 :=
 ⟨h.cell 0, h.cell 1, h.cell 2, h.cell 3, h.cell 4, h.cell 5, h.cell 6, h.cell 7, h.cell 8, h.cell 9⟩
end Go.Proofs.YtmbphlkohlggfaaGreat

namespace Go.Proofs.YtmbphlkohlggfaaGreat
set_option maxRecDepth 100000
open Go.RowKit
def mcs (x : Mg) : List Value := [.int .i64 x.k, .int .i64 x.fr, .int .i64 x.tn, .int .i64 x.op, .int .i64 x.fo, .string x.key, .int .i64 x.bk, .slice x.ea x.el x.ec, .slice x.da x.dl x.dc, .slice x.ma x.ml x.mc]
theorem results_msg2 {fn : Func} {p u : Tmp} (h : fn.results = #[.cell p 26, .tmp u]) {tmps : Array Value} {w : World} {b : Nat} {x : Mg} (hp : tmps.getD p undef = .pointer (some ⟨b, 0, none⟩)) {v : Value} (hu : tmps.getD u undef = v) (hc : Cel b 26 #[.int .i64 x.k, .int .i64 x.fr, .int .i64 x.tn, .int .i64 x.op, .int .i64 x.fo, .string x.key, .int .i64 x.bk, .slice x.ea x.el x.ec, .slice x.da x.dl x.dc, .slice x.ma x.ml x.mc] w) :
  (results fn tmps).run Tryz.prog w = .ok (.tuple #[(.agg #[.int .i64 x.k, .int .i64 x.fr, .int .i64 x.tn, .int .i64 x.op, .int .i64 x.fo, .string x.key, .int .i64 x.bk, .slice x.ea x.el x.ec, .slice x.da x.dl x.dc, .slice x.ma x.ml x.mc]), v]) w := by
 rw [results_cell_tmp h]
 have ha : (asAddr (.pointer (some ⟨b, 0, none⟩))).run Tryz.prog w = .ok ⟨b, 0, none⟩ w := rfl
 rw [hp, hu, ha]
 obtain ⟨d, hd⟩ : ∃ d, Tryz.prog.underlying 26 = some (.struct d) := ⟨_, Tryz.underlying26⟩
 have hv := run_loadVar_row (P := Tryz.prog) w b 26 26 _ (0, 0) (.struct d) hc.is hd rfl (by kernel_rfl)
 simp only [Result.andThen, hv]
theorem results_msg {fn : Func} {p : Tmp} (h : fn.results = #[.cell p 26]) {tmps : Array Value} {w : World} {b : Nat} {x : Mg} (hp : tmps.getD p undef = .pointer (some ⟨b, 0, none⟩)) (hc : Cel b 26 #[.int .i64 x.k, .int .i64 x.fr, .int .i64 x.tn, .int .i64 x.op, .int .i64 x.fo, .string x.key, .int .i64 x.bk, .slice x.ea x.el x.ec, .slice x.da x.dl x.dc, .slice x.ma x.ml x.mc] w) :
  (results fn tmps).run Tryz.prog w = .ok ((.agg #[.int .i64 x.k, .int .i64 x.fr, .int .i64 x.tn, .int .i64 x.op, .int .i64 x.fo, .string x.key, .int .i64 x.bk, .slice x.ea x.el x.ec, .slice x.da x.dl x.dc, .slice x.ma x.ml x.mc])) w := by
 obtain ⟨d, hd⟩ : ∃ d, Tryz.prog.underlying 26 = some (.struct d) := ⟨_, Tryz.underlying26⟩
 exact results_cell_row h tmps w b 26 _ (0, 0) (.struct d) hp hc.is hd rfl (by kernel_rfl)
end Go.Proofs.YtmbphlkohlggfaaGreat
