/- Items of several texts. -/
import Derived.Deep.RegionHeld
import Derived.Deep.Cut
import Derived.Deep.CutBlock
import Derived.BigQuiet
import Derived.Laws.CopyRow
import Derived.Laws.LoneSync
import Derived.Lib.AppendZerosOnto
import Derived.Lib.Overlaps
import Derived.Laws.OwnMore
import Derived.Lib.SlBytesConst
import Derived.Test.YtmeclfgehpbjlaaYOwn
import Derived.Test.YtmeclfgehpbjlaaYLiv
namespace Go.Proofs.Ytmeclfgehpbjlaa
open Go.RowKit
structure Mg where
 k : Int
 fr : Int
 tn : Int
 op : Int
 fo : Int
 key : ByteArray
 bk : Int
 ea : Option Addr
 el : Nat
 ec : Nat
 da : Option Addr
 dl : Nat
 dc : Nat
 ma : Option Addr
 ml : Nat
 mc : Nat
structure Wt where
 m : Mg
 base : Int
def mz : Mg := ⟨0, 0, 0, 0, 0, ⟨#[]⟩, 0, none, 0, 0, none, 0, 0, none, 0, 0⟩
def wcs (x : Wt) : List Value := [.int .i64 x.m.k, .int .i64 x.m.fr, .int .i64 x.m.tn, .int .i64 x.m.op, .int .i64 x.m.fo, .string x.m.key, .int .i64 x.m.bk, .slice x.m.ea x.m.el x.m.ec, .slice x.m.da x.m.dl x.m.dc, .slice x.m.ma x.m.ml x.m.mc, .int .i64 x.base]
theorem wcs_len (x : Wt) : (wcs x).length = 11 := rfl
theorem wcs_one (x : Wt) : ∀ u ∈ wcs x, u.oneCell' = true := by simp [wcs, Value.oneCell']
theorem Try.infoW : (Try.prog.info? 68).map (fun i => (i.zero, i.size, i.bytes)) = some (some (.agg #[.int .i64 0, .int .i64 0, .int .i64 0, .int .i64 0, .int .i64 0, .string ⟨#[]⟩, .int .i64 0, .slice none 0 0, .slice none 0 0, .slice none 0 0, .int .i64 0]), 11, 144) := by kernel_rfl
theorem celw11 {b : Nat} {t : TypeId} {s0 s1 s2 s3 s4 s5 s6 s7 s8 s9 s10 : Value} {w : World} (h : Cel b t #[s0, s1, s2, s3, s4, s5, s6, s7, s8, s9, s10] w) : w.cell? ⟨b, 0, none⟩ = some s0 ∧ w.cell? ⟨b, 1, none⟩ = some s1 ∧ w.cell? ⟨b, 2, none⟩ = some s2 ∧ w.cell? ⟨b, 3, none⟩ = some s3 ∧ w.cell? ⟨b, 4, none⟩ = some s4 ∧ w.cell? ⟨b, 5, none⟩ = some s5 ∧ w.cell? ⟨b, 6, none⟩ = some s6 ∧ w.cell? ⟨b, 7, none⟩ = some s7 ∧ w.cell? ⟨b, 8, none⟩ = some s8 ∧ w.cell? ⟨b, 9, none⟩ = some s9 ∧ w.cell? ⟨b, 10, none⟩ = some s10 :=
 ⟨h.cell 0, h.cell 1, h.cell 2, h.cell 3, h.cell 4, h.cell 5, h.cell 6, h.cell 7, h.cell 8, h.cell 9, h.cell 10⟩
structure AtW (w : World) (b o : Nat) (x : Wt) : Prop where
 at_ : ∀ j u, (wcs x)[j]? = some u → w.cell? ⟨b, o + j, none⟩ = some u
theorem AtW.lt {w : World} {b o : Nat} {x : Wt} (k : AtW w b o x) : b < w.heap.size := cell_lt (k.at_ 0 _ rfl)
theorem AtW.cells {w : World} {b o : Nat} {x : Wt} (k : AtW w b o x) : w.cell? ⟨b, o, none⟩ = some (.int .i64 x.m.k) ∧ w.cell? ⟨b, o + 1, none⟩ = some (.int .i64 x.m.fr) ∧ w.cell? ⟨b, o + 2, none⟩ = some (.int .i64 x.m.tn) ∧ w.cell? ⟨b, o + 3, none⟩ = some (.int .i64 x.m.op) ∧ w.cell? ⟨b, o + 4, none⟩ = some (.int .i64 x.m.fo) ∧ w.cell? ⟨b, o + 5, none⟩ = some (.string x.m.key) ∧ w.cell? ⟨b, o + 6, none⟩ = some (.int .i64 x.m.bk) ∧ w.cell? ⟨b, o + 7, none⟩ = some (.slice x.m.ea x.m.el x.m.ec) ∧ w.cell? ⟨b, o + 8, none⟩ = some (.slice x.m.da x.m.dl x.m.dc) ∧ w.cell? ⟨b, o + 9, none⟩ = some (.slice x.m.ma x.m.ml x.m.mc) ∧ w.cell? ⟨b, o + 10, none⟩ = some (.int .i64 x.base) :=
 ⟨k.at_ 0 _ rfl, k.at_ 1 _ rfl, k.at_ 2 _ rfl, k.at_ 3 _ rfl, k.at_ 4 _ rfl, k.at_ 5 _ rfl, k.at_ 6 _ rfl, k.at_ 7 _ rfl, k.at_ 8 _ rfl, k.at_ 9 _ rfl, k.at_ 10 _ rfl⟩
theorem AtW.off {D : Nat → Prop} {w w' : World} {b o : Nat} {h : Wt} (k : AtW w b o h) (i : Off D w w') (hD : b < w.heap.size → ¬ D b) : AtW w' b o h :=
 ⟨fun j u e => by
  have h1 := k.at_ j u e
  rw [← h1]
  exact World.cell?_of_block (a := ⟨b, o + j, none⟩) (i.block b k.lt (hD k.lt))⟩
structure Wns (w : World) (a : Option Addr) (cap : Nat) (l : List Wt) : Prop where
 len : l.length ≤ cap
 bound : cap ≤ 9223372036854775807
 at_ : ∀ i v, l[i]? = some v → ∃ b off, a = some ⟨b, off, none⟩ ∧ AtW w b (off + i * 11) v
theorem flw_inv {α : Type} {cs : α → List Value} {size : Nat} (wcs : ∀ x, (cs x).length = size) : ∀ {l : List α} {j : Nat} {u : Value}, (l.flatMap cs)[j]? = some u → ∃ i r x, l[i]? = some x ∧ j = i * size + r ∧ (cs x)[r]? = some u
 | [], j, u, h => by simp at h
 | x :: l, j, u, h => by
  rw [List.flatMap_cons] at h
  by_cases hj : j < size
  ·rw [List.getElem?_append_left (by rw [wcs]; exact hj)] at h
   exact ⟨0, j, x, rfl, by omega, h⟩
  ·rw [List.getElem?_append_right (by rw [wcs]; omega), wcs] at h
   obtain ⟨i, r, y, hy, e, hu⟩ := flw_inv wcs h
   refine ⟨i + 1, r, y, by simpa using hy, ?_, hu⟩
   rw [Nat.succ_mul]
   omega
theorem Wns.news {w : World} {b : Addr} {cap : Nat} {l : List Wt} (h : Wns w (some b) cap l) : ∀ j u, (l.flatMap wcs)[j]? = some u → w.cell? (b.add j) = some u := by
 intro j u hj
 obtain ⟨i, r, x, hx, rfl, hu⟩ := flw_inv wcs_len hj
 obtain ⟨bb, off, e, h1⟩ := h.at_ i x hx
 simp only [Option.some.injEq] at e
 subst e
 rw [add_lit, ← Nat.add_assoc]
 exact h1.at_ r u hu
theorem flw_one {α : Type} {cs : α → List Value} (hc : ∀ x, ∀ u ∈ cs x, u.oneCell' = true) (l : List α) : ∀ u ∈ l.flatMap cs, u.oneCell' = true := by
 intro u hu
 obtain ⟨x, -, hx⟩ := List.mem_flatMap.1 hu
 exact hc x u hx
theorem flw_len {α : Type} {cs : α → List Value} {size : Nat} (wcs : ∀ x, (cs x).length = size) (l : List α) : (l.flatMap cs).length = l.length * size := by
 induction l with
 | nil => simp
 | cons x l ih => rw [List.flatMap_cons, List.length_append, ih, wcs, List.length_cons, Nat.succ_mul]; omega
theorem OwnG.zerow {α : Type} {e : TypeId} {size : Nat} {cs : α → List Value} {w : World} {a : Option Addr} {cap : Nat} {l : List α} (h : OwnG e size cs w a cap l) : a = none → cap = 0 := by
 intro ea
 rcases h.row.2 with ⟨hv, -⟩ | ⟨g, c, cur, hv, -⟩
 ·simp only [Value.slice.injEq] at hv
  exact hv.2.2
 ·simp only [Value.slice.injEq] at hv
  rw [ea] at hv
  simp at hv
theorem OwnG.nnw {α : Type} {e : TypeId} {size : Nat} {cs : α → List Value} {w : World} {a : Option Addr} {cap : Nat} {l : List α} (h : OwnG e size cs w a cap l) : a = none → l = [] := by
 intro ea
 rcases h.row.2 with ⟨hv, h0⟩ | ⟨g, c, cur, hv, -⟩
 ·exact List.eq_nil_of_length_eq_zero h0
 ·simp only [Value.slice.injEq] at hv
  rw [ea] at hv
  simp at hv
theorem OwnG.celw {α : Type} {e : TypeId} {size : Nat} {cs : α → List Value} {w : World} {a : Option Addr} {cap : Nat} {l : List α} (h : OwnG e size cs w a cap l) (hl : a ≠ none) : ∃ g cur, a = some ⟨g, 0, none⟩ ∧ Cel g e cur w ∧ l.length ≤ cap ∧ cap ≤ maxLen ∧ cur.size = cap * size ∧ cur.toList.take (l.length * size) = l.flatMap cs := by
 rcases h.row.2 with ⟨hv, h0⟩ | ⟨g, c, cur, hv, hb, hh, hc, hm, hs, ht⟩
 ·simp only [Value.slice.injEq] at hv
  exact absurd hv.1 hl
 ·simp only [Value.slice.injEq] at hv
  obtain ⟨rfl, -, rfl⟩ := hv
  exact ⟨g, cur, rfl, ⟨hh⟩, hc, hm, hs, ht⟩
theorem ownw_of {α : Type} {e : TypeId} {size : Nat} {cs : α → List Value} (wcs : ∀ x, (cs x).length = size) {w : World} {g cap : Nat} {l : List α} {cur : Array Value} (hc : Cel g e cur w) (hl : l.length ≤ cap) (hm : cap ≤ maxLen) (hs : cur.size = cap * size) (ht : cur.toList.take (l.length * size) = l.flatMap cs) : OwnG e size cs w (some ⟨g, 0, none⟩) cap l :=
 ⟨⟨flw_len wcs l, .inr ⟨g, cap, cur, rfl, Nat.zero_le _, hc.is, hl, hm, hs, ht⟩⟩⟩
theorem OwnG.atW {w : World} {a : Option Addr} {cap : Nat} {l : List Wt} (h : OwnG 68 11 wcs w a cap l) {i : Nat} {x : Wt} (hi : l[i]? = some x) : ∃ g, a = some ⟨g, 0, none⟩ ∧ AtW w g (i * 11) x := by
 obtain ⟨g, e, h1⟩ := h.at_ wcs_len hi
 exact ⟨g, e, ⟨h1⟩⟩
theorem idx_win {m n : Nat} (h : n < m) (c g : Nat) (W : World) : (Instr.indexAt 60 (.slice (some ⟨g, 0, none⟩) m c) (.int .i64 (n : Int))).run Try.prog W = .ok (.pointer (some ⟨g, n * 11, none⟩)) W := by
 go_simp
end Go.Proofs.Ytmeclfgehpbjlaa
