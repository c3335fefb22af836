/- Items of several texts. -/
import Derived.Deep.RegionHeld
import Derived.Deep.Cut
import Derived.Deep.CutBlock
import Derived.BigQuiet
import Derived.Laws.CopyRow
import Derived.Laws.LoneSync
import Derived.Lib.AppendZerosOnto
import Derived.Lib.Overlaps
import Derived.Laws.OwnMore
import Derived.Lib.SlBytesConst
import Derived.Test.YtmbphlkohlggfaaASib
import Derived.Test.YtmbphlkohlggfaaALiv
import Derived.Test.YtmbphlkohlggfaaAKee
import Derived.Test.YtmbphlkohlggfaaALaw10
import Derived.Test.YtmbphlkohlggfaaADg0
namespace Go.Proofs.Ytmbphlkohlggfaa
open Go.RowKit
structure Mg where
 k : Int
 fr : Int
 tn : Int
 op : Int
 fo : Int
 key : ByteArray
 bk : Int
 ea : Option Addr
 el : Nat
 ec : Nat
 da : Option Addr
 dl : Nat
 dc : Nat
 ma : Option Addr
 ml : Nat
 mc : Nat
theorem flw_inv {α : Type} {cs : α → List Value} {size : Nat} (wcs : ∀ x, (cs x).length = size) : ∀ {l : List α} {j : Nat} {u : Value}, (l.flatMap cs)[j]? = some u → ∃ i r x, l[i]? = some x ∧ j = i * size + r ∧ (cs x)[r]? = some u
 | [], j, u, h => by simp at h
 | x :: l, j, u, h => by
  rw [List.flatMap_cons] at h
  by_cases hj : j < size
  ·rw [List.getElem?_append_left (by rw [wcs]; exact hj)] at h
   exact ⟨0, j, x, rfl, by omega, h⟩
  ·rw [List.getElem?_append_right (by rw [wcs]; omega), wcs] at h
   obtain ⟨i, r, y, hy, e, hu⟩ := flw_inv wcs h
   refine ⟨i + 1, r, y, by simpa using hy, ?_, hu⟩
   rw [Nat.succ_mul]
   omega
theorem flw_one {α : Type} {cs : α → List Value} (hc : ∀ x, ∀ u ∈ cs x, u.oneCell' = true) (l : List α) : ∀ u ∈ l.flatMap cs, u.oneCell' = true := by
 intro u hu
 obtain ⟨x, -, hx⟩ := List.mem_flatMap.1 hu
 exact hc x u hx
theorem flw_len {α : Type} {cs : α → List Value} {size : Nat} (wcs : ∀ x, (cs x).length = size) (l : List α) : (l.flatMap cs).length = l.length * size := by
 induction l with
 | nil => simp
 | cons x l ih => rw [List.flatMap_cons, List.length_append, ih, wcs, List.length_cons, Nat.succ_mul]; omega
end Go.Proofs.Ytmbphlkohlggfaa

namespace Go.Proofs.Ytmbphlkohlggfaa
open Go.RowKit
def spl (l : List Value) (o : Nat) (cs : List Value) : List Value := l.take o ++ cs ++ l.drop (o + cs.length)
end Go.Proofs.Ytmbphlkohlggfaa

namespace Go.Proofs.Ytmbphlkohlggfaa
set_option maxRecDepth 100000
open Go.RowKit
def wrw (g : Nat) : Nat → List Value → World → World
 | _, [], w => w
 | o, u :: us, w => wrw g (o + 1) us (w.setCell ⟨g, o, none⟩ u)
theorem off_wrw {D : Nat → Prop} {a : World} {g : Nat} : ∀ {us : List Value} {o : Nat} {w : World}, Off D a w → (D g ∨ a.heap.size ≤ g) → Off D a (wrw g o us w)
 | [], _, _, h, _ => h
 | u :: us, o, w, h, hg => by
  unfold wrw
  exact off_wrw (h.setCell (p := ⟨g, o, none⟩) hg u) hg
def setw : List Value → Nat → List Value → List Value
 | l, _, [] => l
 | l, o, v :: vs => setw (l.set o v) (o + 1) vs
theorem Cel.setw {g : Nat} {t : TypeId} : ∀ {vs : List Value} {o : Nat} {cur : Array Value} {w : World}, Cel g t cur w → Cel g t (setw cur.toList o vs).toArray (wrw g o vs w)
 | [], _, cur, w, h => by simpa [Ytmbphlkohlggfaa.setw, wrw] using h
 | v :: vs, o, cur, w, h => by
  have := Cel.setw (vs := vs) (o := o + 1) (h.set o v)
  rw [Array.toList_setIfInBounds] at this
  exact this
theorem setw_eq : ∀ (vs : List Value) (l : List Value) (o : Nat), o + vs.length ≤ l.length → setw l o vs = spl l o vs
 | [], l, o, _ => by simp [setw, spl]
 | v :: vs, l, o, h => by
  rw [List.length_cons] at h
  unfold setw
  rw [setw_eq vs (l.set o v) (o + 1) (by rw [List.length_set]; omega)]
  unfold spl
  rw [list_seg_step l o v vs (by omega), List.length_cons]
theorem Cel.wrwAll {g : Nat} {t : TypeId} {vs : List Value} {cur : Array Value} {w : World} (h : Cel g t cur w) (hl : vs.length = cur.size) : Cel g t vs.toArray (wrw g 0 vs w) := by
 have := h.setw (vs := vs) (o := 0)
 have hc : cur.toList.length = vs.length := by rw [Array.length_toList]; exact hl.symm
 rw [setw_eq _ _ _ (by rw [hc]; omega)] at this
 unfold spl at this
 rw [List.take_zero, List.nil_append, List.drop_of_length_le (by rw [hc]; omega), List.append_nil] at this
 exact this
end Go.Proofs.Ytmbphlkohlggfaa

namespace Go.Proofs.Ytmbphlkohlggfaa
set_option maxRecDepth 100000
open Go.RowKit
theorem celw10 {b : Nat} {t : TypeId} {s0 s1 s2 s3 s4 s5 s6 s7 s8 s9 : Value} {w : World} (h : Cel b t #[s0, s1, s2, s3, s4, s5, s6, s7, s8, s9] w) : w.cell? ⟨b, 0, none⟩ = some s0 ∧ w.cell? ⟨b, 1, none⟩ = some s1 ∧ w.cell? ⟨b, 2, none⟩ = some s2 ∧ w.cell? ⟨b, 3, none⟩ = some s3 ∧ w.cell? ⟨b, 4, none⟩ = some s4 ∧ w.cell? ⟨b, 5, none⟩ = some s5 ∧ w.cell? ⟨b, 6, none⟩ = some s6 ∧ w.cell? ⟨b, 7, none⟩ = some s7 ∧ w.cell? ⟨b, 8, none⟩ = some s8 ∧ w.cell? ⟨b, 9, none⟩ = some s9 :=
 ⟨h.cell 0, h.cell 1, h.cell 2, h.cell 3, h.cell 4, h.cell 5, h.cell 6, h.cell 7, h.cell 8, h.cell 9⟩
end Go.Proofs.Ytmbphlkohlggfaa

namespace Go.Proofs.Ytmbphlkohlggfaa
set_option maxRecDepth 100000
open Go.RowKit
def mcs (x : Mg) : List Value := [.int .i64 x.k, .int .i64 x.fr, .int .i64 x.tn, .int .i64 x.op, .int .i64 x.fo, .string x.key, .int .i64 x.bk, .slice x.ea x.el x.ec, .slice x.da x.dl x.dc, .slice x.ma x.ml x.mc]
theorem results_msg {fn : Func} {p : Tmp} (h : fn.results = #[.cell p 26]) {tmps : Array Value} {w : World} {b : Nat} {x : Mg} (hp : tmps.getD p undef = .pointer (some ⟨b, 0, none⟩)) (hc : Cel b 26 #[.int .i64 x.k, .int .i64 x.fr, .int .i64 x.tn, .int .i64 x.op, .int .i64 x.fo, .string x.key, .int .i64 x.bk, .slice x.ea x.el x.ec, .slice x.da x.dl x.dc, .slice x.ma x.ml x.mc] w) :
  (results fn tmps).run Try.prog w = .ok ((.agg #[.int .i64 x.k, .int .i64 x.fr, .int .i64 x.tn, .int .i64 x.op, .int .i64 x.fo, .string x.key, .int .i64 x.bk, .slice x.ea x.el x.ec, .slice x.da x.dl x.dc, .slice x.ma x.ml x.mc])) w := by
 obtain ⟨d, hd⟩ : ∃ d, Try.prog.underlying 26 = some (.struct d) := ⟨_, Try.underlying26⟩
 exact results_cell_row h tmps w b 26 _ (0, 0) (.struct d) hp hc.is hd rfl (by kernel_rfl)
end Go.Proofs.Ytmbphlkohlggfaa

namespace Go.Proofs.Ytmbphlkohlggfaa
set_option maxRecDepth 100000
open Go.RowKit
theorem app_runX {α : Type} {t e : TypeId} {size bytes : Nat} {z : Value} {cs : α → List Value}
  (hu : Try.prog.underlying t = some (.slice e)) (hinfo : (Try.prog.info? e).map (fun i => (i.zero, i.size, i.bytes)) = some (some z, size, bytes)) (hz : z.cells.size = size) (hsz : 0 < size) (hcs : ∀ x, (cs x).length = size) (h1 : ∀ x, ∀ u ∈ cs x, u.oneCell' = true)
  {w : World} {a : Option Addr} {cap : Nat} (own : OwnG e size cs w a cap []) (ad : Addr) (cb : Nat) (k : List α) (hr : ∀ j u, (k.flatMap cs)[j]? = some u → w.cell? (ad.add j) = some u) (hb : k.length * bytes ≤ 140737488355328) (hm : k.length ≤ maxLen) (ty : TypeId) :
  ∃ a' c' w', (Builtin.append_ #[t, t] ty #[.slice a 0 cap, .slice (some ad) k.length cb]).run Try.prog w = .ok (.slice a' k.length c') w' ∧ OwnG e size cs w' a' c' k ∧ Off (fun c => blk a = some c) w w' ∧ (blk a' = blk a ∨ blk a' = some w.heap.size) := by
 obtain ⟨i0, hi, hz0, hz1, hz2⟩ := info_parts hinfo
 obtain ⟨v', w', hrun, own', grow', -, hat⟩ := run_append_own_at (P := Try.prog) w 0 t ty e i0 z size bytes hu hi hz0 hz1 hz2 hz hsz _ _ _ own.row ad k.length cb (k.flatMap cs) (flw_len hcs k) hr (flw_one h1 k) (by rw [List.length_nil, Nat.zero_add]; exact hm) (by rw [List.length_nil, Nat.zero_add]; exact hb) (Nat.zero_le _)
 rw [List.flatMap_nil, List.nil_append, List.length_nil, Nat.zero_add] at own'
 obtain ⟨t', c', rfl⟩ : ∃ t' c', v' = .slice t' k.length c' := by
  rcases own'.2 with ⟨rfl, h0⟩ | ⟨g, c, cur, hv, -⟩
  ·exact ⟨none, 0, by rw [h0]⟩
  ·exact ⟨_, _, hv⟩
 rw [blk_own, blk_own] at hat
 rw [blk_own] at grow'
 exact ⟨t', c', w', hrun, ⟨own'⟩, (Off.refl _ w).grown grow' (fun k hk => .inl hk), hat⟩
theorem wpList_appX {α : Type} {t e : TypeId} {size bytes : Nat} {z : Value} {cs : α → List Value}
  (hu : Try.prog.underlying t = some (.slice e)) (hinfo : (Try.prog.info? e).map (fun i => (i.zero, i.size, i.bytes)) = some (some z, size, bytes)) (hz : z.cells.size = size) (hsz : 0 < size) (hcs : ∀ x, (cs x).length = size) (h1 : ∀ x, ∀ u ∈ cs x, u.oneCell' = true)
  {w : World} {ops : Array Oper} {rest : List Oper} {o : Oper} {a : Act} {Q : Exit → Act → World → Prop} (hgd : o.guard = none) (s x : Operand)
  (ho : o.op = .call { callee := .builtin .append, args := #[s, x], argTypes := #[t, t] })
  (tad : Option Addr) (cap : Nat) (hs : a.eval s = .slice tad 0 cap) (own : OwnG e size cs w tad cap [])
  (ad : Addr) (cb : Nat) (k : List α) (hx : a.eval x = .slice (some ad) k.length cb) (hr : ∀ j u, (k.flatMap cs)[j]? = some u → w.cell? (ad.add j) = some u) (hb : k.length * bytes ≤ 140737488355328) (hm : k.length ≤ maxLen)
  (h : ∀ t' c' w', OwnG e size cs w' t' c' k → Off (fun c => blk tad = some c) w w' → (blk t' = blk tad ∨ blk t' = some w.heap.size) → wpList Try.prog ops Q rest (a.put o.dst (.slice t' k.length c')) w') :
  wpList Try.prog ops Q (o :: rest) a w := by
 obtain ⟨a', c', w', hrun, own', off, hat⟩ := app_runX hu hinfo hz hsz hcs h1 own ad cb k hr hb hm o.type
 refine wpList_plain hgd fun K' hK' => ?_
 unfold Oper.wp
 simp only [execOp, ho, resolve, invoke, builtin, Sem.run_bind, Sem.run_pure, Result.andThen_ok, List.map_toArray, List.map_cons, List.map_nil, hs, hx, hrun]
 exact hK' _ _ (h a' c' w' own' off hat)
theorem eql_nxd (a : Option Addr) (l c : Nat) (W : World) : (binOp .eql 51 (.slice a l c) (.slice none 0 0)).run Try.prog W = .ok (.bool a.isNone) W := by
 have h : binOp .eql 51 (.slice a l c) (.slice none 0 0) = (do pure (.bool (← Op.equal 51 (.slice a l c) (.slice none 0 0)))) := rfl
 rw [h]
 simp [run_equal_slice_nil W 51 42 a l c Try.underlying51, Result.andThen]
theorem dclone_big (t : Option Addr) (c : Nat) (l : List (Int × Int)) (w : World) (hn : t = none → l = []) (hr : ∀ ad, t = some ad → ∀ j u, (l.flatMap dcs)[j]? = some u → w.cell? (ad.add j) = some u) (hb : l.length * 16 ≤ 140737488355328) :
  Calls Try.prog 26 #[.slice t l.length c] w fun e w' => ∃ t' c', e = .returned (.slice t' l.length c') ∧ OwnG 42 2 dcs w' t' c' l ∧ (∀ k, blk t' = some k → w.heap.size ≤ k) ∧ Off (fun _ => False) w w' := by
 have hq := eql_nxd
 cases t with
 | none =>
  obtain rfl : l = [] := hn rfl
  go_enter Try.func26, Try.ntmps26
  go_wp2
  go_ret
  exact ⟨none, 0, rfl, OwnG.nil _ _ _ w, fun k hk => by simp [blk] at hk, Off.refl _ w⟩
 | some ad =>
  have L0 : OwnG 42 2 dcs (w.alloc (.cells #[] 42)) (some ⟨w.heap.size, 0, none⟩) 0 ([] : List (Int × Int)) := ⟨World.ownsRow_lit w #[] 0 (Nat.zero_le _) (by decide) rfl⟩
  have O0 : Off (fun _ => False) w (w.alloc (.cells #[] 42)) := (Off.refl _ w).alloc _
  have HR : Hid (∀ j u, (l.flatMap dcs)[j]? = some u → (w.alloc (.cells #[] 42)).cell? (ad.add j) = some u) := fun j u hj => by
   have h := hr ad rfl j u hj
   rw [← h]
   exact World.cell?_of_block (O0.block _ (cell_lt h) (fun h => h))
  clear hr
  go_enter Try.func26, Try.ntmps26
  go_wp2_with (at_builtin; refine wpList_appX (cs := dcs) Try.underlying51 Try.infoDt rfl (by decide) dcs_len dcs_one rfl (.tmp 5) (.tmp 6) rfl _ 0 rfl L0 ad c l rfl HR.out hb (by unfold maxLen; omega) ?_; intro t' c' w' own' off' at')
  go_ret
  refine ⟨t', c', rfl, own', fun k hk => ?_, O0.trans off' (fun i hi hb => ?_)⟩
  ·rcases at' with a | a
   ·rw [a] at hk
    simp [blk] at hk
    omega
   ·rw [a] at hk
    simp at hk
    omega
  ·simp [blk] at hb
   omega
theorem Try.infoMb : (Try.prog.info? 63).map (fun i => (i.zero, i.size, i.bytes)) = some (some (.agg #[.int .i64 0, .int .i64 0]), 2, 16) := by kernel_rfl
theorem eql_nxm (a : Option Addr) (l c : Nat) (W : World) : (binOp .eql 24 (.slice a l c) (.slice none 0 0)).run Try.prog W = .ok (.bool a.isNone) W := by
 have h : binOp .eql 24 (.slice a l c) (.slice none 0 0) = (do pure (.bool (← Op.equal 24 (.slice a l c) (.slice none 0 0)))) := rfl
 rw [h]
 simp [run_equal_slice_nil W 24 63 a l c Try.underlying24, Result.andThen]
theorem mclone_big (t : Option Addr) (c : Nat) (l : List (Int × Int)) (w : World) (hn : t = none → l = []) (hr : ∀ ad, t = some ad → ∀ j u, (l.flatMap dcs)[j]? = some u → w.cell? (ad.add j) = some u) (hb : l.length * 16 ≤ 140737488355328) :
  Calls Try.prog 27 #[.slice t l.length c] w fun e w' => ∃ t' c', e = .returned (.slice t' l.length c') ∧ OwnG 63 2 dcs w' t' c' l ∧ (∀ k, blk t' = some k → w.heap.size ≤ k) ∧ Off (fun _ => False) w w' := by
 have hq := eql_nxm
 cases t with
 | none =>
  obtain rfl : l = [] := hn rfl
  go_enter Try.func27, Try.ntmps27
  go_wp2
  go_ret
  exact ⟨none, 0, rfl, OwnG.nil _ _ _ w, fun k hk => by simp [blk] at hk, Off.refl _ w⟩
 | some ad =>
  have L0 : OwnG 63 2 dcs (w.alloc (.cells #[] 63)) (some ⟨w.heap.size, 0, none⟩) 0 ([] : List (Int × Int)) := ⟨World.ownsRow_lit w #[] 0 (Nat.zero_le _) (by decide) rfl⟩
  have O0 : Off (fun _ => False) w (w.alloc (.cells #[] 63)) := (Off.refl _ w).alloc _
  have HR : Hid (∀ j u, (l.flatMap dcs)[j]? = some u → (w.alloc (.cells #[] 63)).cell? (ad.add j) = some u) := fun j u hj => by
   have h := hr ad rfl j u hj
   rw [← h]
   exact World.cell?_of_block (O0.block _ (cell_lt h) (fun h => h))
  clear hr
  go_enter Try.func27, Try.ntmps27
  go_wp2_with (at_builtin; refine wpList_appX (cs := dcs) Try.underlying24 Try.infoMb rfl (by decide) dcs_len dcs_one rfl (.tmp 5) (.tmp 6) rfl _ 0 rfl L0 ad c l rfl HR.out hb (by unfold maxLen; omega) ?_; intro t' c' w' own' off' at')
  go_ret
  refine ⟨t', c', rfl, own', fun k hk => ?_, O0.trans off' (fun i hi hb => ?_)⟩
  ·rcases at' with a | a
   ·rw [a] at hk
    simp [blk] at hk
    omega
   ·rw [a] at hk
    simp at hk
    omega
  ·simp [blk] at hb
   omega
end Go.Proofs.Ytmbphlkohlggfaa

namespace Go.Proofs.Ytmbphlkohlggfaa
set_option maxRecDepth 100000
open Go.RowKit
structure MsgAt (w : World) (m : Mg) (es : List E) (gs : List G) (ms : List (Int × Int)) : Prop where
 ens : Ens w m.ea m.ec es
 el : m.el = es.length
 dgs : Dgs w m.da m.dc gs
 dl : m.dl = gs.length
 mbs : RowD w m.ma m.mc ms
 ml : m.ml = ms.length
theorem MsgAt.off {w w' : World} {m : Mg} {es : List E} {gs : List G} {ms : List (Int × Int)} (h : MsgAt w m es gs ms) (o : Off (fun _ => False) w w') : MsgAt w' m es gs ms := ⟨h.ens.off o, h.el, h.dgs.off o, h.dl, h.mbs.off o, h.ml⟩
theorem RowD.newsX {w : World} {a : Option Addr} {cap : Nat} {l : List (Int × Int)} (h : RowD w a cap l) : (a = none → l = []) ∧ ∀ ad, a = some ad → ∀ j u, (l.flatMap dcs)[j]? = some u → w.cell? (ad.add j) = some u := by
 refine ⟨fun e => ?_, fun ad e j u hj => ?_⟩
 ·cases l with
  | nil => rfl
  | cons v l =>
   obtain ⟨b, off, e1, -⟩ := h.at_ 0 v rfl
   rw [e] at e1
   cases e1
 ·obtain ⟨i, r, x, hx, rfl, hu⟩ := flw_inv dcs_len hj
  obtain ⟨b, off, e1, h1, h2⟩ := h.at_ i x hx
  rw [e] at e1
  simp only [Option.some.injEq] at e1
  subst e1
  rw [add_lit, ← Nat.add_assoc]
  match r, hu with
  | 0, hu => simp [dcs] at hu; rw [← hu]; exact h1
  | 1, hu => simp [dcs] at hu; rw [← hu]; exact h2
  | r + 2, hu => simp [dcs] at hu
theorem OwnG.rowX {e : TypeId} {w : World} {a : Option Addr} {cap : Nat} {ds : List (Int × Int)} (h : OwnG e 2 dcs w a cap ds) : RowD w a cap ds := by
 refine ⟨?_, ?_, fun i d hi => ?_⟩
 ·rcases h.row.2 with ⟨hv, h0⟩ | ⟨g, c, cur, hv, hb, hh, hc, -⟩
  ·omega
  ·simp only [Value.slice.injEq] at hv
   obtain ⟨-, -, rfl⟩ := hv
   exact hc
 ·rcases h.row.2 with ⟨hv, h0⟩ | ⟨g, c, cur, hv, hb, hh, hc, hm, -⟩
  ·simp only [Value.slice.injEq] at hv
   omega
  ·simp only [Value.slice.injEq] at hv
   obtain ⟨-, -, rfl⟩ := hv
   unfold maxLen at hm
   omega
 ·obtain ⟨g, rfl, hc⟩ := h.at_ dcs_len hi
  refine ⟨g, 0, rfl, ?_, ?_⟩
  ·have := hc 0 _ rfl
   simpa using this
  ·have := hc 1 _ rfl
   simpa using this
end Go.Proofs.Ytmbphlkohlggfaa
