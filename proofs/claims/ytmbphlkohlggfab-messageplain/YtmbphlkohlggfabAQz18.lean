/- Items of several texts. -/
import Derived.Test.YtmbphlkohlggfabAQt18
import Derived.Test.YtmbphlkohlggfabAKee
import Derived.Test.YtmbphlkohlggfabALaw10
import Derived.Test.YtmbphlkohlggfabADg0
namespace Go.Proofs.Ytmbphlkohlggfab
set_option maxRecDepth 100000
open Go.RowKit
theorem app_runX {α : Type} {t e : TypeId} {size bytes : Nat} {z : Value} {cs : α → List Value}
  (hu : Try.prog.underlying t = some (.slice e)) (hinfo : (Try.prog.info? e).map (fun i => (i.zero, i.size, i.bytes)) = some (some z, size, bytes)) (hz : z.cells.size = size) (hsz : 0 < size) (hcs : ∀ x, (cs x).length = size) (h1 : ∀ x, ∀ u ∈ cs x, u.oneCell' = true)
  {w : World} {a : Option Addr} {cap : Nat} (own : OwnG e size cs w a cap []) (ad : Addr) (cb : Nat) (k : List α) (hr : ∀ j u, (k.flatMap cs)[j]? = some u → w.cell? (ad.add j) = some u) (hb : k.length * bytes ≤ 140737488355328) (hm : k.length ≤ maxLen) (ty : TypeId) :
  ∃ a' c' w', (Builtin.append_ #[t, t] ty #[.slice a 0 cap, .slice (some ad) k.length cb]).run Try.prog w = .ok (.slice a' k.length c') w' ∧ OwnG e size cs w' a' c' k ∧ Off (fun c => blk a = some c) w w' ∧ (blk a' = blk a ∨ blk a' = some w.heap.size) := by
 obtain ⟨i0, hi, hz0, hz1, hz2⟩ := info_parts hinfo
 obtain ⟨v', w', hrun, own', grow', -, hat⟩ := run_append_own_at (P := Try.prog) w 0 t ty e i0 z size bytes hu hi hz0 hz1 hz2 hz hsz _ _ _ own.row ad k.length cb (k.flatMap cs) (flw_len hcs k) hr (flw_one h1 k) (by rw [List.length_nil, Nat.zero_add]; exact hm) (by rw [List.length_nil, Nat.zero_add]; exact hb) (Nat.zero_le _)
 rw [List.flatMap_nil, List.nil_append, List.length_nil, Nat.zero_add] at own'
 obtain ⟨t', c', rfl⟩ : ∃ t' c', v' = .slice t' k.length c' := by
  rcases own'.2 with ⟨rfl, h0⟩ | ⟨g, c, cur, hv, -⟩
  ·exact ⟨none, 0, by rw [h0]⟩
  ·exact ⟨_, _, hv⟩
 rw [blk_own, blk_own] at hat
 rw [blk_own] at grow'
 exact ⟨t', c', w', hrun, ⟨own'⟩, (Off.refl _ w).grown grow' (fun k hk => .inl hk), hat⟩
theorem wpList_appX {α : Type} {t e : TypeId} {size bytes : Nat} {z : Value} {cs : α → List Value}
  (hu : Try.prog.underlying t = some (.slice e)) (hinfo : (Try.prog.info? e).map (fun i => (i.zero, i.size, i.bytes)) = some (some z, size, bytes)) (hz : z.cells.size = size) (hsz : 0 < size) (hcs : ∀ x, (cs x).length = size) (h1 : ∀ x, ∀ u ∈ cs x, u.oneCell' = true)
  {w : World} {ops : Array Oper} {rest : List Oper} {o : Oper} {a : Act} {Q : Exit → Act → World → Prop} (hgd : o.guard = none) (s x : Operand)
  (ho : o.op = .call { callee := .builtin .append, args := #[s, x], argTypes := #[t, t] })
  (tad : Option Addr) (cap : Nat) (hs : a.eval s = .slice tad 0 cap) (own : OwnG e size cs w tad cap [])
  (ad : Addr) (cb : Nat) (k : List α) (hx : a.eval x = .slice (some ad) k.length cb) (hr : ∀ j u, (k.flatMap cs)[j]? = some u → w.cell? (ad.add j) = some u) (hb : k.length * bytes ≤ 140737488355328) (hm : k.length ≤ maxLen)
  (h : ∀ t' c' w', OwnG e size cs w' t' c' k → Off (fun c => blk tad = some c) w w' → (blk t' = blk tad ∨ blk t' = some w.heap.size) → wpList Try.prog ops Q rest (a.put o.dst (.slice t' k.length c')) w') :
  wpList Try.prog ops Q (o :: rest) a w := by
 obtain ⟨a', c', w', hrun, own', off, hat⟩ := app_runX hu hinfo hz hsz hcs h1 own ad cb k hr hb hm o.type
 refine wpList_plain hgd fun K' hK' => ?_
 unfold Oper.wp
 simp only [execOp, ho, resolve, invoke, builtin, Sem.run_bind, Sem.run_pure, Result.andThen_ok, List.map_toArray, List.map_cons, List.map_nil, hs, hx, hrun]
 exact hK' _ _ (h a' c' w' own' off hat)
theorem eql_nxd (a : Option Addr) (l c : Nat) (W : World) : (binOp .eql 42 (.slice a l c) (.slice none 0 0)).run Try.prog W = .ok (.bool a.isNone) W := by
 have h : binOp .eql 42 (.slice a l c) (.slice none 0 0) = (do pure (.bool (← Op.equal 42 (.slice a l c) (.slice none 0 0)))) := rfl
 rw [h]
 simp [run_equal_slice_nil W 42 48 a l c Try.underlying42, Result.andThen]
theorem dclone_big (t : Option Addr) (c : Nat) (l : List (Int × Int)) (w : World) (hn : t = none → l = []) (hr : ∀ ad, t = some ad → ∀ j u, (l.flatMap dcs)[j]? = some u → w.cell? (ad.add j) = some u) (hb : l.length * 16 ≤ 140737488355328) :
  Calls Try.prog 17 #[.slice t l.length c] w fun e w' => ∃ t' c', e = .returned (.slice t' l.length c') ∧ OwnG 48 2 dcs w' t' c' l ∧ (∀ k, blk t' = some k → w.heap.size ≤ k) ∧ Off (fun _ => False) w w' := by
 have hq := eql_nxd
 cases t with
 | none =>
  obtain rfl : l = [] := hn rfl
  go_enter Try.func17, Try.ntmps17
  go_wp2
  go_ret
  exact ⟨none, 0, rfl, OwnG.nil _ _ _ w, fun k hk => by simp [blk] at hk, Off.refl _ w⟩
 | some ad =>
  have L0 : OwnG 48 2 dcs (w.alloc (.cells #[] 48)) (some ⟨w.heap.size, 0, none⟩) 0 ([] : List (Int × Int)) := ⟨World.ownsRow_lit w #[] 0 (Nat.zero_le _) (by decide) rfl⟩
  have O0 : Off (fun _ => False) w (w.alloc (.cells #[] 48)) := (Off.refl _ w).alloc _
  have HR : Hid (∀ j u, (l.flatMap dcs)[j]? = some u → (w.alloc (.cells #[] 48)).cell? (ad.add j) = some u) := fun j u hj => by
   have h := hr ad rfl j u hj
   rw [← h]
   exact World.cell?_of_block (O0.block _ (cell_lt h) (fun h => h))
  clear hr
  go_enter Try.func17, Try.ntmps17
  go_wp2_with (at_builtin; refine wpList_appX (cs := dcs) Try.underlying42 Try.infoDt rfl (by decide) dcs_len dcs_one rfl (.tmp 5) (.tmp 6) rfl _ 0 rfl L0 ad c l rfl HR.out hb (by unfold maxLen; omega) ?_; intro t' c' w' own' off' at')
  go_ret
  refine ⟨t', c', rfl, own', fun k hk => ?_, O0.trans off' (fun i hi hb => ?_)⟩
  ·rcases at' with a | a
   ·rw [a] at hk
    simp [blk] at hk
    omega
   ·rw [a] at hk
    simp at hk
    omega
  ·simp [blk] at hb
   omega
theorem Try.infoMb : (Try.prog.info? 58).map (fun i => (i.zero, i.size, i.bytes)) = some (some (.agg #[.int .i64 0, .int .i64 0]), 2, 16) := by kernel_rfl
theorem eql_nxm (a : Option Addr) (l c : Nat) (W : World) : (binOp .eql 24 (.slice a l c) (.slice none 0 0)).run Try.prog W = .ok (.bool a.isNone) W := by
 have h : binOp .eql 24 (.slice a l c) (.slice none 0 0) = (do pure (.bool (← Op.equal 24 (.slice a l c) (.slice none 0 0)))) := rfl
 rw [h]
 simp [run_equal_slice_nil W 24 58 a l c Try.underlying24, Result.andThen]
theorem mclone_big (t : Option Addr) (c : Nat) (l : List (Int × Int)) (w : World) (hn : t = none → l = []) (hr : ∀ ad, t = some ad → ∀ j u, (l.flatMap dcs)[j]? = some u → w.cell? (ad.add j) = some u) (hb : l.length * 16 ≤ 140737488355328) :
  Calls Try.prog 18 #[.slice t l.length c] w fun e w' => ∃ t' c', e = .returned (.slice t' l.length c') ∧ OwnG 58 2 dcs w' t' c' l ∧ (∀ k, blk t' = some k → w.heap.size ≤ k) ∧ Off (fun _ => False) w w' := by
 have hq := eql_nxm
 cases t with
 | none =>
  obtain rfl : l = [] := hn rfl
  go_enter Try.func18, Try.ntmps18
  go_wp2
  go_ret
  exact ⟨none, 0, rfl, OwnG.nil _ _ _ w, fun k hk => by simp [blk] at hk, Off.refl _ w⟩
 | some ad =>
  have L0 : OwnG 58 2 dcs (w.alloc (.cells #[] 58)) (some ⟨w.heap.size, 0, none⟩) 0 ([] : List (Int × Int)) := ⟨World.ownsRow_lit w #[] 0 (Nat.zero_le _) (by decide) rfl⟩
  have O0 : Off (fun _ => False) w (w.alloc (.cells #[] 58)) := (Off.refl _ w).alloc _
  have HR : Hid (∀ j u, (l.flatMap dcs)[j]? = some u → (w.alloc (.cells #[] 58)).cell? (ad.add j) = some u) := fun j u hj => by
   have h := hr ad rfl j u hj
   rw [← h]
   exact World.cell?_of_block (O0.block _ (cell_lt h) (fun h => h))
  clear hr
  go_enter Try.func18, Try.ntmps18
  go_wp2_with (at_builtin; refine wpList_appX (cs := dcs) Try.underlying24 Try.infoMb rfl (by decide) dcs_len dcs_one rfl (.tmp 5) (.tmp 6) rfl _ 0 rfl L0 ad c l rfl HR.out hb (by unfold maxLen; omega) ?_; intro t' c' w' own' off' at')
  go_ret
  refine ⟨t', c', rfl, own', fun k hk => ?_, O0.trans off' (fun i hi hb => ?_)⟩
  ·rcases at' with a | a
   ·rw [a] at hk
    simp [blk] at hk
    omega
   ·rw [a] at hk
    simp at hk
    omega
  ·simp [blk] at hb
   omega
end Go.Proofs.Ytmbphlkohlggfab

namespace Go.Proofs.Ytmbphlkohlggfab
set_option maxRecDepth 100000
open Go.RowKit
structure MsgAt (w : World) (m : Mg) (es : List E) (gs : List G) (ms : List (Int × Int)) : Prop where
 ens : Ens w m.ea m.ec es
 el : m.el = es.length
 dgs : Dgs w m.da m.dc gs
 dl : m.dl = gs.length
 mbs : RowD w m.ma m.mc ms
 ml : m.ml = ms.length
theorem MsgAt.off {w w' : World} {m : Mg} {es : List E} {gs : List G} {ms : List (Int × Int)} (h : MsgAt w m es gs ms) (o : Off (fun _ => False) w w') : MsgAt w' m es gs ms := ⟨h.ens.off o, h.el, h.dgs.off o, h.dl, h.mbs.off o, h.ml⟩
theorem RowD.newsX {w : World} {a : Option Addr} {cap : Nat} {l : List (Int × Int)} (h : RowD w a cap l) : (a = none → l = []) ∧ ∀ ad, a = some ad → ∀ j u, (l.flatMap dcs)[j]? = some u → w.cell? (ad.add j) = some u := by
 refine ⟨fun e => ?_, fun ad e j u hj => ?_⟩
 ·cases l with
  | nil => rfl
  | cons v l =>
   obtain ⟨b, off, e1, -⟩ := h.at_ 0 v rfl
   rw [e] at e1
   cases e1
 ·obtain ⟨i, r, x, hx, rfl, hu⟩ := flw_inv dcs_len hj
  obtain ⟨b, off, e1, h1, h2⟩ := h.at_ i x hx
  rw [e] at e1
  simp only [Option.some.injEq] at e1
  subst e1
  rw [add_lit, ← Nat.add_assoc]
  match r, hu with
  | 0, hu => simp [dcs] at hu; rw [← hu]; exact h1
  | 1, hu => simp [dcs] at hu; rw [← hu]; exact h2
  | r + 2, hu => simp [dcs] at hu
theorem OwnG.rowX {e : TypeId} {w : World} {a : Option Addr} {cap : Nat} {ds : List (Int × Int)} (h : OwnG e 2 dcs w a cap ds) : RowD w a cap ds := by
 refine ⟨?_, ?_, fun i d hi => ?_⟩
 ·rcases h.row.2 with ⟨hv, h0⟩ | ⟨g, c, cur, hv, hb, hh, hc, -⟩
  ·omega
  ·simp only [Value.slice.injEq] at hv
   obtain ⟨-, -, rfl⟩ := hv
   exact hc
 ·rcases h.row.2 with ⟨hv, h0⟩ | ⟨g, c, cur, hv, hb, hh, hc, hm, -⟩
  ·simp only [Value.slice.injEq] at hv
   omega
  ·simp only [Value.slice.injEq] at hv
   obtain ⟨-, -, rfl⟩ := hv
   unfold maxLen at hm
   omega
 ·obtain ⟨g, rfl, hc⟩ := h.at_ dcs_len hi
  refine ⟨g, 0, rfl, ?_, ?_⟩
  ·have := hc 0 _ rfl
   simpa using this
  ·have := hc 1 _ rfl
   simpa using this
end Go.Proofs.Ytmbphlkohlggfab
