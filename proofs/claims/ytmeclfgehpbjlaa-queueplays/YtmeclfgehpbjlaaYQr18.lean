/- Items of several texts. -/
import Derived.Test.YtmeclfgehpbjlaaYQw18
namespace Go.Proofs.Ytmeclfgehpbjlaa
open Go.RowKit
def spl (l : List Value) (o : Nat) (cs : List Value) : List Value := l.take o ++ cs ++ l.drop (o + cs.length)
theorem spl_len {l : List Value} {o : Nat} {cs : List Value} (h : o + cs.length ≤ l.length) : (spl l o cs).length = l.length := by
 simp [spl]
 omega
theorem spl_lo {l : List Value} {o k : Nat} {cs : List Value} (h : o ≤ l.length) (hk : k ≤ o) : (spl l o cs).take k = l.take k := by
 unfold spl
 rw [List.append_assoc, List.take_append_of_le_length (by rw [List.length_take]; omega), List.take_take, Nat.min_eq_left hk]
theorem spl_in {l : List Value} {o n : Nat} {cs : List Value} (h : o ≤ l.length) (hn : o + cs.length = n) : (spl l o cs).take n = l.take o ++ cs := by
 unfold spl
 rw [List.take_append_of_le_length (by rw [List.length_append, List.length_take]; omega), List.take_of_length_le (by rw [List.length_append, List.length_take]; omega)]
theorem spl_up {l : List Value} {o n : Nat} {cs : List Value} (h : o ≤ l.length) (hn : o + cs.length ≤ n) : (spl l o cs).take n = l.take o ++ cs ++ (l.drop (o + cs.length)).take (n - (o + cs.length)) := by
 unfold spl
 rw [List.take_append, List.take_of_length_le (by rw [List.length_append, List.length_take]; omega), List.length_append, List.length_take, Nat.min_eq_left h]
theorem off_setRow {w : World} {g : Nat} (cs : Array Value) : Off (fun c => c = g) w (w.setRow g cs) :=
 ⟨rfl, rfl, rfl, by simp, fun k _ hk => setRow_other w g k cs hk⟩
theorem Cel.setRow {w : World} {g : Nat} {t : TypeId} {cur : Array Value} (h : Cel g t cur w) (cs : Array Value) : Cel g t cs (w.setRow g cs) := ⟨setRow_heap w g cur cs t _ h.is⟩
theorem copy_run {w : World} {g o dLen dCap : Nat} {a : Addr} {sLen sCap : Nat} {cur : Array Value} {cs : List Value} (hg : Cel g 68 cur w) (n : Nat) (hm : Nat.min sLen dLen = n) (hn : cs.length = n * 11)
  (hsrc : ∀ j v, cs[j]? = some v → w.cell? (a.add j) = some v) (hfit : o + cs.length ≤ cur.size) (h1 : ∀ v ∈ cs, v.oneCell' = true) (ty : TypeId) :
  ∃ w', (Builtin.copy_ #[60, 60] ty #[.slice (some ⟨g, o, none⟩) dLen dCap, .slice (some a) sLen sCap]).run Try.prog w = .ok (goInt n) w' ∧ Cel g 68 (spl cur.toList o cs).toArray w' ∧ Off (fun c => c = g) w w' := by
 obtain ⟨i0, hi, hz0, hz1, hz2⟩ := info_parts Try.infoW
 have hl := run_loadCells_list (P := Try.prog) w a cs hsrc
 have hst := run_storeCells_at Try.prog g o 68 cs 0 cur w hg.is (by simpa using hfit) h1
 refine ⟨_, ?_, hg.setRow _, off_setRow _⟩
 rw [hn] at hl
 simp [Builtin.copy_, run_underlying Try.underlying60, Builtin.lenOf, Builtin.firstCells, sizeOf, typeInfo, hi, hz1, hm, hl, hst, spl]
theorem room_run {w : World} {g i cap : Nat} {a : Addr} {sLen sCap : Nat} {cur : Array Value} {cs : List Value} (hg : Cel g 68 cur w) (hn : cs.length = sLen * 11) (hroom : i + sLen ≤ cap) (hs : cur.size = cap * 11)
  (hsrc : ∀ j v, cs[j]? = some v → w.cell? (a.add j) = some v) (h1 : ∀ v ∈ cs, v.oneCell' = true) (ty : TypeId) :
  ∃ w', (Builtin.append_ #[60, 60] ty #[.slice (some ⟨g, 0, none⟩) i cap, .slice (some a) sLen sCap]).run Try.prog w = .ok (.slice (some ⟨g, 0, none⟩) (i + sLen) cap) w' ∧ Cel g 68 (spl cur.toList (i * 11) cs).toArray w' ∧ Off (fun c => c = g) w w' := by
 obtain ⟨i0, hi, hz0, hz1, hz2⟩ := info_parts Try.infoW
 have hl := run_loadCells_list (P := Try.prog) w a cs hsrc
 have hst := run_storeCells_at Try.prog g (i * 11) 68 cs 0 cur w hg.is (by omega) h1
 refine ⟨_, ?_, hg.setRow _, off_setRow _⟩
 rw [hn] at hl
 have ha : (⟨g, 0, none⟩ : Addr).add (i * 11) = ⟨g, i * 11, none⟩ := by rw [add_lit, Nat.zero_add]
 simp [Builtin.append_, run_underlying Try.underlying60, Builtin.lenOf, Builtin.firstCells, sizeOf, typeInfo, hi, hz1, hroom, hl, ha, hst, spl]
def zW : List Value := [.int .i64 0, .int .i64 0, .int .i64 0, .int .i64 0, .int .i64 0, .string ⟨#[]⟩, .int .i64 0, .slice none 0 0, .slice none 0 0, .slice none 0 0, .int .i64 0]
theorem clear_run {w : World} {g o c : Nat} {cur : Array Value} (hg : Cel g 68 cur w) (hfit : o + 11 ≤ cur.size) (ty : TypeId) :
  ∃ w', (Builtin.clear_ #[60] ty #[.slice (some ⟨g, o, none⟩) 1 c]).run Try.prog w = .ok (.tuple #[]) w' ∧ Cel g 68 (spl cur.toList o zW).toArray w' ∧ Off (fun c => c = g) w w' := by
 obtain ⟨i0, hi, hz0, hz1, hz2⟩ := info_parts Try.infoW
 have hst := run_storeCells_at Try.prog g o 68 zW 0 cur w hg.is (by simpa [zW] using hfit) (by simp [zW, Value.oneCell'])
 refine ⟨_, ?_, hg.setRow _, off_setRow _⟩
 have hz : (Builtin.zeroCells (Value.agg #[.int .i64 0, .int .i64 0, .int .i64 0, .int .i64 0, .int .i64 0, .string ⟨#[]⟩, .int .i64 0, .slice none 0 0, .slice none 0 0, .slice none 0 0, .int .i64 0]).cells 1).toList = zW := by kernel_rfl
 simp [Builtin.clear_, run_underlying Try.underlying60, zeroValue, typeInfo, hi, hz0, hz, hst]
 rw [spl, List.append_assoc]
theorem zeros_run {w : World} {g i cap k : Nat} {olds : List Value} (hl : olds.length = i * 11) (hold : ∀ j v, olds[j]? = some v → w.cell? ⟨g, j, none⟩ = some v) (h0 : 0 < k) (hg : cap < i + k) (hb : i + k ≤ 1000) (ty : TypeId) :
  ∃ g' c' cur w', (Builtin.append_ #[60, 3] ty #[.slice (some ⟨g, 0, none⟩) i cap, .int .i64 (k : Int)]).run Try.prog w = .ok (.slice (some ⟨g', 0, none⟩) (i + k) c') w' ∧ Cel g' 68 cur w' ∧ cur.toList.take (i * 11) = olds ∧ i + k ≤ c' ∧ c' ≤ maxLen ∧ cur.size = c' * 11 ∧ g' = w.heap.size ∧ Off (fun _ => False) w w' := by
 obtain ⟨i0, hi, hz0, hz1, hz2⟩ := info_parts Try.infoW
 have hld : (Builtin.firstCells i0.size i (.slice (some ⟨g, 0, none⟩) i cap)).run Try.prog w.drew = .ok olds.toArray w.drew := by
  have := run_loadCells_list (P := Try.prog) w.drew ⟨g, 0, none⟩ olds (fun j v hj => by rw [add_lit, Nat.zero_add]; exact hold j v hj)
  rw [hl] at this
  simp only [Builtin.firstCells, hz1]
  exact this
 have hnc : Builtin.nextslicecap (i + k) cap ≤ 2000 := by
  unfold Builtin.nextslicecap
  split
  ·omega
  ·split
   ·omega
   ·have : ∀ r c, c ≤ 2000 → Builtin.growBy (i + k) r c ≤ 2000 := by
     intro r
     induction r with
     | zero => intro c hc; exact hc
     | succ r ih =>
      intro c hc
      unfold Builtin.growBy
      split
      ·exact hc
      ·exact ih _ (by omega)
    exact this _ _ (by omega)
 have hr := Lib.run_append_grow_zeros (P := Try.prog) w 60 3 ty 68 i0 _ .i64 .i64 Try.underlying60 Try.underlying3 hi hz0 (some ⟨g, 0, none⟩) i cap olds hld k h0 (by omega) hg (by omega) (by rw [hz2]; omega) (by rw [hz2]; omega)
 have hgc : i + k ≤ grownCap w (i + k) cap 68 ∧ grownCap w (i + k) cap 68 ≤ maxLen := ⟨grownCap_ge w _ _ _, grownCap_le_maxLen w _ _ _ (by unfold maxLen; omega)⟩
 refine ⟨_, _, _, _, hr, ⟨heap_alloc_new _ _⟩, ?_, hgc.1, hgc.2, ?_, rfl, ((Off.refl _ w).drew).alloc _⟩
 ·simp
  rw [List.take_append_of_le_length (by omega), List.take_of_length_le (by omega)]
 ·simp [Builtin.zeroCells, hl, Value.cells]
  omega
theorem app_runW {w : World} {a : Option Addr} {cap : Nat} {l : List Wt} (hown : OwnG 68 11 wcs w a cap l) {b : Option Addr} {cb : Nat} {k : List Wt} (hr : Wns w b cb k) (hz : b = none → cb = 0) (hb : l.length + k.length ≤ 1000000) (ty : TypeId) :
  ∃ a' c' w', (Builtin.append_ #[60, 60] ty #[.slice a l.length cap, .slice b k.length cb]).run Try.prog w = .ok (.slice a' (l ++ k).length c') w' ∧ OwnG 68 11 wcs w' a' c' (l ++ k) ∧ Off (fun c => blk a = some c) w w' ∧ (blk a' = blk a ∨ blk a' = some w.heap.size) := by
 obtain ⟨i0, hi, hz0, hz1, hz2⟩ := info_parts Try.infoW
 cases b with
 | none =>
  obtain rfl : cb = 0 := hz rfl
  obtain rfl : k = [] := List.eq_nil_of_length_eq_zero (by have := hr.len; omega)
  refine ⟨a, cap, w, ?_, by rw [List.append_nil]; exact hown, Off.refl _ w, .inl rfl⟩
  rw [List.append_nil]
  exact run_append_owned_none (P := Try.prog) (w := w) 0 60 ty 68 i0 11 Try.underlying60 hi _ _ _ hown.row
 | some ad =>
  obtain ⟨v', w', hrun, own', grow', -, hat⟩ := run_append_own_at (P := Try.prog) w 0 60 ty 68 i0 _ 11 144 Try.underlying60 hi hz0 hz1 hz2 rfl (by decide) _ _ _ hown.row ad k.length cb (k.flatMap wcs) (flw_len wcs_len k) hr.news (flw_one wcs_one k) (by unfold maxLen; omega) (by omega) (Nat.zero_le _)
  rw [← List.flatMap_append, ← List.length_append] at own'
  obtain ⟨t', c', rfl⟩ : ∃ t' c', v' = .slice t' (l ++ k).length c' := by
   rcases own'.2 with ⟨rfl, h0⟩ | ⟨g, c, cur, hv, -⟩
   ·exact ⟨none, 0, by rw [h0]⟩
   ·exact ⟨_, _, hv⟩
  rw [blk_own, blk_own] at hat
  rw [blk_own] at grow'
  exact ⟨t', c', w', hrun, ⟨own'⟩, (Off.refl _ w).grown grow' (fun k hk => .inl hk), hat⟩
theorem wpList_appW {w : World} {ops : Array Oper} {rest : List Oper} {o : Oper} {a : Act} {Q : Exit → Act → World → Prop} (hgd : o.guard = none) (s x : Operand)
  (ho : o.op = .call { callee := .builtin .append, args := #[s, x], argTypes := #[60, 60] })
  (tad : Option Addr) (cap : Nat) (l : List Wt) (hs : a.eval s = .slice tad l.length cap) (hown : OwnG 68 11 wcs w tad cap l)
  (xt : Option Addr) (xc : Nat) (k : List Wt) (hx : a.eval x = .slice xt k.length xc) (hr : Wns w xt xc k) (hz : xt = none → xc = 0) (hb : l.length + k.length ≤ 1000000)
  (h : ∀ t' c' w' ys, Hid (ys = l ++ k) → OwnG 68 11 wcs w' t' c' ys → Off (fun c => blk tad = some c) w w' → (blk t' = blk tad ∨ blk t' = some w.heap.size) → wpList Try.prog ops Q rest (a.put o.dst (.slice t' ys.length c')) w') :
  wpList Try.prog ops Q (o :: rest) a w := by
 obtain ⟨a', c', w', hrun, own, off, hat⟩ := app_runW hown hr hz hb o.type
 refine wpList_plain hgd fun K' hK' => ?_
 unfold Oper.wp
 simp only [execOp, ho, resolve, invoke, builtin, Sem.run_bind, Sem.run_pure, Result.andThen_ok, List.map_toArray, List.map_cons, List.map_nil, hs, hx, hrun]
 exact hK' _ _ (h a' c' w' _ (show l ++ k = l ++ k from rfl) own off hat)
end Go.Proofs.Ytmeclfgehpbjlaa
