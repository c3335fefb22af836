/- Items of several texts. -/
import Derived.Lib.Bytealg
import Derived.Lib.BytesEntry
import Derived.Laws.Externs
import Derived.Deep.RegionWith
import Derived.Test.YtmbphlkohlggfaaAMay
namespace Go.Proofs.Ytmbphlkohlggfaa
open Go.RowKit
theorem bclone_any (t : Option Addr) (c : Nat) (bs : List Nat) (hb : bs.length ≤ 140737488355328) (w : World) (hs : Src w t c bs) :
  Calls Try.prog 61 #[.slice t bs.length c] w fun e w' => ∃ t' c', e = .returned (.slice t' bs.length c') ∧ OwnR w' t' c' bs ∧ (∀ k, blk t' = some k → w.heap.size ≤ k) ∧ Off (fun _ => False) w w' := by
 have hq := eql_nil
 rcases hs.is with ⟨rfl, rfl, rfl⟩ | ⟨ad, rfl, -⟩
 ·go_enter Try.func61, Try.ntmps61
  go_wp2
  go_ret
  exact ⟨none, 0, rfl, OwnR.nil w, fun k hk => by simp [blk] at hk, Off.refl _ w⟩
 ·have HS : Hid (Src w (some ad) c bs) := hs
  clear hs
  have L0 : OwnR (w.alloc (.cells #[] 5)) (some ⟨w.heap.size, 0, none⟩) 0 [] := ⟨World.ownsRow_lit w #[] 0 (Nat.zero_le _) (by decide) rfl⟩
  have O0 : Off (fun _ => False) w (w.alloc (.cells #[] 5)) := (Off.refl _ w).alloc _
  go_enter Try.func61, Try.ntmps61
  go_wp2_with (at_builtin; refine wpList_app rfl (.tmp 5) (.tmp 6) rfl _ 0 [] rfl L0 _ c bs rfl (HS.out.off O0 (fun _ _ _ h => h)) (by simpa using hb) ?_; intro t' c' w' ys hys own' off' at')
  go_ret
  obtain rfl : ys = bs := hys.out
  refine ⟨t', c', rfl, own', fun k hk => ?_, O0.trans off' (fun i hi hb => ?_)⟩
  ·rcases at' with a | a
   ·rw [a] at hk
    simp [blk] at hk
    omega
   ·rw [a] at hk
    simp at hk
    omega
  ·simp [blk] at hb
   omega
theorem results_val {fn : Func} {p : Tmp} (h : fn.results = #[.cell p 44]) {tmps : Array Value} {w : World} {b : Nat} {v : V} (hp : tmps.getD p undef = .pointer (some ⟨b, 0, none⟩)) (hc : Cel b 44 #[.int .i64 v.node, .int .i64 v.num, .slice v.ad v.data.length v.cap, .bool v.dead] w) :
  (results fn tmps).run Try.prog w = .ok (.agg #[.int .i64 v.node, .int .i64 v.num, .slice v.ad v.data.length v.cap, .bool v.dead]) w := by
 obtain ⟨d, hd⟩ : ∃ d, Try.prog.underlying 44 = some (.struct d) := ⟨_, Try.underlying44⟩
 exact results_cell_row h tmps w b 44 _ (0, 0) (.struct d) hp hc.is hd rfl (by kernel_rfl)
theorem Cel.st4 {b : Nat} {t : TypeId} {v : V} {w : World} (h : Cel b t #[.int .i64 v.node, .int .i64 v.num, .slice v.ad v.data.length v.cap, .bool v.dead] w) (u : V) : Cel b t #[.int .i64 u.node, .int .i64 u.num, .slice u.ad u.data.length u.cap, .bool u.dead] ((((w.setCell ⟨b, 0, none⟩ (.int .i64 u.node)).setCell ⟨b, 1, none⟩ (.int .i64 u.num)).setCell ⟨b, 2, none⟩ (.slice u.ad u.data.length u.cap)).setCell ⟨b, 3, none⟩ (.bool u.dead)) := by
 replace h := h.set 0 (.int .i64 u.node)
 simp only [List.setIfInBounds_toArray, List.set_cons_zero] at h
 replace h := h.set 1 (.int .i64 u.num)
 simp only [lsA, lsZ, lsS] at h
 replace h := h.set 2 (.slice u.ad u.data.length u.cap)
 simp only [lsA, lsZ, lsS] at h
 replace h := h.set 3 (.bool u.dead)
 simp only [lsA, lsZ, lsS] at h
 exact h
theorem Off.st4 {D : Nat → Prop} {a w : World} {b : Nat} (h : Off D a w) (hb : D b ∨ a.heap.size ≤ b) (u : V) : Off D a ((((w.setCell ⟨b, 0, none⟩ (.int .i64 u.node)).setCell ⟨b, 1, none⟩ (.int .i64 u.num)).setCell ⟨b, 2, none⟩ (.slice u.ad u.data.length u.cap)).setCell ⟨b, 3, none⟩ (.bool u.dead)) :=
 (((h.setCell hb _).setCell hb _).setCell hb _).setCell hb _
def zeroV : V := ⟨0, 0, none, 0, [], false⟩
end Go.Proofs.Ytmbphlkohlggfaa

namespace Go.Proofs.Ytmbphlkohlggfaa
open Go.RowKit
def vcs : List V → List Value
 | [] => []
 | v :: l => .int .i64 v.node :: .int .i64 v.num :: .slice v.ad v.data.length v.cap :: .bool v.dead :: vcs l
theorem vcs_get {l : List V} {i : Nat} {v : V} (h : l[i]? = some v) : (vcs l)[i * 4]? = some (.int .i64 v.node) ∧ (vcs l)[i * 4 + 1]? = some (.int .i64 v.num) ∧ (vcs l)[i * 4 + 2]? = some (.slice v.ad v.data.length v.cap) ∧ (vcs l)[i * 4 + 3]? = some (.bool v.dead) := by
 induction l generalizing i with
 | nil => simp at h
 | cons u l ih =>
  cases i with
  | zero => simp at h; subst h; simp [vcs]
  | succ i =>
   have := ih (i := i) (by simpa using h)
   simpa [vcs, Nat.succ_mul, Nat.add_right_comm] using this
structure OwnV (w : World) (a : Option Addr) (cap : Nat) (l : List V) : Prop where
 row : w.ownsRow 0 44 4 (.slice a l.length cap) l.length (vcs l)
theorem OwnV.toRow {w : World} {a : Option Addr} {cap : Nat} {l : List V} (h : OwnV w a cap l) (hk : ∀ v ∈ l, VOk w v) : Row w a cap l := by
 rcases h.row.2 with ⟨hv, h0⟩ | ⟨g, c, cur, hv, hb, hh, hc, hm, -⟩
 ·simp only [Value.slice.injEq] at hv
  obtain rfl : l = [] := List.eq_nil_of_length_eq_zero h0
  exact ⟨by simp, by omega, fun i v h => by simp at h⟩
 ·simp only [Value.slice.injEq] at hv
  obtain ⟨rfl, -, rfl⟩ := hv
  refine ⟨hc, by unfold maxLen at hm; omega, fun i v hi => ⟨g, 0, rfl, ?_, hk v (List.mem_of_getElem? hi)⟩⟩
  have hx := World.ownsRow.cells h.row (g := g) rfl
  obtain ⟨g0, g1, g2, g3⟩ := vcs_get hi
  have k0 := hx _ _ g0
  have k1 := hx _ _ g1
  have k2 := hx _ _ g2
  have k3 := hx _ _ g3
  rw [add_lit] at k0 k1 k2 k3
  exact ⟨k0, k1, k2, k3⟩
theorem cont_append (a b : List V) : cont (a ++ b) = cont a ++ cont b := by simp [cont]
end Go.Proofs.Ytmbphlkohlggfaa

namespace Go.Proofs.Ytmbphlkohlggfaa
open Go.RowKit
structure Made (N : Nat) (w : World) (a : Option Addr) (cap : Nat) (l : List V) : Prop where
 row : Row w a cap l
 own : ∀ v ∈ l, OwnR w v.ad v.cap v.data ∧ ∀ k, blk v.ad = some k → N ≤ k ∧ blk a ≠ some k
 lo : ∀ k, blk a = some k → N ≤ k
theorem Made.off {N : Nat} {w w' : World} {a : Option Addr} {cap : Nat} {l : List V} (h : Made N w a cap l) (o : Off (fun _ => False) w w') : Made N w' a cap l :=
 ⟨h.row.off o, fun v hv => ⟨(h.own v hv).1.off o (fun _ _ _ h => h), (h.own v hv).2⟩, h.lo⟩
theorem Made.offN {D : Nat → Prop} {N : Nat} {w w' : World} {a : Option Addr} {cap : Nat} {l : List V} (h : Made N w a cap l) (o : Off D w w') (hD : ∀ k, N ≤ k → ¬ D k) : Made N w' a cap l :=
 ⟨h.row.offD o (fun c _ hc => hD c (h.lo c hc)) (fun v hv c _ hc => hD c ((h.own v hv).2 c hc).1), fun v hv => ⟨(h.own v hv).1.off o (fun c _ hc => hD c ((h.own v hv).2 c hc).1), (h.own v hv).2⟩, h.lo⟩
theorem Made.mono {N M : Nat} {w : World} {a : Option Addr} {cap : Nat} {l : List V} (h : Made N w a cap l) (hM : M ≤ N) : Made M w a cap l :=
 ⟨h.row, fun v hv => ⟨(h.own v hv).1, fun k hk => ⟨Nat.le_trans hM ((h.own v hv).2 k hk).1, ((h.own v hv).2 k hk).2⟩⟩, fun k hk => Nat.le_trans hM (h.lo k hk)⟩
theorem OwnV.made {N : Nat} {w : World} {a : Option Addr} {cap : Nat} {l : List V} (h : OwnV w a cap l) (hv : ∀ v ∈ l, VOk w v ∧ OwnR w v.ad v.cap v.data ∧ ∀ k, blk v.ad = some k → N ≤ k ∧ blk a ≠ some k) (ha : ∀ k, blk a = some k → N ≤ k) : Made N w a cap l :=
 ⟨h.toRow (fun v hx => (hv v hx).1), fun v hx => (hv v hx).2, ha⟩
end Go.Proofs.Ytmbphlkohlggfaa
