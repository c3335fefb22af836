/- Items of several texts. -/
import Derived.Deep.RegionHeld
import Derived.Deep.Cut
import Derived.Test.YtmbphlkohlggfaaGreatAGMay
import Derived.Test.YtmbphlkohlggfaaGreatADot5
import Derived.Test.YtmbphlkohlggfaaGreatADg0
import Derived.Test.YtmbphlkohlggfaaGreatABks
import Derived.Test.YtmbphlkohlggfaaGreatADmy
import Derived.Test.YtmbphlkohlggfaaGreatASRe
import Derived.Test.YtmbphlkohlggfaaGreatAGRe
import Derived.Test.YtmbphlkohlggfaaGreatANodP
namespace Go.Proofs.YtmbphlkohlggfaaGreat
open Go.RowKit
theorem app_one {α : Type} {t e : TypeId} {size bytes : Nat} {z : Value} {cs : α → List Value}
  (hu : Tryz.prog.underlying t = some (.slice e)) (hinfo : (Tryz.prog.info? e).map (fun i => (i.zero, i.size, i.bytes)) = some (some z, size, bytes)) (hz : z.cells.size = size) (hsz : 0 < size) (hby : bytes ≤ 1000) (hcs : ∀ x, (cs x).length = size) (h1 : ∀ x, ∀ u ∈ cs x, u.oneCell' = true)
  {w : World} {tad : Option Addr} {cap : Nat} {l : List α} (own : OwnG e size cs w tad cap l) {g xc : Nat} {x : α} (src : ∀ j u, (cs x)[j]? = some u → w.cell? ⟨g, j, none⟩ = some u) (hb : l.length ≤ 1000000) (ty : TypeId) :
  ∃ t' c' w', (Builtin.append_ #[t, t] ty #[.slice tad l.length cap, .slice (some ⟨g, 0, none⟩) 1 xc]).run Tryz.prog w = .ok (.slice t' (l ++ [x]).length c') w' ∧ OwnG e size cs w' t' c' (l ++ [x]) ∧ Off (fun c => blk tad = some c) w w' ∧ (blk t' = blk tad ∨ blk t' = some w.heap.size) := by
 obtain ⟨i0, hi, hz0, hz1, hz2⟩ := info_parts hinfo
 have fl : ([x].flatMap cs) = cs x := by simp
 have hbm : (l.length + 1) * bytes ≤ 140737488355328 := Nat.le_trans (Nat.mul_le_mul_left _ hby) (by omega)
 obtain ⟨v', w', hr, own', grow', -, hat⟩ := run_append_own_at (P := Tryz.prog) w 0 t ty e i0 z size bytes hu hi hz0 hz1 hz2 hz hsz _ _ _ own.row ⟨g, 0, none⟩ 1 xc ([x].flatMap cs) (by rw [fl, hcs, Nat.one_mul]) (fun j u hj => by
  rw [fl] at hj
  rw [add_lit, Nat.zero_add]
  exact src j u hj) (fun u hu => by
   rw [fl] at hu
   exact h1 x u hu) (by unfold maxLen; omega) hbm (Nat.zero_le _)
 rw [← List.flatMap_append] at own'
 have el : l.length + 1 = (l ++ [x]).length := by simp
 rw [el] at own'
 obtain ⟨t', c', rfl⟩ : ∃ t' c', v' = .slice t' (l ++ [x]).length c' := by
  rcases own'.2 with ⟨rfl, h0⟩ | ⟨g, c, cur, hv, -⟩
  ·exact ⟨none, 0, by rw [h0]⟩
  ·exact ⟨_, _, hv⟩
 rw [blk_own, blk_own] at hat
 rw [blk_own] at grow'
 exact ⟨t', c', w', hr, ⟨own'⟩, (Off.refl _ w).grown grow' (fun k hk => .inl hk), hat⟩
end Go.Proofs.YtmbphlkohlggfaaGreat

namespace Go.Proofs.YtmbphlkohlggfaaGreat
open Go.RowKit
theorem results_dig {fn : Func} {p u : Tmp} (h : fn.results = #[.cell p 49, .tmp u]) {tmps : Array Value} {w : World} {b : Nat} {x0 x1 x2 x3 x4 x5 x6 x7 x8 x9 : Value} (hp : tmps.getD p undef = .pointer (some ⟨b, 0, none⟩)) {v : Value} (hu : tmps.getD u undef = v) (hc : Cel b 49 #[x0, x1, x2, x3, x4, x5, x6, x7, x8, x9] w) :
  (results fn tmps).run Tryz.prog w = .ok (.tuple #[.agg #[x0, x1, x2, x3, x4, x5, x6, x7, x8, x9], v]) w := by
 rw [results_cell_tmp h]
 have ha : (asAddr (.pointer (some ⟨b, 0, none⟩))).run Tryz.prog w = .ok ⟨b, 0, none⟩ w := rfl
 rw [hp, hu, ha]
 obtain ⟨d, hd⟩ : ∃ d, Tryz.prog.underlying 49 = some (.struct d) := ⟨_, Tryz.underlying49⟩
 have hv := run_loadVar_row (P := Tryz.prog) w b 49 49 _ (0, 0) (.struct d) hc.is hd rfl (by kernel_rfl)
 simp only [Result.andThen, hv]
structure NewA (N : Nat) (a : Option Addr) : Prop where
 lo : ∀ k, blk a = some k → N ≤ k
theorem NewA.none (N : Nat) : NewA N none := ⟨fun k hk => by simp [blk] at hk⟩
def rdDt (nd : Nat → Int) (s : RS) : Int × Int := (nd (numS s).1, (intS (numS s).2).1)
def dtSt (s : RS) : Nat → RS
 | 0 => s
 | n + 1 => (intS (numS (dtSt s n)).2).2
def rdDs (nd : Nat → Int) (n : Nat) (s : RS) : List (Int × Int) := (List.range n).map fun i => rdDt nd (dtSt s i)
theorem rdDs_succ (nd : Nat → Int) (n : Nat) (s : RS) : rdDs nd (n + 1) s = rdDs nd n s ++ [rdDt nd (dtSt s n)] := by simp [rdDs, List.range_succ]
def drT (s : RS) : RS := (textS 32 s).2
def drK (s : RS) : ByteArray := strOf (textS 32 s).1
def drD (nd : Nat → Int) (s : RS) : List (Int × Int) := rdDs nd (countS 16 (rdV (drT s) 8)).1 (countS 16 (rdV (drT s) 8)).2
def drS (s : RS) : RS := dtSt (countS 16 (rdV (drT s) 8)).2 (countS 16 (rdV (drT s) 8)).1
def drB (nd : Nat → Int) (s : RS) : Bool := readB (drT s) && (decide ((drS s).2 = 0) && mayD ⟨drK s, readF (drT s), drD nd s⟩)
def drKey (nd : Nat → Int) (s : RS) : ByteArray := if drB nd s = true then drK s else ⟨#[]⟩
def drF (nd : Nat → Int) (s : RS) : Nat → Int := if drB nd s = true then readF (drT s) else zer
def drL (nd : Nat → Int) (s : RS) : List (Int × Int) := if drB nd s = true then drD nd s else []
theorem dr_no {nd : Nat → Int} {s : RS} (e : drB nd s = false) : ⟨#[]⟩ = drKey nd s ∧ zer = drF nd s ∧ [] = drL nd s := by simp [drKey, drF, drL, e]
theorem dr_yes {nd : Nat → Int} {s : RS} (e : drB nd s = true) : drK s = drKey nd s ∧ readF (drT s) = drF nd s ∧ drD nd s = drL nd s := by simp [drKey, drF, drL, e]
theorem Cel.vec9 {b : Nat} {t : TypeId} {x0 x1 x2 x3 x4 x5 x6 x7 x8 x9 : Value} {w : World} (h : Cel b t #[x0, x1, x2, x3, x4, x5, x6, x7, x8, x9] w) (f : Nat → Int) : Cel b t #[x0, .int .i64 (f 0), .int .i64 (f 1), .int .i64 (f 2), .int .i64 (f 3), .int .i64 (f 4), .int .i64 (f 5), .int .i64 (f 6), .int .i64 (f 7), x9] ((((((((w.setCell ⟨b, 1, none⟩ (.int .i64 (f 0))).setCell ⟨b, 2, none⟩ (.int .i64 (f 1))).setCell ⟨b, 3, none⟩ (.int .i64 (f 2))).setCell ⟨b, 4, none⟩ (.int .i64 (f 3))).setCell ⟨b, 5, none⟩ (.int .i64 (f 4))).setCell ⟨b, 6, none⟩ (.int .i64 (f 5))).setCell ⟨b, 7, none⟩ (.int .i64 (f 6))).setCell ⟨b, 8, none⟩ (.int .i64 (f 7))) := by
 have h1 := (((((((h.set 1 (.int .i64 (f 0))).set 2 (.int .i64 (f 1))).set 3 (.int .i64 (f 2))).set 4 (.int .i64 (f 3))).set 5 (.int .i64 (f 4))).set 6 (.int .i64 (f 5))).set 7 (.int .i64 (f 6))).set 8 (.int .i64 (f 7))
 simpa using h1
theorem Off.vec9 {D : Nat → Prop} {a w : World} {b : Nat} (h : Off D a w) (hb : D b ∨ a.heap.size ≤ b) (f : Nat → Int) : Off D a ((((((((w.setCell ⟨b, 1, none⟩ (.int .i64 (f 0))).setCell ⟨b, 2, none⟩ (.int .i64 (f 1))).setCell ⟨b, 3, none⟩ (.int .i64 (f 2))).setCell ⟨b, 4, none⟩ (.int .i64 (f 3))).setCell ⟨b, 5, none⟩ (.int .i64 (f 4))).setCell ⟨b, 6, none⟩ (.int .i64 (f 5))).setCell ⟨b, 7, none⟩ (.int .i64 (f 6))).setCell ⟨b, 8, none⟩ (.int .i64 (f 7))) :=
 (((((((h.setCell (p := ⟨b, 1, none⟩) hb _).setCell (p := ⟨b, 2, none⟩) hb _).setCell (p := ⟨b, 3, none⟩) hb _).setCell (p := ⟨b, 4, none⟩) hb _).setCell (p := ⟨b, 5, none⟩) hb _).setCell (p := ⟨b, 6, none⟩) hb _).setCell (p := ⟨b, 7, none⟩) hb _).setCell (p := ⟨b, 8, none⟩) hb _
theorem dfailed_any {D : Nat → Prop} {b : Nat} {s : RS} {w : World} (hR : Rdr 96 D b s w) :
  Calls Tryz.prog 93 #[.pointer (some ⟨b, 0, none⟩)] w fun e w' => e = .returned (.bool (!decide (s.2 = 0))) ∧ w' = w := by
 have HR : Hid _ := hR
 have hok := hR.ok
 clear hR
 by_cases h0 : s.1.length = 0
 ·have e0 : (((s.1.length : Nat) : Int) == 0) = true := by simp [h0]
  have he : endS s = s.2 := by
   have : s.1 = [] := List.eq_nil_of_length_eq_zero h0
   simp [endS, this]
  have e1 : ((((endS s : Nat) : Int)) != 0) = !decide (s.2 = 0) := by
   rw [he]
   by_cases h2 : s.2 = 0
   ·simp [h2]
   ·have : (((s.2 : Nat) : Int) != 0) = true := by simp [h2]
    rw [this]
    simp [h2]
  clear h0 he hok
  go_enter Tryz.func93, Tryz.ntmps93
  go_wp2_with fail
  refine (rleft_any HR.out).mono ?_
  rintro e w1 ⟨rfl, hw⟩
  rw [hw]; clear hw w1
  go_wp2_with fail
  refine (rend_any HR.out).mono ?_
  rintro e w1 ⟨rfl, hw⟩
  rw [hw]; clear hw w1
  go_wp2_with fail
  go_ret
  exact ⟨rfl, rfl⟩
 ·have e0 : (((s.1.length : Nat) : Int) == 0) = false := by rw [beq_eq_false_iff_ne]; omega
  have h2 : s.2 = 0 := by
   rcases Nat.eq_zero_or_pos s.2 with h | h
   ·exact h
   ·have := hok.2.1 (by omega)
    simp [this] at h0
  have e1 : Hid ((!decide (s.2 = 0)) = false) := (show (!decide (s.2 = 0)) = false by simp [h2])
  clear h0 h2 hok
  go_enter Tryz.func93, Tryz.ntmps93
  go_wp2_with fail
  refine (rleft_any HR.out).mono ?_
  rintro e w1 ⟨rfl, hw⟩
  rw [hw]; clear hw w1
  go_wp2_with fail
  go_ret
  rw [e1.out]
  exact ⟨rfl, rfl⟩
set_option maxRecDepth 100000 in
set_option maxHeartbeats 1000000 in
theorem dreadDot_any {D : Nat → Prop} {b : Nat} {s : RS} {w : World} (hR : Rdr 96 D b s w) :
  Calls Tryz.prog 92 #[.pointer (some ⟨b, 0, none⟩)] w fun e w' => e = .returned (.agg #[.int .i64 (nodeP (numS s).1), .int .i64 (intS (numS s).2).1]) ∧ Rdr 96 D b (intS (numS s).2).2 w' ∧ Off (fun c => c = b) w w' := by
 have HB : Hid (b < w.heap.size) := hR.here
 have HLD : Hid (∀ c, D c → c < w.heap.size) := hR.lt
 obtain ⟨n, hn⟩ : ∃ x, x = (numS s).1 := ⟨_, rfl⟩
 obtain ⟨s1, hs1⟩ : ∃ x, x = (numS s).2 := ⟨_, rfl⟩
 obtain ⟨i, hi⟩ : ∃ x, x = (intS s1).1 := ⟨_, rfl⟩
 obtain ⟨s2, hs2⟩ : ∃ x, x = (intS s1).2 := ⟨_, rfl⟩
 obtain ⟨nd, hnd⟩ : ∃ x, x = nodeP n := ⟨_, rfl⟩
 have HE1 : Hid (numS s = (n, s1)) := by show _ = _; rw [hn, hs1]
 have HE2 : Hid (intS s1 = (i, s2)) := by show _ = _; rw [hi, hs2]
 rw [← hn, ← hs1, ← hi, ← hs2, ← hnd]
 have hwn : RowKit.wrap64 (n : Int) = nd := by rw [hnd]; rfl
 clear hn hs1 hi hs2 hnd
 have C2 := Cel.new w 93 #[.int .i64 0, .int .i64 0]
 have O : Off (fun _ => False) w (w.alloc (.cells #[.int .i64 0, .int .i64 0] 93)) := (Off.refl _ w).alloc _
 have R0 := hR.off O (fun h => h) (fun _ _ _ h => h)
 clear hR
 go_enter Tryz.func92, Tryz.ntmps92
 go_upto_region 1 with fail
 generalize hq : w.heap.size = q2 at C2 ⊢
 have HQ2 : Hid (w.heap.size ≤ q2) := by show _ ≤ _; omega
 generalize hv : w.alloc (.cells #[.int .i64 0, .int .i64 0] 93) = W at C2 O R0 ⊢
 clear hq hv
 go_wp2_with fail
 refine (rnum_any R0).mono ?_
 rw [HE1.out]
 dsimp only
 rintro e v1 ⟨rfl, R1, o1⟩
 replace C2 := C2.off o1 (fun e => by have := HB.out; have := HQ2.out; omega)
 have O1 : Off (fun c => c = b) w v1 := (O.mono (fun _ _ h => h.elim)).trans o1 (fun _ _ h => h)
 clear R0 o1 O
 go_wp2_with fail
 refine (rint_any R1).mono ?_
 rw [HE2.out]
 dsimp only
 rintro e v2 ⟨rfl, R2, o1⟩
 replace C2 := C2.off o1 (fun e => by have := HB.out; have := HQ2.out; omega)
 have O2 := O1.trans o1 (fun _ _ h => h)
 clear R1 o1 O1
 have O3 := O2
 have R3 := R2
 obtain ⟨y0, y1⟩ := cel2 C2
 have fz := C2.free
 have HC2 : Hid _ := C2
 have HR3 : Hid _ := R3
 have HO3 : Hid _ := O3
 clear C2 R2 R3 O2 O3
 go_wp2_with fail
 have E1 := (HC2.out.set 0 (.int .i64 nd))
 simp only [List.setIfInBounds_toArray, List.set_cons_zero] at E1
 have E2 := E1.set 1 (.int .i64 i)
 simp only [lsA, lsZ, lsS] at E2
 refine bodyPost_ret (results_dot1 rfl rfl E2) rfl ?_
 have os := ((Off.refl (fun c => c = q2) v2).setCell (p := ⟨q2, 0, none⟩) (.inl rfl) (.int .i64 nd)).setCell (p := ⟨q2, 1, none⟩) (.inl rfl) (.int .i64 i)
 exact ⟨rfl, HR3.out.off os (fun e => by have := HQ2.out; have := HB.out; omega) (fun c _ hc e => by have := HLD.out c hc; have := HQ2.out; omega), (HO3.out.setCell (p := ⟨q2, 0, none⟩) (.inr HQ2.out) _).setCell (p := ⟨q2, 1, none⟩) (.inr HQ2.out) _⟩
end Go.Proofs.YtmbphlkohlggfaaGreat
