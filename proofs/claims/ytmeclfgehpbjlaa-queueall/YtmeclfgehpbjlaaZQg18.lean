/- Items of several texts. -/
import Derived.Test.YtmeclfgehpbjlaaZArgb18
import Derived.Test.YtmeclfgehpbjlaaZQe18
namespace Go.Proofs.Ytmeclfgehpbjlaa
set_option maxRecDepth 100000
open Go.RowKit
def Rn (f : NF) (m : Mg) (v : World) : Prop := ∃ (es : List E) (gs : List G) (ms : List (Int × Int)), MsgAt v m es gs ms ∧ nfM m es gs ms = f
theorem Rn.off {f : NF} {m : Mg} {v v' : World} (h : Rn f m v) (o : Off (fun _ => False) v v') : Rn f m v' := by
 obtain ⟨es, gs, ms, h1, h2⟩ := h
 exact ⟨es, gs, ms, h1.off o, h2⟩
def rcs (x : Mg × NF) : List Value := mcs x.1
theorem rcs_len (x : Mg × NF) : (rcs x).length = 10 := rfl
theorem rcs_one (x : Mg × NF) : ∀ u ∈ rcs x, u.oneCell' = true := by simp [rcs, mcs, Value.oneCell']
theorem Try.infoMr : (Try.prog.info? 31).map (fun i => (i.zero, i.size, i.bytes)) = some (some (.agg #[.int .i64 0, .int .i64 0, .int .i64 0, .int .i64 0, .int .i64 0, .string ⟨#[]⟩, .int .i64 0, .slice none 0 0, .slice none 0 0, .slice none 0 0]), 10, 136) := by kernel_rfl
theorem celw12 {b : Nat} {t : TypeId} {s0 s1 s2 s3 s4 s5 s6 s7 s8 s9 s10 s11 : Value} {w : World} (h : Cel b t #[s0, s1, s2, s3, s4, s5, s6, s7, s8, s9, s10, s11] w) : w.cell? ⟨b, 0, none⟩ = some s0 ∧ w.cell? ⟨b, 1, none⟩ = some s1 ∧ w.cell? ⟨b, 2, none⟩ = some s2 ∧ w.cell? ⟨b, 3, none⟩ = some s3 ∧ w.cell? ⟨b, 4, none⟩ = some s4 ∧ w.cell? ⟨b, 5, none⟩ = some s5 ∧ w.cell? ⟨b, 6, none⟩ = some s6 ∧ w.cell? ⟨b, 7, none⟩ = some s7 ∧ w.cell? ⟨b, 8, none⟩ = some s8 ∧ w.cell? ⟨b, 9, none⟩ = some s9 ∧ w.cell? ⟨b, 10, none⟩ = some s10 ∧ w.cell? ⟨b, 11, none⟩ = some s11 :=
 ⟨h.cell 0, h.cell 1, h.cell 2, h.cell 3, h.cell 4, h.cell 5, h.cell 6, h.cell 7, h.cell 8, h.cell 9, h.cell 10, h.cell 11⟩
theorem Cls.cells {w : World} {a : Option Addr} {cap : Nat} {cs : List Cl} (h : Cls w a cap cs) {i : Nat} {c : Cl} (hi : cs[i]? = some c) : ∃ b off, a = some ⟨b, off, none⟩ ∧ ∀ w', Off (fun _ => False) w w' → w'.cell? ⟨b, off + i * 12, none⟩ = some (.int .i64 c.k) ∧ w'.cell? ⟨b, off + i * 12 + 1, none⟩ = some (.int .i64 c.u) ∧ w'.cell? ⟨b, off + i * 12 + 2, none⟩ = some (.int .i64 c.m.k) ∧ w'.cell? ⟨b, off + i * 12 + 3, none⟩ = some (.int .i64 c.m.fr) ∧ w'.cell? ⟨b, off + i * 12 + 4, none⟩ = some (.int .i64 c.m.tn) ∧ w'.cell? ⟨b, off + i * 12 + 5, none⟩ = some (.int .i64 c.m.op) ∧ w'.cell? ⟨b, off + i * 12 + 6, none⟩ = some (.int .i64 c.m.fo) ∧ w'.cell? ⟨b, off + i * 12 + 7, none⟩ = some (.string c.m.key) ∧ w'.cell? ⟨b, off + i * 12 + 8, none⟩ = some (.int .i64 c.m.bk) ∧ w'.cell? ⟨b, off + i * 12 + 9, none⟩ = some (.slice c.m.ea c.m.el c.m.ec) ∧ w'.cell? ⟨b, off + i * 12 + 10, none⟩ = some (.slice c.m.da c.m.dl c.m.dc) ∧ w'.cell? ⟨b, off + i * 12 + 11, none⟩ = some (.slice c.m.ma c.m.ml c.m.mc) := by
 obtain ⟨b, off, rfl, h1, -⟩ := h.at_ i c hi
 refine ⟨b, off, rfl, fun w' o => ?_⟩
 have f : ∀ j u, (clcs c)[j]? = some u → w'.cell? ⟨b, off + i * 12 + j, none⟩ = some u := fun j u hj => by
  have h2 := h1 j u hj
  rw [← h2]
  exact World.cell?_of_block (a := ⟨b, off + i * 12 + j, none⟩) (o.block b (cell_lt h2) (fun h => h))
 exact ⟨f 0 _ rfl, f 1 _ rfl, f 2 _ rfl, f 3 _ rfl, f 4 _ rfl, f 5 _ rfl, f 6 _ rfl, f 7 _ rfl, f 8 _ rfl, f 9 _ rfl, f 10 _ rfl, f 11 _ rfl⟩
set_option maxHeartbeats 2000000 in
theorem light_any (k u : Int) (m : Mg) (w : World) (he : m.el ≤ 9223372036854775807) (hd : m.dl ≤ 9223372036854775807) (hm : m.ml ≤ 9223372036854775807) :
  Calls Try.prog 11 #[.agg #[.int .i64 k, .int .i64 u, .int .i64 m.k, .int .i64 m.fr, .int .i64 m.tn, .int .i64 m.op, .int .i64 m.fo, .string m.key, .int .i64 m.bk, .slice m.ea m.el m.ec, .slice m.da m.dl m.dc, .slice m.ma m.ml m.mc]] w fun e w' => ∃ b : Bool, e = .returned (.bool b) ∧ (b = true → m.el ≤ 3 ∧ m.dl ≤ 3 ∧ m.ml ≤ 10) ∧ Off (fun _ => False) w w' := by
 obtain ⟨W, hW⟩ : ∃ W, W = w.alloc (.cells #[.int .i64 k, .int .i64 u, .int .i64 m.k, .int .i64 m.fr, .int .i64 m.tn, .int .i64 m.op, .int .i64 m.fo, .string m.key, .int .i64 m.bk, .slice m.ea m.el m.ec, .slice m.da m.dl m.dc, .slice m.ma m.ml m.mc] 33) := ⟨_, rfl⟩
 have O : Off (fun _ => False) w W := by rw [hW]; exact (Off.refl _ w).alloc _
 have C0 : Cel w.heap.size 33 #[.int .i64 k, .int .i64 u, .int .i64 m.k, .int .i64 m.fr, .int .i64 m.tn, .int .i64 m.op, .int .i64 m.fo, .string m.key, .int .i64 m.bk, .slice m.ea m.el m.ec, .slice m.da m.dl m.dc, .slice m.ma m.ml m.mc] W := by rw [hW]; exact Cel.new w _ _
 go_enter Try.func11, Try.ntmps11
 go_upto_region 1 with fail
 rw [← hW]
 have HO : Hid _ := O
 obtain ⟨x0, x1, x2, x3, x4, x5, x6, x7, x8, x9, x10, x11⟩ := celw12 C0
 clear hW O C0
 generalize w.heap.size = b at x0 x1 x2 x3 x4 x5 x6 x7 x8 x9 x10 x11 ⊢
 by_cases h1 : m.el ≤ 3
 ·have d1 : decide ((m.el : Int) ≤ 3) = true := decide_eq_true (by omega)
  have d1' : decide (m.el ≤ 3) = true := decide_eq_true h1
  by_cases h2 : m.dl ≤ 3
  ·have d2 : decide ((m.dl : Int) ≤ 3) = true := decide_eq_true (by omega)
   have d2' : decide (m.dl ≤ 3) = true := decide_eq_true h2
   by_cases h3 : m.ml ≤ 10
   ·have d3 : decide ((m.ml : Int) ≤ 10) = true := decide_eq_true (by omega)
    have d3' : decide (m.ml ≤ 10) = true := decide_eq_true h3
    go_wp2_with fail
    go_ret
    exact ⟨true, rfl, fun _ => ⟨h1, h2, h3⟩, HO.out⟩
   ·have d3 : decide ((m.ml : Int) ≤ 10) = false := decide_eq_false (by omega)
    have d3' : decide (m.ml ≤ 10) = false := decide_eq_false h3
    go_wp2_with fail
    go_ret
    exact ⟨false, rfl, (fun h => by cases h), HO.out⟩
  ·have d2 : decide ((m.dl : Int) ≤ 3) = false := decide_eq_false (by omega)
   have d2' : decide (m.dl ≤ 3) = false := decide_eq_false h2
   go_wp2_with fail
   go_ret
   exact ⟨false, rfl, (fun h => by cases h), HO.out⟩
 ·have d1 : decide ((m.el : Int) ≤ 3) = false := decide_eq_false (by omega)
  have d1' : decide (m.el ≤ 3) = false := decide_eq_false h1
  go_wp2_with fail
  go_ret
  exact ⟨false, rfl, (fun h => by cases h), HO.out⟩
theorem room_runM {w : World} {g i cap : Nat} {a : Addr} {sLen sCap : Nat} {cur : Array Value} {cs : List Value} (hg : Cel g 31 cur w) (hn : cs.length = sLen * 10) (hroom : i + sLen ≤ cap) (hs : cur.size = cap * 10)
  (hsrc : ∀ j v, cs[j]? = some v → w.cell? (a.add j) = some v) (h1 : ∀ v ∈ cs, v.oneCell' = true) (ty : TypeId) :
  ∃ w', (Builtin.append_ #[56, 56] ty #[.slice (some ⟨g, 0, none⟩) i cap, .slice (some a) sLen sCap]).run Try.prog w = .ok (.slice (some ⟨g, 0, none⟩) (i + sLen) cap) w' ∧ Cel g 31 (spl cur.toList (i * 10) cs).toArray w' ∧ Off (fun c => c = g) w w' := by
 obtain ⟨i0, hi, hz0, hz1, hz2⟩ := info_parts Try.infoMr
 have hl := run_loadCells_list (P := Try.prog) w a cs hsrc
 have hst := run_storeCells_at Try.prog g (i * 10) 31 cs 0 cur w hg.is (by omega) h1
 refine ⟨_, ?_, hg.setRow _, off_setRow _⟩
 rw [hn] at hl
 have ha : (⟨g, 0, none⟩ : Addr).add (i * 10) = ⟨g, i * 10, none⟩ := by rw [add_lit, Nat.zero_add]
 simp [Builtin.append_, run_underlying Try.underlying56, Builtin.lenOf, Builtin.firstCells, sizeOf, typeInfo, hi, hz1, hroom, hl, ha, hst, spl]
theorem sizeM (W : World) : (sizeOf (Try.prog.elem 56)).run Try.prog W = .ok 10 W := by
 have : Try.prog.elem 56 = 31 := by kernel_rfl
 rw [this]
 obtain ⟨i0, hi, hz0, hz1, hz2⟩ := info_parts Try.infoMr
 simp [sizeOf, typeInfo, hi, hz1]
theorem slhM (g n cap k : Nat) (hk : k ≤ cap) (W : World) : (Instr.slice 56 (.slice (some ⟨g, 0, none⟩) n cap) none (some (.int .i64 (k : Int))) none).run Try.prog W = .ok (.slice (some ⟨g, 0, none⟩) k cap) W := by
 rw [run_slice_h (P := Try.prog) (t := 56) (ht := by kernel_rfl) (h0 := by omega) (h2 := by omega), sizeM]
 simp [Result.andThen, sliced, Addr.add]
theorem sllM (g n cap k : Nat) (kk : Int) (hkk : kk = (k : Int)) (hk : k ≤ n) : ∃ o, (∀ W, (Instr.slice 56 (.slice (some ⟨g, 0, none⟩) n cap) (some (.int .i64 kk)) none none).run Try.prog W = .ok (.slice (some ⟨g, o, none⟩) (n - k) (cap - k)) W) ∧ (k < cap → o = k * 10) := by
 subst hkk
 refine ⟨if cap = k then 0 else k * 10, fun W => ?_, fun h => by rw [if_neg (by omega)]⟩
 rw [run_slice_l (P := Try.prog) (t := 56) (ht := by kernel_rfl) (h0 := by omega) (h1 := by omega), sizeM]
 by_cases e : cap = k
 ·simp [Result.andThen, sliced, e]
 ·simp [Result.andThen, sliced, e, Addr.add]
  omega
theorem cut_run {w : World} {g cap o : Nat} {xs : List (Mg × NF)} {i : Nat} (own : OwnG 31 10 rcs w (some ⟨g, 0, none⟩) cap xs) (hi : i < xs.length) (ho : i + 1 < cap → o = (i + 1) * 10) (co : Nat) (ty : TypeId) :
  ∃ w', (Builtin.append_ #[56, 56] ty #[.slice (some ⟨g, 0, none⟩) i cap, .slice (some ⟨g, o, none⟩) (xs.length - (i + 1)) co]).run Try.prog w = .ok (.slice (some ⟨g, 0, none⟩) (xs.length - 1) cap) w' ∧ OwnG 31 10 rcs w' (some ⟨g, 0, none⟩) cap (xs.take i ++ xs.drop (i + 1)) ∧ Off (fun c => c = g) w w' := by
 obtain ⟨g', cur, eg, hcel, hlc, hcm, hcs0, htk⟩ := own.celw (by simp)
 simp only [Option.some.injEq, Addr.mk.injEq, and_true] at eg
 subst eg
 have hdl : ((xs.drop (i + 1)).flatMap rcs).length = (xs.length - (i + 1)) * 10 := by rw [flw_len rcs_len, List.length_drop]
 have hsrc : ∀ j v, ((xs.drop (i + 1)).flatMap rcs)[j]? = some v → w.cell? ((⟨g, o, none⟩ : Addr).add j) = some v := fun j v hj => by
  have hlt : j < (xs.length - (i + 1)) * 10 := by
   obtain ⟨h, -⟩ := List.getElem?_eq_some_iff.1 hj
   rwa [hdl] at h
  rw [flw_drop rcs_len, List.getElem?_drop, ← htk, List.getElem?_take] at hj
  split at hj
  ·rw [ho (by omega), add_lit, hcel.cell]
   simpa using hj
  ·simp at hj
 obtain ⟨w1, hr, hc1, o1⟩ := room_runM (i := i) (cap := cap) (a := ⟨g, o, none⟩) (sLen := xs.length - (i + 1)) (sCap := co) (cs := (xs.drop (i + 1)).flatMap rcs) hcel hdl (by omega) hcs0 hsrc (flw_one rcs_one _) ty
 rw [show i + (xs.length - (i + 1)) = xs.length - 1 by omega] at hr
 refine ⟨w1, hr, ?_, o1⟩
 have hl : cur.toList.length = cap * 10 := by rw [Array.length_toList]; exact hcs0
 have hlen : (xs.take i ++ xs.drop (i + 1)).length = xs.length - 1 := by simp; omega
 refine ownw_of rcs_len hc1 (by omega) hcm ?_ ?_
 ·rw [List.size_toArray, spl_len (by omega), hl]
 ·rw [hlen, List.toList_toArray, spl_in (by omega) (by omega), List.flatMap_append, flw_take rcs_len, ← htk, List.take_take]
  congr 2
  omega
end Go.Proofs.Ytmeclfgehpbjlaa
