/- Items of several texts. -/
import Derived.Test.YtmbphlkohlggfaaGreatAArg5
import Derived.Test.YtmbphlkohlggfaaGreatAMay20
import Derived.Test.YtmbphlkohlggfaaGreatAQk18
import Derived.Test.YtmbphlkohlggfaaGreatATh20
import Derived.Test.YtmbphlkohlggfaaGreatAZd20
namespace Go.Proofs.YtmbphlkohlggfaaGreat
set_option maxRecDepth 100000
open Go.RowKit
structure Light (es : List E) (gs : List G) (ms : List (Int × Int)) : Prop where
 e : es.length ≤ 20
 g : gs.length ≤ 20
 m : ms.length ≤ 20
 ev : ∀ v ∈ es, v.l.length ≤ 20
 gv : ∀ v ∈ gs, v.ds.length ≤ 30
set_option maxHeartbeats 4000000 in
theorem light_any (m : Mg) (es : List E) (gs : List G) (ms : List (Int × Int)) (w : World) (h : MsgAt w m es gs ms) : Calls Tryz.prog 4 #[(.agg #[.int .i64 m.k, .int .i64 m.fr, .int .i64 m.tn, .int .i64 m.op, .int .i64 m.fo, .string m.key, .int .i64 m.bk, .slice m.ea m.el m.ec, .slice m.da m.dl m.dc, .slice m.ma m.ml m.mc])] w fun e w' => Yes (Light es gs ms) e ∧ Off (fun _ => False) w w' := by
 obtain ⟨P, hP⟩ : ∃ P, P = Light es gs ms := ⟨_, rfl⟩
 have HP : Hid (P ↔ Light es gs ms) := by show _ ↔ _; rw [hP]
 rw [← hP]
 clear hP
 have lne : es.length ≤ 9223372036854775807 := Nat.le_trans h.ens.len h.ens.bound
 have lng : gs.length ≤ 9223372036854775807 := Nat.le_trans h.dgs.len h.dgs.bound
 have lnm : ms.length ≤ 9223372036854775807 := Nat.le_trans h.mbs.len h.mbs.bound
 obtain ⟨k, fr, tn, op, fo, key, bk, ea, el, ec, da, dl, dc, ma, ml, mc⟩ := m
 obtain rfl : el = es.length := h.el
 obtain rfl : dl = gs.length := h.dl
 obtain rfl : ml = ms.length := h.ml
 show Calls Tryz.prog 4 #[.agg #[.int .i64 k, .int .i64 fr, .int .i64 tn, .int .i64 op, .int .i64 fo, .string key, .int .i64 bk, .slice ea es.length ec, .slice da gs.length dc, .slice ma ms.length mc]] w fun e w' => Yes P e ∧ Off (fun _ => False) w w'
 have C0 := Cel.new w 26 #[.int .i64 k, .int .i64 fr, .int .i64 tn, .int .i64 op, .int .i64 fo, .string key, .int .i64 bk, .slice ea es.length ec, .slice da gs.length dc, .slice ma ms.length mc]
 have O0 : Off (fun _ => False) w (w.alloc (.cells #[.int .i64 k, .int .i64 fr, .int .i64 tn, .int .i64 op, .int .i64 fo, .string key, .int .i64 bk, .slice ea es.length ec, .slice da gs.length dc, .slice ma ms.length mc] 26)) := (Off.refl _ w).alloc _
 have HX : Hid _ := h
 clear h
 go_enter Tryz.func4, Tryz.ntmps4
 go_upto_region 1 with fail
 generalize hv : w.alloc (.cells #[.int .i64 k, .int .i64 fr, .int .i64 tn, .int .i64 op, .int .i64 fo, .string key, .int .i64 bk, .slice ea es.length ec, .slice da gs.length dc, .slice ma ms.length mc] 26) = V at C0 O0 ⊢
 generalize hp : w.heap.size = p at C0 ⊢
 clear hv hp
 obtain ⟨x0, x1, x2, x3, x4, x5, x6, x7, x8, x9⟩ := celw10 C0
 have HC : Hid _ := C0
 have HO : Hid _ := O0
 have HM : Hid _ := HX.out.off O0
 clear C0 O0 HX
 by_cases h1 : 20 < es.length
 ·have d : decide ((20 : Int) < (es.length : Int)) = true := decide_eq_true (by omega)
  have d' : decide (20 < es.length) = true := decide_eq_true h1
  have HN : Hid (20 < es.length) := h1
  clear h1
  go_wp2_with fail
  go_ret
  exact ⟨.mk' false (by rw [HP.out]; exact ⟨fun h => (by cases h), fun h => absurd h.e (by have := HN.out; omega)⟩), HO.out⟩
 have dh1 : decide ((20 : Int) < (es.length : Int)) = false := decide_eq_false (by omega)
 have dh1' : decide (20 < es.length) = false := decide_eq_false h1
 have HNh1 : Hid (es.length ≤ 20) := by show _ ≤ _; omega
 clear h1
 by_cases h2 : 20 < gs.length
 ·have d : decide ((20 : Int) < (gs.length : Int)) = true := decide_eq_true (by omega)
  have d' : decide (20 < gs.length) = true := decide_eq_true h2
  have HN : Hid (20 < gs.length) := h2
  clear h2
  go_wp2_with fail
  go_ret
  exact ⟨.mk' false (by rw [HP.out]; exact ⟨fun h => (by cases h), fun h => absurd h.g (by have := HN.out; omega)⟩), HO.out⟩
 have dh2 : decide ((20 : Int) < (gs.length : Int)) = false := decide_eq_false (by omega)
 have dh2' : decide (20 < gs.length) = false := decide_eq_false h2
 have HNh2 : Hid (gs.length ≤ 20) := by show _ ≤ _; omega
 clear h2
 by_cases h3 : 20 < ms.length
 ·have d : decide ((20 : Int) < (ms.length : Int)) = true := decide_eq_true (by omega)
  have d' : decide (20 < ms.length) = true := decide_eq_true h3
  have HN : Hid (20 < ms.length) := h3
  clear h3
  go_wp2_with fail
  go_ret
  exact ⟨.mk' false (by rw [HP.out]; exact ⟨fun h => (by cases h), fun h => absurd h.m (by have := HN.out; omega)⟩), HO.out⟩
 have dh3 : decide ((20 : Int) < (ms.length : Int)) = false := decide_eq_false (by omega)
 have dh3' : decide (20 < ms.length) = false := decide_eq_false h3
 have HNh3 : Hid (ms.length ≤ 20) := by show _ ≤ _; omega
 clear h3
 have HOL : Hid (Off (fun _ => False) V V) := Off.refl _ V
 go_wp2_with fail
 go_loopw [26] (fun y wr => ∃ n : Nat, y = .int .i64 (n : Int) ∧ n ≤ es.length ∧ (∀ i v, i < n → es[i]? = some v → v.l.length ≤ 20) ∧ Off (fun _ => False) V wr) (fun y _ => (es.length - intOf y).toNat)
 case atStart => exact ⟨0, rfl, by omega, fun i v hi => by omega, HOL.out⟩
 case round =>
  clear x0 x1 x2 x3 x4 x5 x6 x7 x8 x9 dh1 dh1' dh2 dh2' dh3 dh3'
  obtain ⟨n, rfl, hn, hg, O⟩ := hrel
  have HG : Hid (∀ i v, i < n → es[i]? = some v → v.l.length ≤ 20) := hg
  have HOR : Hid (Off (fun _ => False) V wr) := O
  clear hg
  by_cases hlt : n < es.length
  ·have g1b : decide ((n : Int) < (es.length : Int)) = true := decide_eq_true (by omega)
   have g2b : decide (n < es.length) = true := decide_eq_true hlt
   obtain ⟨v, hv⟩ : ∃ v, es[n]? = some v := ⟨_, List.getElem?_eq_getElem hlt⟩
   have hA := (HM.out.off O).ens.at_ n v hv
   obtain ⟨bx, off, rfl, k10, kr⟩ := hA
   have hlv : v.l.length ≤ 9223372036854775807 := Nat.le_trans kr.len kr.bound
   obtain ⟨k0, k1, k2, k3, k4, k5, k6, k7, k8, k9⟩ := ent10 k10
   clear k10 kr
   have hix := idx_ents hlt
   have HV : Hid _ := hv
   clear hv O
   go_upto_region 6 with fail
   have CN := Cel.new wr 46 #[.string v.key, .int .i64 (v.f 0), .int .i64 (v.f 1), .int .i64 (v.f 2), .int .i64 (v.f 3), .int .i64 (v.f 4), .int .i64 (v.f 5), .int .i64 (v.f 6), .int .i64 (v.f 7), .slice v.a v.l.length v.cap]
   have ON : Off (fun _ => False) wr (wr.alloc (.cells #[.string v.key, .int .i64 (v.f 0), .int .i64 (v.f 1), .int .i64 (v.f 2), .int .i64 (v.f 3), .int .i64 (v.f 4), .int .i64 (v.f 5), .int .i64 (v.f 6), .int .i64 (v.f 7), .slice v.a v.l.length v.cap] 46)) := (Off.refl _ wr).alloc _
   generalize hvv : wr.alloc (.cells #[.string v.key, .int .i64 (v.f 0), .int .i64 (v.f 1), .int .i64 (v.f 2), .int .i64 (v.f 3), .int .i64 (v.f 4), .int .i64 (v.f 5), .int .i64 (v.f 6), .int .i64 (v.f 7), .slice v.a v.l.length v.cap] 46) = V2 at CN ON ⊢
   generalize hpp : wr.heap.size = pp at CN ⊢
   clear hvv hpp k0 k1 k2 k3 k4 k5 k6 k7 k8 k9 hix
   have HO2 : Hid _ := HOR.out.trans ON (fun _ _ h => h)
   have z9 := CN.cell 9
   simp at z9
   clear CN ON
   by_cases hb : 20 < v.l.length
   ·have d : decide ((20 : Int) < (v.l.length : Int)) = true := decide_eq_true (by omega)
    have d' : decide (20 < v.l.length) = true := decide_eq_true hb
    have HN : Hid (20 < v.l.length) := hb
    clear hb
    go_wp2_with fail
    go_ret
    exact ⟨.mk' false (by rw [HP.out]; exact ⟨fun h => (by cases h), fun h => absurd (h.ev v (List.mem_of_getElem? HV.out)) (by have := HN.out; omega)⟩), HO.out.trans HO2.out (fun _ _ h => h)⟩
   ·have d : decide ((20 : Int) < (v.l.length : Int)) = false := decide_eq_false (by omega)
    have d' : decide (20 < v.l.length) = false := decide_eq_false hb
    have HN : Hid (v.l.length ≤ 20) := by show _ ≤ _; omega
    clear hb
    go_wp2_with fail
    go_roundw
    case rel =>
     refine ⟨n + 1, by go_num, by omega, fun i u hi hu => ?_, HO2.out⟩
     rcases Nat.lt_or_ge i n with h | h
     ·exact HG.out i u h hu
     ·obtain rfl : i = n := by omega
      rw [HV.out] at hu
      cases hu
      exact HN.out
    case measure => simp [intOf]; omega
  ·obtain rfl : n = es.length := by omega
   have g1b : decide ((es.length : Int) < (es.length : Int)) = false := decide_eq_false (by omega)
   have g2b : decide (es.length < es.length) = false := decide_eq_false (by omega)
   have HALL0 : Hid (∀ v ∈ es, v.l.length ≤ 20) := fun v hv => by
    obtain ⟨i, hi⟩ := List.getElem?_of_mem hv
    have hlt : i < es.length := by
     obtain ⟨h, -⟩ := List.getElem?_eq_some_iff.1 hi
     exact h
    exact HG.out i v hlt hi
   have HOL : Hid _ := HOR.out
   obtain ⟨x0, x1, x2, x3, x4, x5, x6, x7, x8, x9⟩ := celw10 (HC.out.off O (fun h => h))
   clear HG HOR O
   go_wp2_with fail
   go_loopw [39] (fun y wr => ∃ n : Nat, y = .int .i64 (n : Int) ∧ n ≤ gs.length ∧ (∀ i v, i < n → gs[i]? = some v → v.ds.length ≤ 30) ∧ Off (fun _ => False) V wr) (fun y _ => (gs.length - intOf y).toNat)
   case atStart => exact ⟨0, rfl, by omega, fun i v hi => by omega, HOL.out⟩
   case round =>
    clear x0 x1 x2 x3 x4 x5 x6 x7 x8 x9
    obtain ⟨n, rfl, hn, hg, O⟩ := hrel
    have HG : Hid (∀ i v, i < n → gs[i]? = some v → v.ds.length ≤ 30) := hg
    have HOR : Hid (Off (fun _ => False) V wr) := O
    clear hg
    by_cases hlt : n < gs.length
    ·have g1b : decide ((n : Int) < (gs.length : Int)) = true := decide_eq_true (by omega)
     have g2b : decide (n < gs.length) = true := decide_eq_true hlt
     obtain ⟨v, hv⟩ : ∃ v, gs[n]? = some v := ⟨_, List.getElem?_eq_getElem hlt⟩
     have hA := (HM.out.off O).dgs.at_ n v hv
     obtain ⟨bx, off, rfl, k10, kr⟩ := hA
     have hlv : v.ds.length ≤ 9223372036854775807 := Nat.le_trans kr.len kr.bound
     obtain ⟨k0, k1, k2, k3, k4, k5, k6, k7, k8, k9⟩ := dg10 k10
     clear k10 kr
     have hix := idx_dgs hlt
     have HV : Hid _ := hv
     clear hv O
     go_upto_region 12 with fail
     have CN := Cel.new wr 49 #[.string v.key, .int .i64 (v.f 0), .int .i64 (v.f 1), .int .i64 (v.f 2), .int .i64 (v.f 3), .int .i64 (v.f 4), .int .i64 (v.f 5), .int .i64 (v.f 6), .int .i64 (v.f 7), .slice v.a v.ds.length v.cap]
     have ON : Off (fun _ => False) wr (wr.alloc (.cells #[.string v.key, .int .i64 (v.f 0), .int .i64 (v.f 1), .int .i64 (v.f 2), .int .i64 (v.f 3), .int .i64 (v.f 4), .int .i64 (v.f 5), .int .i64 (v.f 6), .int .i64 (v.f 7), .slice v.a v.ds.length v.cap] 49)) := (Off.refl _ wr).alloc _
     generalize hvv : wr.alloc (.cells #[.string v.key, .int .i64 (v.f 0), .int .i64 (v.f 1), .int .i64 (v.f 2), .int .i64 (v.f 3), .int .i64 (v.f 4), .int .i64 (v.f 5), .int .i64 (v.f 6), .int .i64 (v.f 7), .slice v.a v.ds.length v.cap] 49) = V2 at CN ON ⊢
     generalize hpp : wr.heap.size = pp at CN ⊢
     clear hvv hpp k0 k1 k2 k3 k4 k5 k6 k7 k8 k9 hix
     have HO2 : Hid _ := HOR.out.trans ON (fun _ _ h => h)
     have z9 := CN.cell 9
     simp at z9
     clear CN ON
     by_cases hb : 30 < v.ds.length
     ·have d : decide ((30 : Int) < (v.ds.length : Int)) = true := decide_eq_true (by omega)
      have d' : decide (30 < v.ds.length) = true := decide_eq_true hb
      have HN : Hid (30 < v.ds.length) := hb
      clear hb
      go_wp2_with fail
      go_ret
      exact ⟨.mk' false (by rw [HP.out]; exact ⟨fun h => (by cases h), fun h => absurd (h.gv v (List.mem_of_getElem? HV.out)) (by have := HN.out; omega)⟩), HO.out.trans HO2.out (fun _ _ h => h)⟩
     ·have d : decide ((30 : Int) < (v.ds.length : Int)) = false := decide_eq_false (by omega)
      have d' : decide (30 < v.ds.length) = false := decide_eq_false hb
      have HN : Hid (v.ds.length ≤ 30) := by show _ ≤ _; omega
      clear hb
      go_wp2_with fail
      go_roundw
      case rel =>
       refine ⟨n + 1, by go_num, by omega, fun i u hi hu => ?_, HO2.out⟩
       rcases Nat.lt_or_ge i n with h | h
       ·exact HG.out i u h hu
       ·obtain rfl : i = n := by omega
        rw [HV.out] at hu
        cases hu
        exact HN.out
      case measure => simp [intOf]; omega
    ·obtain rfl : n = gs.length := by omega
     have g1b : decide ((gs.length : Int) < (gs.length : Int)) = false := decide_eq_false (by omega)
     have g2b : decide (gs.length < gs.length) = false := decide_eq_false (by omega)
     have HALL1 : Hid (∀ v ∈ gs, v.ds.length ≤ 30) := fun v hv => by
      obtain ⟨i, hi⟩ := List.getElem?_of_mem hv
      have hlt : i < gs.length := by
       obtain ⟨h, -⟩ := List.getElem?_eq_some_iff.1 hi
       exact h
      exact HG.out i v hlt hi
     have HOL : Hid _ := HOR.out
     obtain ⟨x0, x1, x2, x3, x4, x5, x6, x7, x8, x9⟩ := celw10 (HC.out.off O (fun h => h))
     clear HG HOR O
     go_wp2_with fail
     go_ret
     exact ⟨.mk' true (by rw [HP.out]; exact ⟨fun _ => ⟨HNh1.out, HNh2.out, HNh3.out, HALL0.out, HALL1.out⟩, fun _ => rfl⟩), HO.out.trans HOL.out (fun _ _ h => h)⟩
end Go.Proofs.YtmbphlkohlggfaaGreat

namespace Go.Proofs.YtmbphlkohlggfaaGreat
set_option maxRecDepth 100000
open Go.RowKit
theorem cond_lt {b : Bool} {l : List Nat} (h : ∀ y ∈ l, y < 256) : ∀ y ∈ cond b l [], y < 256 := by
 cases b
 ·intro y hy
  cases hy
 ·exact h
theorem app_lt {a b : List Nat} (ha : ∀ y ∈ a, y < 256) (hb : ∀ y ∈ b, y < 256) : ∀ y ∈ a ++ b, y < 256 := fun y hy => (List.mem_append.1 hy).elim (ha y) (hb y)
theorem nil_lt : ∀ y ∈ ([] : List Nat), y < 256 := fun y hy => by cases hy
theorem encEs_lt : ∀ (es : List K), (∀ k ∈ es, ∀ x ∈ k.l, Rng x) → ∀ y ∈ encEs es, y < 256
 | [], _ => nil_lt
 | k :: l, h => app_lt (encE_lt (h k (by simp))) (encEs_lt l (fun x hx => h x (by simp [hx])))
theorem encGs_lt : ∀ (gs : List GK), ∀ y ∈ encGs gs, y < 256
 | [] => nil_lt
 | _ :: l => app_lt encG_lt (encGs_lt l)
theorem encMs_lt : ∀ (ms : List (Int × Int)), ∀ y ∈ encMs ms, y < 256
 | [] => nil_lt
 | _ :: l => app_lt (app_lt (numB_lt _) (numB_lt _)) (encMs_lt l)
theorem encMsg_lt (s : Msk) {d : MD} (hl : ∀ k ∈ d.es, ∀ x ∈ k.l, Rng x) : ∀ y ∈ encMsg s d, y < 256 :=
 app_lt (app_lt (numB_lt _) (app_lt (numB_lt _) (numB_lt _))) (app_lt (cond_lt (numB_lt _)) (app_lt (cond_lt (numB_lt _)) (app_lt (cond_lt (app_lt (numB_lt _) (keyL_lt _))) (app_lt (cond_lt (numB_lt _)) (app_lt (cond_lt (app_lt (numB_lt _) (encEs_lt _ hl))) (app_lt (cond_lt (app_lt (numB_lt _) (encGs_lt _))) (cond_lt (app_lt (numB_lt _) (encMs_lt _)))))))))
theorem md_rng {w : World} {m : Mg} {es : List E} {gs : List G} {ms : List (Int × Int)} (h : MsgAt w m es gs ms) : ∀ k ∈ (mdM m es gs ms).es, ∀ x ∈ k.l, Rng x := by
 intro k hk
 have hk : k ∈ (cond (msk m.k).es es []).map E.abs := hk
 obtain ⟨e, he, rfl⟩ := List.mem_map.1 hk
 have he2 : e ∈ es := by
  generalize (msk m.k).es = b at he
  cases b
  ·cases he
  ·exact he
 obtain ⟨i, hi⟩ := List.mem_iff_getElem?.1 he2
 obtain ⟨b, off, -, -, hr⟩ := h.ens.at_ i e hi
 exact hr.rng
end Go.Proofs.YtmbphlkohlggfaaGreat

namespace Go.Proofs.YtmbphlkohlggfaaGreat
set_option maxRecDepth 100000
open Go.RowKit
theorem vl_set (bs : List Nat) (i y : Nat) : vl (bs.set i y) = (vl bs).set i (.int .u8 (y : Int)) := by simp [vl, List.map_set]
theorem OwnR.set {w : World} {g cap : Nat} {bs : List Nat} (h : OwnR w (some ⟨g, 0, none⟩) cap bs) (i y : Nat) : OwnR (w.setCell ⟨g, i, none⟩ (.int .u8 (y : Int))) (some ⟨g, 0, none⟩) cap (bs.set i y) := by
 have := (World.ownsRow.stored h.row i (.int .u8 (y : Int))).1
 refine ⟨?_⟩
 rw [List.length_set, vl_set]
 exact this
theorem OwnR.cellAt {w : World} {g cap : Nat} {bs : List Nat} (h : OwnR w (some ⟨g, 0, none⟩) cap bs) {i : Nat} (hi : i < bs.length) : w.cell? ⟨g, i, none⟩ = some (.int .u8 ((bs.getD i 0 : Nat) : Int)) ∧ w.frozen? ⟨g, i, none⟩ = false := by
 refine ⟨?_, World.ownsRow.frozenAt h.row i⟩
 rw [World.ownsRow.cellAt h.row i (by simpa using hi)]
 exact vl_get bs i hi
theorem u64_mod (p : Int) (k : Nat) (hk : 0 < k) : ∃ m : Nat, m < k ∧ (IntKind.u64.wrap p).tmod (k : Int) = (m : Int) := by
 have h0 : 0 ≤ IntKind.u64.wrap p := by rw [IntKind.wrap_u64]; omega
 obtain ⟨q, hq⟩ := Int.eq_ofNat_of_zero_le h0
 refine ⟨q % k, Nat.mod_lt _ hk, ?_⟩
 rw [hq, Int.tmod_eq_emod_of_nonneg (by omega)]
 rfl
theorem OwnR.cap {w : World} {tad : Option Addr} {cap : Nat} {bs : List Nat} (h : OwnR w tad cap bs) : bs.length ≤ cap := by
 rcases h.shape with ⟨-, rfl, rfl⟩ | ⟨_, -, -, h, -⟩
 ·simp
 ·exact h
theorem OwnR.take {w : World} {tad : Option Addr} {cap : Nat} {bs : List Nat} (h : OwnR w tad cap bs) {k : Nat} (hk : k ≤ bs.length) :
  (∀ W, (Instr.slice 28 (.slice tad bs.length cap) none (some (.int .i64 (k : Int))) none).run Tryz.prog W = .ok (.slice tad k cap) W) ∧ OwnR w tad cap (bs.take k) := by
 have e : (bs.take k).length = k := by simp; omega
 refine ⟨by have := ((h.lie (D := fun _ => True) (fun _ _ => trivial)).take hk).1; rwa [e] at this, ?_⟩
 clear e
 obtain ⟨h1, h2⟩ := h
 refine ⟨by simp [vl], ?_⟩
 rcases h2 with ⟨hv, h0⟩ | ⟨g, c, cur, hv, hb, hh, hc, hm, hs, ht⟩
 ·simp only [Value.slice.injEq] at hv
  have : bs = [] := List.eq_nil_of_length_eq_zero h0
  subst this
  exact .inl ⟨by simp [hv.1, hv.2.2], by simp⟩
 ·simp only [Value.slice.injEq] at hv
  obtain ⟨rfl, -, rfl⟩ := hv
  refine .inr ⟨g, _, cur, rfl, hb, hh, by simp; omega, hm, hs, ?_⟩
  have e : (vl bs).take k = vl (bs.take k) := by simp [vl, List.map_take]
  rw [← e, ← ht, List.take_take]
  congr 1
  simp
theorem keep_cell {w w' : World} {b o : Nat} {v : Value} (hw : Off (fun _ => False) w w') (h : w.cell? ⟨b, o, none⟩ = some v) : w'.cell? ⟨b, o, none⟩ = some v := by
 rw [← h]
 exact World.cell?_of_block (a := ⟨b, o, none⟩) (hw.block b (cell_lt h) (fun h => h))
theorem wfU8 {n : Int} (h : (Lit.int .u8 n).wf = true) : ∃ x : Nat, n = (x : Int) ∧ x < 256 := by
 have hb : 0 ≤ n ∧ n ≤ 255 := by
  simp only [Lit.wf, Bool.and_eq_true, decide_eq_true_eq] at h
  exact h
 exact ⟨n.toNat, by omega, by omega⟩
theorem row_cap {k : IntKind} {w : World} {a : Option Addr} {len cap : Nat} {zs : List Int} (h : IsRow k w a len cap zs) : len ≤ cap := by
 rcases h with ⟨-, rfl, rfl, -⟩ | ⟨x, -, h1, -⟩
 ·exact Nat.le_refl _
 ·exact h1
theorem xor_any {u x : Nat} (hu : u < 256) (hx : x < 256) : ∃ y : Nat, bits .xor .u8 (u : Int) (x : Int) = (y : Int) ∧ y < 256 :=
 ⟨u ^^^ x, u8_xor_nat u x hu hx, Nat.xor_lt_two_pow (n := 8) hu hx⟩
theorem getD_lt {l : List Nat} (h : ∀ x ∈ l, x < 256) (i : Nat) (hi : i < l.length) : l.getD i 0 < 256 := by
 rw [List.getD_eq_getElem?_getD, List.getElem?_eq_getElem hi]
 exact h _ (List.getElem_mem hi)
theorem EncR.small {d : MD} {bs : List Nat} {er : Int} (h : EncR d bs er) (hl : ∀ k ∈ d.es, ∀ x ∈ k.l, Rng x) : (∀ y ∈ bs, y < 256) ∧ bs.length ≤ 60000 := by
 rcases h.is with ⟨-, h2, -⟩ | ⟨-, h2, -⟩
 ·rw [h2]
  exact ⟨nil_lt, by simp⟩
 ·rw [wrMsg_enc] at h2
  have hE := encMsg_lt (msk d.k) hl
  generalize encMsg (msk d.k) d = X at h2 hE
  unfold putS at h2
  simp only [List.nil_append] at h2
  split at h2
  ·rename_i hc
   rw [h2]
   exact ⟨hE, by simpa using hc⟩
  ·rw [h2]
   exact ⟨nil_lt, by simp⟩
def zmD : MD := ⟨0, 0, 0, 0, 0, ⟨#[]⟩, 0, [], [], []⟩
def zmM : Mg := ⟨0, 0, 0, 0, 0, ⟨#[]⟩, 0, none, 0, 0, none, 0, 0, none, 0, 0⟩
theorem zmM_at (w : World) : MsgAt w zmM [] [] [] := ⟨Ens.nil w none 0 (by omega), rfl, Dgs.nil w none 0 (by omega), rfl, RowD.nil w none 0 (by omega), rfl⟩
def ToldD (bs : List Nat) (d : MD) (er : Int) : Prop := (60000 < bs.length ∧ d = zmD ∧ er = 4) ∨ (bs.length ≤ 60000 ∧ DecOk bs d ∧ er = 0) ∨ (bs.length ≤ 60000 ∧ (∀ d, ¬ DecOk bs d) ∧ d = zmD ∧ er = 3)
theorem ToldD.uniq {bs : List Nat} {d d2 : MD} {er er2 : Int} (h : ToldD bs d er) (k : ToldD bs d2 er2) : d = d2 ∧ er = er2 := by
 rcases h with ⟨h1, h2, h3⟩ | ⟨h1, h2, h3⟩ | ⟨h1, h2, h3, h4⟩ <;> rcases k with ⟨k1, k2, k3⟩ | ⟨k1, k2, k3⟩ | ⟨k1, k2, k3, k4⟩
 ·exact ⟨by rw [h2, k2], by rw [h3, k3]⟩
 ·omega
 ·omega
 ·omega
 ·exact ⟨dec_one h2 k2, by rw [h3, k3]⟩
 ·exact absurd h2 (k2 _)
 ·omega
 ·exact absurd k2 (h2 _)
 ·exact ⟨by rw [h3, k3], by rw [h4, k4]⟩
theorem xdec_told (t : Option Addr) (c : Nat) (bs : List Nat) (w : World) (hs : Src w t c bs) (hlt : ∀ x ∈ bs, x < 256) (hb : bs.length ≤ 140737488355328) :
  Calls Tryz.prog 7 #[.slice t bs.length c] w fun e w' => ∃ (X : Mg) (es : List E) (gs : List G) (ms : List (Int × Int)) (er : Int), e = .returned (.tuple #[(.agg #[.int .i64 X.k, .int .i64 X.fr, .int .i64 X.tn, .int .i64 X.op, .int .i64 X.fo, .string X.key, .int .i64 X.bk, .slice X.ea X.el X.ec, .slice X.da X.dl X.dc, .slice X.ma X.ml X.mc]), .int .i64 er]) ∧ ToldD bs (mdOf X es gs ms) er ∧ MsgAt w' X es gs ms ∧ Off (fun _ => False) w w' := by
 refine (xdecode_any t c bs w hs hlt hb).mono ?_
 rintro e w' ⟨⟨h⟩, o⟩
 rcases h with ⟨h1, rfl⟩ | ⟨h1, X, es, gs, ms, rfl, h2, h3⟩ | ⟨h1, rfl, h2⟩
 ·exact ⟨zmM, [], [], [], 4, rfl, .inl ⟨h1, rfl, rfl⟩, zmM_at _, o⟩
 ·exact ⟨X, es, gs, ms, 0, rfl, .inr (.inl ⟨h1, h2, rfl⟩), h3 _ (Off.refl _ _), o⟩
 ·exact ⟨zmM, [], [], [], 3, rfl, .inr (.inr ⟨h1, h2, rfl, rfl⟩), zmM_at _, o⟩
theorem zdec_told (t : Option Addr) (c : Nat) (bs : List Nat) (w : World) (hs : Src w t c bs) (hc : bs.length ≤ c) (hlt : ∀ x ∈ bs, x < 256) (hb : bs.length ≤ 140737488355328) :
  Calls Tryz.prog 8 #[.slice t bs.length c] w fun e w' => ∃ (X : Mg) (es : List E) (gs : List G) (ms : List (Int × Int)) (er : Int), e = .returned (.tuple #[(.agg #[.int .i64 X.k, .int .i64 X.fr, .int .i64 X.tn, .int .i64 X.op, .int .i64 X.fo, .string X.key, .int .i64 X.bk, .slice X.ea X.el X.ec, .slice X.da X.dl X.dc, .slice X.ma X.ml X.mc]), .int .i64 er]) ∧ ToldD bs (mdOf X es gs ms) er ∧ MsgAt w' X es gs ms ∧ Off (fun _ => False) w w' := by
 refine (zdecode_any t c bs w hs hc hlt hb).mono ?_
 rintro e w' ⟨⟨h⟩, o⟩
 rcases h with ⟨h1, rfl⟩ | ⟨h1, X, es, gs, ms, rfl, h2, h3⟩ | ⟨h1, rfl, h2⟩
 ·exact ⟨zmM, [], [], [], 4, rfl, .inl ⟨h1, rfl, rfl⟩, zmM_at _, o⟩
 ·exact ⟨X, es, gs, ms, 0, rfl, .inr (.inl ⟨h1, (dec_iff hlt _).2 h2, rfl⟩), h3 _ (Off.refl _ _), o⟩
 ·exact ⟨zmM, [], [], [], 3, rfl, .inr (.inr ⟨h1, fun d hd => h2 d ((dec_iff hlt d).1 hd), rfl, rfl⟩), zmM_at _, o⟩
theorem nfM_md {X Y : Mg} {e1 e2 : List E} {g1 g2 : List G} {m1 m2 : List (Int × Int)} (h : mdOf X e1 g1 m1 = mdOf Y e2 g2 m2) : nfM X e1 g1 m1 = nfM Y e2 g2 m2 := by
 have n1 : nfM X e1 g1 m1 = nfD (mdM X e1 g1 m1) := nf_md _ _ _ _
 have n2 : nfM Y e2 g2 m2 = nfD (mdM Y e2 g2 m2) := nf_md _ _ _ _
 rw [n1, n2, mdM_bare, mdM_bare, h]
theorem cut_mod (c : Int) (n : Nat) (hc : 0 < c) (hn : 0 < n) : ∃ k : Nat, k < n ∧ c.tmod (n : Int) = (k : Int) := by
 refine ⟨(c.tmod (n : Int)).toNat, ?_, ?_⟩
 ·have h1 := Int.tmod_lt_of_pos c (b := (n : Int)) (by omega)
  have h2 := Int.tmod_nonneg (n : Int) (a := c) (by omega)
  omega
 ·have h2 := Int.tmod_nonneg (n : Int) (a := c) (by omega)
  omega
set_option maxHeartbeats 8000000 in
theorem decodes_walk (m : Mg) (es : List E) (gs : List G) (ms : List (Int × Int)) (cut : Int) (ap : Option Addr) (lp cp : Nat) (zp : List Int) (x : Nat) (tr : Option Addr) (cr : Nat) (rs : List Nat) (w : World) (h : MsgAt w m es gs ms) (_ : -9223372036854775808 ≤ cut ∧ cut ≤ 9223372036854775807) (hp : IsRow .i64 w ap lp cp zp) (hx : x < 256) (hr : ArgB w tr rs.length cr rs) (hrc : rs.length ≤ cr) :
  Calls Tryz.prog 3 #[(.agg #[.int .i64 m.k, .int .i64 m.fr, .int .i64 m.tn, .int .i64 m.op, .int .i64 m.fo, .string m.key, .int .i64 m.bk, .slice m.ea m.el m.ec, .slice m.da m.dl m.dc, .slice m.ma m.ml m.mc]), .int .i64 cut, .slice ap lp cp, .int .u8 (x : Int), .slice tr rs.length cr] w fun e w' => e = .returned (.bool true) ∧ Off (fun _ => False) w w' := by
 have C0 := Cel.new w 26 #[.int .i64 m.k, .int .i64 m.fr, .int .i64 m.tn, .int .i64 m.op, .int .i64 m.fo, .string m.key, .int .i64 m.bk, .slice m.ea m.el m.ec, .slice m.da m.dl m.dc, .slice m.ma m.ml m.mc]
 have O0 : Off (fun _ => False) w (w.alloc (.cells #[.int .i64 m.k, .int .i64 m.fr, .int .i64 m.tn, .int .i64 m.op, .int .i64 m.fo, .string m.key, .int .i64 m.bk, .slice m.ea m.el m.ec, .slice m.da m.dl m.dc, .slice m.ma m.ml m.mc] 26)) := (Off.refl _ w).alloc _
 have HX : Hid _ := h
 have HRG : Hid (∀ k ∈ (mdM m es gs ms).es, ∀ x ∈ k.l, Rng x) := md_rng h
 have HP : Hid _ := hp.cells
 have lpm := hp.len
 have HRS : Hid (Src w tr cr rs) := hr.src
 have HRL : Hid (∀ x ∈ rs, x < 256) := hr.lt
 have HRC : Hid (rs.length ≤ cr) := hrc
 have HRB : Hid (rs.length ≤ 140737488355328) := Nat.le_trans hr.bound (by decide)
 have hrb := hr.bound
 clear h hp hr hrc
 go_enter Tryz.func3, Tryz.ntmps3
 go_upto_region 1 with fail
 generalize hv : w.alloc (.cells #[.int .i64 m.k, .int .i64 m.fr, .int .i64 m.tn, .int .i64 m.op, .int .i64 m.fo, .string m.key, .int .i64 m.bk, .slice m.ea m.el m.ec, .slice m.da m.dl m.dc, .slice m.ma m.ml m.mc] 26) = V at C0 O0 ⊢
 generalize w.heap.size = q1 at C0 ⊢
 obtain ⟨x0, x1, x2, x3, x4, x5, x6, x7, x8, x9⟩ := celw10 C0
 have HB0 : Hid _ := C0
 have HO0 : Hid _ := O0
 clear hv C0 O0
 go_wp2_with fail
 refine (light_any m es gs ms _ (HX.out.off HO0.out)).mono ?_
 rintro e w1 ⟨⟨b, rfl, hb⟩, o1⟩
 clear x0 x1 x2 x3 x4 x5 x6 x7 x8 x9 hb
 have HO1 : Hid (Off (fun _ => False) w w1) := HO0.out.trans o1 (fun _ _ h => h)
 have HB1 : Hid _ := HB0.out.off o1 (fun h => h)
 clear o1 HO0 HB0
 cases b with
 | false =>
  go_wp2_with fail
  refine (awake_any _).mono ?_
  rintro e w9 ⟨rfl, o9⟩
  go_wp2_with fail
  go_ret
  exact ⟨rfl, (HO1.out).trans o9 (fun _ _ h => h)⟩
 | true =>
  by_cases hr2 : 2000 < rs.length
  ·have d1 : decide ((2000 : Int) < (rs.length : Int)) = true := decide_eq_true (by omega)
   have d2 : decide (2000 < rs.length) = true := decide_eq_true hr2
   go_wp2_with fail
   refine (awake_any _).mono ?_
   rintro e w9 ⟨rfl, o9⟩
   go_wp2_with fail
   go_ret
   exact ⟨rfl, (HO1.out).trans o9 (fun _ _ h => h)⟩
  have d1 : decide ((2000 : Int) < (rs.length : Int)) = false := decide_eq_false (by omega)
  have d2 : decide (2000 < rs.length) = false := decide_eq_false hr2
  obtain ⟨x0, x1, x2, x3, x4, x5, x6, x7, x8, x9⟩ := celw10 HB1.out
  go_wp2_with fail
  refine (zencode_any m es gs ms _ (HX.out.off HO1.out)).mono ?_
  rintro e w3 ⟨t1, c1, bs, er, rfl, hr1, own1, hlo1, o3⟩
  clear x0 x1 x2 x3 x4 x5 x6 x7 x8 x9 d1 d2 hr2
  have HSM : Hid ((∀ y ∈ bs, y < 256) ∧ bs.length ≤ 60000) := hr1.small HRG.out
  have HO3 : Hid (Off (fun _ => False) w w3) := HO1.out.trans o3 (fun _ _ h => h)
  have HW : Hid (OwnR w3 t1 c1 bs) := own1
  have HLO : Hid (∀ k, blk t1 = some k → w.heap.size ≤ k) := fun k hk => by have := hlo1 k hk; have := HO1.out.size; omega
  clear hr1 own1 hlo1 o3 HO1 HB1
  obtain ⟨B, hB⟩ : ∃ B, B = (decide (0 < cut) && decide (0 < bs.length)) := ⟨_, rfl⟩
  have HB : Hid (B = (decide (0 < cut) && decide (0 < bs.length))) := hB
  clear hB
  have hbl : bs.length ≤ 60000 := HSM.out.2
  go_upto_region 4 with fail
  go_cut [41] from 35 to 40 (fun s41 wx => s41 = .bool B ∧ wx = w3)
  case first =>
   by_cases hc : 0 < cut
   ·have d1 : decide ((0 : Int) < cut) = true := decide_eq_true hc
    by_cases hb0 : 0 < bs.length
    ·have d2 : decide ((0 : Int) < (bs.length : Int)) = true := decide_eq_true (by omega)
     have d3 : decide (0 < bs.length) = true := decide_eq_true hb0
     have HBB : Hid (B = true) := by show _ = _; rw [HB.out, d1, d3]; rfl
     go_wp2_with fail
     go_meet
     case rel => exact ⟨by rw [HBB.out], rfl⟩
    ·have d2 : decide ((0 : Int) < (bs.length : Int)) = false := decide_eq_false (by omega)
     have d3 : decide (0 < bs.length) = false := decide_eq_false hb0
     have HBB : Hid (B = false) := by show _ = _; rw [HB.out, d1, d3]; rfl
     go_wp2_with fail
     go_meet
     case rel => exact ⟨by rw [HBB.out], rfl⟩
   ·have d1 : decide ((0 : Int) < cut) = false := decide_eq_false hc
    have HBB : Hid (B = false) := by show _ = _; rw [HB.out, d1]; rfl
    go_wp2_with fail
    go_meet
    case rel => exact ⟨by rw [HBB.out], rfl⟩
  case rest =>
   obtain ⟨rfl, rfl⟩ := hcut
   go_upto_if 41 with fail
   go_cut [11] from 42 to 47 (fun s11 wx => ∃ qs : List Nat, s11 = .slice t1 qs.length c1 ∧ Hid (OwnR wx t1 c1 qs) ∧ Hid (∀ x ∈ qs, x < 256) ∧ Hid (qs.length ≤ 60000) ∧ Hid (Off (fun _ => False) w wx))
   case first =>
    cases B with
    | false =>
     go_wp2_with fail
     go_meet
     case rel => exact ⟨bs, rfl, HW.out, HSM.out.1, HSM.out.2, HO3.out⟩
    | true =>
     have hb2 : 0 < cut ∧ 0 < bs.length := by have := HB.out.symm; simpa using this
     obtain ⟨k, hk, ek⟩ := cut_mod cut bs.length hb2.1 hb2.2
     have ew : RowKit.wrap64 (k : Int) = (k : Int) := by simp only [RowKit.wrap64]; omega
     obtain ⟨T1, T2⟩ := HW.out.take (k := k) (by omega)
     have HT2 : Hid _ := T2
     have HLK : Hid ((bs.take k).length = k) := by show _ = _; rw [List.length_take]; omega
     have z1 : 1 ≤ bs.length := hb2.2
     have hkz : (k : Int) < (bs.length : Int) := Int.ofNat_lt.2 hk
     clear T2 hb2
     go_wp2_with fail
     go_meet
     case rel => exact ⟨bs.take k, by rw [HLK.out], HT2.out, fun x hx => HSM.out.1 x (List.mem_of_mem_take hx), by show (bs.take k).length ≤ _; rw [HLK.out]; have := HSM.out.2; omega, HO3.out⟩
   case rest =>
    obtain ⟨zs, rfl, HW1, HL1, HN1, HO4⟩ := hcut
    clear HW HSM HO3 HB hbl
    have hzl : zs.length ≤ 60000 := HN1.out
    go_wp2_with fail
    go_loopw [50] (fun y wr => ∃ (j : Nat) (qs : List Nat), y = .int .i64 (j : Int) ∧ j ≤ lp ∧ Hid (qs.length = zs.length) ∧ Hid (OwnR wr t1 c1 qs) ∧ Hid (∀ x ∈ qs, x < 256) ∧ Hid (Off (fun _ => False) w wr)) (fun y _ => (lp - intOf y).toNat)
    case atStart => exact ⟨0, zs, rfl, by omega, rfl, HW1.out, HL1.out, HO4.out⟩
    case round =>
     clear HW1 HL1 HO4
     obtain ⟨j, qs, rfl, hj, HQL, HQ, HQT, HO⟩ := hrel
     by_cases hjl : j < lp
     ·have e3 : decide ((j : Int) < (lp : Int)) = true := decide_eq_true (by omega)
      have e4 : decide (j < lp) = true := decide_eq_true hjl
      obtain ⟨pb, po, rfl, -, pc⟩ := HP.out j hjl
      have pc2 := keep_cell HO.out pc
      clear pc
      by_cases hj3 : j < 2
      ·have q1 : decide ((j : Int) < 2) = true := decide_eq_true (by omega)
       by_cases hz0 : zs.length = 0
       ·have q2 : decide ((0 : Int) < (zs.length : Int)) = false := decide_eq_false (by omega)
        have q3 : decide (0 < zs.length) = false := decide_eq_false (by omega)
        have q4 : ¬ 0 < zs.length := by omega
        clear hz0
        go_wp2_with fail
        go_roundw
        case rel => exact ⟨j + 1, qs, by go_num, by omega, HQL.out, HQ.out, HQT.out, HO.out⟩
        case measure => simp [intOf]; omega
       ·have q2 : decide ((0 : Int) < (zs.length : Int)) = true := decide_eq_true (by omega)
        have q3 : decide (0 < zs.length) = true := decide_eq_true (by omega)
        generalize zp.getD j 0 = p at *
        obtain ⟨k, hm, em⟩ := u64_mod p zs.length (by omega)
        have ew : RowKit.wrap64 (k : Int) = (k : Int) := by simp only [RowKit.wrap64]; omega
        have hmq : k < qs.length := by have := HQL.out; omega
        obtain ⟨g, hg⟩ : ∃ g, t1 = some ⟨g, 0, none⟩ := by
         rcases HQ.out.shape with ⟨-, h0, -⟩ | ⟨g, h0, -⟩
         ·rw [h0] at hmq; simp at hmq
         ·exact ⟨g, h0⟩
        subst hg
        obtain ⟨k1, k2⟩ := HQ.out.cellAt hmq
        obtain ⟨y, ey, hy⟩ := xor_any (getD_lt HQT.out k hmq) hx
        have R2 : Hid _ := HQ.out.set k y
        have hg := HLO.out g rfl
        have O2 : Hid (Off (fun _ => False) w (wr.setCell ⟨g, k, none⟩ (.int .u8 (y : Int)))) := HO.out.setCell (.inr hg) _
        have LT2 : Hid (∀ x ∈ qs.set k y, x < 256) := fun x hx => by
         rcases List.mem_or_eq_of_mem_set hx with h | rfl
         ·exact HQT.out x h
         ·exact hy
        have QL2 : Hid ((qs.set k y).length = zs.length) := by
         show (qs.set k y).length = zs.length
         rw [List.length_set]
         exact HQL.out
        obtain ⟨u, hu⟩ : ∃ u, u = qs.getD k 0 := ⟨_, rfl⟩
        rw [← hu] at k1 ey
        clear hu
        have hmz : (k : Int) < (zs.length : Int) := Int.ofNat_lt.2 hm
        have z1 : 1 ≤ zs.length := Nat.lt_of_le_of_lt (Nat.zero_le _) hm
        clear hmq hz0 hg
        go_wp2_with fail
        go_roundw
        case rel => exact ⟨j + 1, qs.set k y, by go_num, by omega, QL2.out, R2.out, LT2.out, O2.out⟩
        case measure => simp [intOf]; omega
      ·have q1 : decide ((j : Int) < 2) = false := decide_eq_false (by omega)
       go_wp2_with fail
       go_roundw
       case rel => exact ⟨j + 1, qs, by go_num, by omega, HQL.out, HQ.out, HQT.out, HO.out⟩
       case measure => simp [intOf]; omega
     ·have e3 : decide ((j : Int) < (lp : Int)) = false := decide_eq_false (by omega)
      have e4 : decide (j < lp) = false := decide_eq_false hjl
      have HO6 : Hid (Off (fun _ => False) w wr) := HO.out
      have HQ6 : Hid (OwnR wr t1 c1 qs) := HQ.out
      clear HQ HO
      rename World => wo
      go_wp2_with fail
      clear e3 e4 hjl
      go_loopw [79] (fun y wr => ∃ j : Nat, y = .int .i64 (j : Int) ∧ j ≤ 2 ∧ Hid (Off (fun _ => False) w wr) ∧ Hid (OwnR wr t1 c1 qs)) (fun y _ => (2 - intOf y).toNat)
      case atStart => exact ⟨0, rfl, by omega, HO6.out, HQ6.out⟩
      case round =>
       clear HO6 HQ6
       obtain ⟨i, rfl, hi, HO, HQ⟩ := hrel
       obtain ⟨zl, hzz⟩ : ∃ n, n = zs.length := ⟨_, rfl⟩
       rw [← hzz] at HQL ⊢
       have HQN : Hid (qs.length ≤ 60000) := by have := HQL.out; show _ ≤ _; omega
       obtain rfl : zl = qs.length := HQL.out.symm
       clear hzz
       have hix0 : ∀ W, (Instr.index 35 (.agg #[.slice t1 qs.length c1, .slice tr rs.length cr]) (.int .i64 0)).run Tryz.prog W = .ok (.slice t1 qs.length c1) W := fun W => by kernel_rfl
       have hix1 : ∀ W, (Instr.index 35 (.agg #[.slice t1 qs.length c1, .slice tr rs.length cr]) (.int .i64 1)).run Tryz.prog W = .ok (.slice tr rs.length cr) W := fun W => by kernel_rfl
       rcases (show i = 0 ∨ i = 1 ∨ i = 2 by omega) with rfl | rfl | rfl
       ·go_wp2_with fail
        refine (xdec_told t1 c1 qs _ HQ.out.src HQT.out (Nat.le_trans HQN.out (by decide))).mono ?_
        rintro e w1 ⟨X, e1, g1, m1, er1, rfl, hT1, hM1, o1⟩
        have HT1 : Hid (ToldD _ _ _) := hT1
        have HM1 : Hid (MsgAt w1 X e1 g1 m1) := hM1
        have HF1 : Hid (Off (fun _ => False) wr w1) := o1
        clear hT1 hM1 o1
        go_upto_region 16 with fail
        have CA := Cel.new w1 26 #[.int .i64 X.k, .int .i64 X.fr, .int .i64 X.tn, .int .i64 X.op, .int .i64 X.fo, .string X.key, .int .i64 X.bk, .slice X.ea X.el X.ec, .slice X.da X.dl X.dc, .slice X.ma X.ml X.mc]
        have OA : Off (fun _ => False) w1 (w1.alloc (.cells #[.int .i64 X.k, .int .i64 X.fr, .int .i64 X.tn, .int .i64 X.op, .int .i64 X.fo, .string X.key, .int .i64 X.bk, .slice X.ea X.el X.ec, .slice X.da X.dl X.dc, .slice X.ma X.ml X.mc] 26)) := (Off.refl _ w1).alloc _
        generalize hvv : w1.alloc (.cells #[.int .i64 X.k, .int .i64 X.fr, .int .i64 X.tn, .int .i64 X.op, .int .i64 X.fo, .string X.key, .int .i64 X.bk, .slice X.ea X.el X.ec, .slice X.da X.dl X.dc, .slice X.ma X.ml X.mc] 26) = v1 at CA OA ⊢
        generalize hpp : w1.heap.size = pa at CA ⊢
        clear hvv hpp
        have HCA : Hid _ := CA
        have HFA : Hid (Off (fun _ => False) wr v1) := HF1.out.trans OA (fun _ _ h => h)
        have HMA : Hid _ := HM1.out.off OA
        clear CA OA HM1 HF1
        go_wp2_with fail
        refine (zdec_told t1 c1 qs _ (HQ.out.off HFA.out (fun _ _ _ h => h)).src HQ.out.cap HQT.out (Nat.le_trans HQN.out (by decide))).mono ?_
        rintro e w2 ⟨Y, e2, g2, m2, er2, rfl, hT2, hM2, o2⟩
        obtain ⟨hd, rfl⟩ := HT1.out.uniq hT2
        have HD : Hid (mdOf X e1 g1 m1 = mdOf Y e2 g2 m2) := hd
        have HM2 : Hid (MsgAt w2 Y e2 g2 m2) := hM2
        have HF2 : Hid (Off (fun _ => False) v1 w2) := o2
        clear hT2 hM2 o2 HT1 hd
        go_upto_region 17 with fail
        have CB := Cel.new w2 26 #[.int .i64 Y.k, .int .i64 Y.fr, .int .i64 Y.tn, .int .i64 Y.op, .int .i64 Y.fo, .string Y.key, .int .i64 Y.bk, .slice Y.ea Y.el Y.ec, .slice Y.da Y.dl Y.dc, .slice Y.ma Y.ml Y.mc]
        have OB : Off (fun _ => False) w2 (w2.alloc (.cells #[.int .i64 Y.k, .int .i64 Y.fr, .int .i64 Y.tn, .int .i64 Y.op, .int .i64 Y.fo, .string Y.key, .int .i64 Y.bk, .slice Y.ea Y.el Y.ec, .slice Y.da Y.dl Y.dc, .slice Y.ma Y.ml Y.mc] 26)) := (Off.refl _ w2).alloc _
        generalize hvv : w2.alloc (.cells #[.int .i64 Y.k, .int .i64 Y.fr, .int .i64 Y.tn, .int .i64 Y.op, .int .i64 Y.fo, .string Y.key, .int .i64 Y.bk, .slice Y.ea Y.el Y.ec, .slice Y.da Y.dl Y.dc, .slice Y.ma Y.ml Y.mc] 26) = v2 at CB OB ⊢
        generalize hpp : w2.heap.size = pb at CB ⊢
        clear hvv hpp
        have HO12 : Hid (Off (fun _ => False) v1 v2) := HF2.out.trans OB (fun _ _ h => h)
        have HCB : Hid _ := CB
        have HMB : Hid _ := HM2.out.off OB
        clear CB OB HM2 HF2
        obtain ⟨x0, x1, x2, x3, x4, x5, x6, x7, x8, x9⟩ := celw10 (HCA.out.off HO12.out (fun h => h))
        obtain ⟨y0, y1, y2, y3, y4, y5, y6, y7, y8, y9⟩ := celw10 HCB.out
        have qe : (er1 != er1) = false := by simp
        go_wp2_with fail
        refine (same_any X Y e1 e2 g1 g2 m1 m2 _ (HMA.out.off HO12.out) HMB.out).mono ?_
        rintro e w3 ⟨bb, rfl, hbb, o3⟩
        obtain rfl : bb = true := hbb.2 (nfM_md HD.out)
        have HF3 : Hid (Off (fun _ => False) v2 w3) := o3
        clear x0 x1 x2 x3 x4 x5 x6 x7 x8 x9 y0 y1 y2 y3 y4 y5 y6 y7 y8 y9 hbb o3
        obtain ⟨x0, x1, x2, x3, x4, x5, x6, x7, x8, x9⟩ := celw10 ((HCA.out.off HO12.out (fun h => h)).off HF3.out (fun h => h))
        obtain ⟨y0, y1, y2, y3, y4, y5, y6, y7, y8, y9⟩ := celw10 (HCB.out.off HF3.out (fun h => h))
        have hk : X.k = Y.k := congrArg MD.k HD.out
        have qk : (X.k != Y.k) = false := by rw [hk]; simp
        clear hk
        have HFE : Hid (Off (fun _ => False) wr w3) := (HFA.out.trans HO12.out (fun _ _ h => h)).trans HF3.out (fun _ _ h => h)
        go_wp2_with fail
        go_roundw
        case rel => exact ⟨1, by go_num, by omega, HO.out.trans HFE.out (fun _ _ h => h), HQ.out.off HFE.out (fun _ _ _ h => h)⟩
        case measure => simp [intOf]
       ·go_wp2_with fail
        refine (xdec_told tr cr rs _ (HRS.out.off HO.out (fun _ _ _ h => h)) HRL.out HRB.out).mono ?_
        rintro e w1 ⟨X, e1, g1, m1, er1, rfl, hT1, hM1, o1⟩
        have HT1 : Hid (ToldD _ _ _) := hT1
        have HM1 : Hid (MsgAt w1 X e1 g1 m1) := hM1
        have HF1 : Hid (Off (fun _ => False) wr w1) := o1
        clear hT1 hM1 o1
        go_upto_region 16 with fail
        have CA := Cel.new w1 26 #[.int .i64 X.k, .int .i64 X.fr, .int .i64 X.tn, .int .i64 X.op, .int .i64 X.fo, .string X.key, .int .i64 X.bk, .slice X.ea X.el X.ec, .slice X.da X.dl X.dc, .slice X.ma X.ml X.mc]
        have OA : Off (fun _ => False) w1 (w1.alloc (.cells #[.int .i64 X.k, .int .i64 X.fr, .int .i64 X.tn, .int .i64 X.op, .int .i64 X.fo, .string X.key, .int .i64 X.bk, .slice X.ea X.el X.ec, .slice X.da X.dl X.dc, .slice X.ma X.ml X.mc] 26)) := (Off.refl _ w1).alloc _
        generalize hvv : w1.alloc (.cells #[.int .i64 X.k, .int .i64 X.fr, .int .i64 X.tn, .int .i64 X.op, .int .i64 X.fo, .string X.key, .int .i64 X.bk, .slice X.ea X.el X.ec, .slice X.da X.dl X.dc, .slice X.ma X.ml X.mc] 26) = v1 at CA OA ⊢
        generalize hpp : w1.heap.size = pa at CA ⊢
        clear hvv hpp
        have HCA : Hid _ := CA
        have HFA : Hid (Off (fun _ => False) wr v1) := HF1.out.trans OA (fun _ _ h => h)
        have HMA : Hid _ := HM1.out.off OA
        clear CA OA HM1 HF1
        go_wp2_with fail
        refine (zdec_told tr cr rs _ ((HRS.out.off HO.out (fun _ _ _ h => h)).off HFA.out (fun _ _ _ h => h)) HRC.out HRL.out HRB.out).mono ?_
        rintro e w2 ⟨Y, e2, g2, m2, er2, rfl, hT2, hM2, o2⟩
        obtain ⟨hd, rfl⟩ := HT1.out.uniq hT2
        have HD : Hid (mdOf X e1 g1 m1 = mdOf Y e2 g2 m2) := hd
        have HM2 : Hid (MsgAt w2 Y e2 g2 m2) := hM2
        have HF2 : Hid (Off (fun _ => False) v1 w2) := o2
        clear hT2 hM2 o2 HT1 hd
        go_upto_region 17 with fail
        have CB := Cel.new w2 26 #[.int .i64 Y.k, .int .i64 Y.fr, .int .i64 Y.tn, .int .i64 Y.op, .int .i64 Y.fo, .string Y.key, .int .i64 Y.bk, .slice Y.ea Y.el Y.ec, .slice Y.da Y.dl Y.dc, .slice Y.ma Y.ml Y.mc]
        have OB : Off (fun _ => False) w2 (w2.alloc (.cells #[.int .i64 Y.k, .int .i64 Y.fr, .int .i64 Y.tn, .int .i64 Y.op, .int .i64 Y.fo, .string Y.key, .int .i64 Y.bk, .slice Y.ea Y.el Y.ec, .slice Y.da Y.dl Y.dc, .slice Y.ma Y.ml Y.mc] 26)) := (Off.refl _ w2).alloc _
        generalize hvv : w2.alloc (.cells #[.int .i64 Y.k, .int .i64 Y.fr, .int .i64 Y.tn, .int .i64 Y.op, .int .i64 Y.fo, .string Y.key, .int .i64 Y.bk, .slice Y.ea Y.el Y.ec, .slice Y.da Y.dl Y.dc, .slice Y.ma Y.ml Y.mc] 26) = v2 at CB OB ⊢
        generalize hpp : w2.heap.size = pb at CB ⊢
        clear hvv hpp
        have HO12 : Hid (Off (fun _ => False) v1 v2) := HF2.out.trans OB (fun _ _ h => h)
        have HCB : Hid _ := CB
        have HMB : Hid _ := HM2.out.off OB
        clear CB OB HM2 HF2
        obtain ⟨x0, x1, x2, x3, x4, x5, x6, x7, x8, x9⟩ := celw10 (HCA.out.off HO12.out (fun h => h))
        obtain ⟨y0, y1, y2, y3, y4, y5, y6, y7, y8, y9⟩ := celw10 HCB.out
        have qe : (er1 != er1) = false := by simp
        go_wp2_with fail
        refine (same_any X Y e1 e2 g1 g2 m1 m2 _ (HMA.out.off HO12.out) HMB.out).mono ?_
        rintro e w3 ⟨bb, rfl, hbb, o3⟩
        obtain rfl : bb = true := hbb.2 (nfM_md HD.out)
        have HF3 : Hid (Off (fun _ => False) v2 w3) := o3
        clear x0 x1 x2 x3 x4 x5 x6 x7 x8 x9 y0 y1 y2 y3 y4 y5 y6 y7 y8 y9 hbb o3
        obtain ⟨x0, x1, x2, x3, x4, x5, x6, x7, x8, x9⟩ := celw10 ((HCA.out.off HO12.out (fun h => h)).off HF3.out (fun h => h))
        obtain ⟨y0, y1, y2, y3, y4, y5, y6, y7, y8, y9⟩ := celw10 (HCB.out.off HF3.out (fun h => h))
        have hk : X.k = Y.k := congrArg MD.k HD.out
        have qk : (X.k != Y.k) = false := by rw [hk]; simp
        clear hk
        have HFE : Hid (Off (fun _ => False) wr w3) := (HFA.out.trans HO12.out (fun _ _ h => h)).trans HF3.out (fun _ _ h => h)
        go_wp2_with fail
        go_roundw
        case rel => exact ⟨2, by go_num, by omega, HO.out.trans HFE.out (fun _ _ h => h), HQ.out.off HFE.out (fun _ _ _ h => h)⟩
        case measure => simp [intOf]
       ·go_wp2_with fail
        refine (awake_any _).mono ?_
        rintro e w9 ⟨rfl, o9⟩
        go_wp2_with fail
        go_ret
        exact ⟨rfl, (HO.out).trans o9 (fun _ _ h => h)⟩
end Go.Proofs.YtmbphlkohlggfaaGreat
