/- Items of several texts. -/
import Derived.Test.YtmbphlkohlggfaaCMay20
namespace Go.Proofs.Ytmbphlkohlggfaa
set_option maxRecDepth 100000
open Go.RowKit
structure Light (es : List E) (gs : List G) (ms : List (Int × Int)) : Prop where
 e : es.length ≤ 20
 g : gs.length ≤ 20
 m : ms.length ≤ 20
 ev : ∀ v ∈ es, v.l.length ≤ 20
 gv : ∀ v ∈ gs, v.ds.length ≤ 30
set_option maxHeartbeats 4000000 in
theorem light_any (m : Mg) (es : List E) (gs : List G) (ms : List (Int × Int)) (w : World) (h : MsgAt w m es gs ms) : Calls Try.prog 8 #[(.agg #[.int .i64 m.k, .int .i64 m.fr, .int .i64 m.tn, .int .i64 m.op, .int .i64 m.fo, .string m.key, .int .i64 m.bk, .slice m.ea m.el m.ec, .slice m.da m.dl m.dc, .slice m.ma m.ml m.mc])] w fun e w' => Yes (Light es gs ms) e ∧ Off (fun _ => False) w w' := by
 obtain ⟨P, hP⟩ : ∃ P, P = Light es gs ms := ⟨_, rfl⟩
 have HP : Hid (P ↔ Light es gs ms) := by show _ ↔ _; rw [hP]
 rw [← hP]
 clear hP
 have lne : es.length ≤ 9223372036854775807 := Nat.le_trans h.ens.len h.ens.bound
 have lng : gs.length ≤ 9223372036854775807 := Nat.le_trans h.dgs.len h.dgs.bound
 have lnm : ms.length ≤ 9223372036854775807 := Nat.le_trans h.mbs.len h.mbs.bound
 obtain ⟨k, fr, tn, op, fo, key, bk, ea, el, ec, da, dl, dc, ma, ml, mc⟩ := m
 obtain rfl : el = es.length := h.el
 obtain rfl : dl = gs.length := h.dl
 obtain rfl : ml = ms.length := h.ml
 show Calls Try.prog 8 #[.agg #[.int .i64 k, .int .i64 fr, .int .i64 tn, .int .i64 op, .int .i64 fo, .string key, .int .i64 bk, .slice ea es.length ec, .slice da gs.length dc, .slice ma ms.length mc]] w fun e w' => Yes P e ∧ Off (fun _ => False) w w'
 have C0 := Cel.new w 26 #[.int .i64 k, .int .i64 fr, .int .i64 tn, .int .i64 op, .int .i64 fo, .string key, .int .i64 bk, .slice ea es.length ec, .slice da gs.length dc, .slice ma ms.length mc]
 have O0 : Off (fun _ => False) w (w.alloc (.cells #[.int .i64 k, .int .i64 fr, .int .i64 tn, .int .i64 op, .int .i64 fo, .string key, .int .i64 bk, .slice ea es.length ec, .slice da gs.length dc, .slice ma ms.length mc] 26)) := (Off.refl _ w).alloc _
 have HX : Hid _ := h
 clear h
 go_enter Try.func8, Try.ntmps8
 go_upto_region 1 with fail
 generalize hv : w.alloc (.cells #[.int .i64 k, .int .i64 fr, .int .i64 tn, .int .i64 op, .int .i64 fo, .string key, .int .i64 bk, .slice ea es.length ec, .slice da gs.length dc, .slice ma ms.length mc] 26) = V at C0 O0 ⊢
 generalize hp : w.heap.size = p at C0 ⊢
 clear hv hp
 obtain ⟨x0, x1, x2, x3, x4, x5, x6, x7, x8, x9⟩ := celw10 C0
 have HC : Hid _ := C0
 have HO : Hid _ := O0
 have HM : Hid _ := HX.out.off O0
 clear C0 O0 HX
 by_cases h1 : 20 < es.length
 ·have d : decide ((20 : Int) < (es.length : Int)) = true := decide_eq_true (by omega)
  have d' : decide (20 < es.length) = true := decide_eq_true h1
  have HN : Hid (20 < es.length) := h1
  clear h1
  go_wp2_with fail
  go_ret
  exact ⟨.mk' false (by rw [HP.out]; exact ⟨fun h => (by cases h), fun h => absurd h.e (by have := HN.out; omega)⟩), HO.out⟩
 have dh1 : decide ((20 : Int) < (es.length : Int)) = false := decide_eq_false (by omega)
 have dh1' : decide (20 < es.length) = false := decide_eq_false h1
 have HNh1 : Hid (es.length ≤ 20) := by show _ ≤ _; omega
 clear h1
 by_cases h2 : 20 < gs.length
 ·have d : decide ((20 : Int) < (gs.length : Int)) = true := decide_eq_true (by omega)
  have d' : decide (20 < gs.length) = true := decide_eq_true h2
  have HN : Hid (20 < gs.length) := h2
  clear h2
  go_wp2_with fail
  go_ret
  exact ⟨.mk' false (by rw [HP.out]; exact ⟨fun h => (by cases h), fun h => absurd h.g (by have := HN.out; omega)⟩), HO.out⟩
 have dh2 : decide ((20 : Int) < (gs.length : Int)) = false := decide_eq_false (by omega)
 have dh2' : decide (20 < gs.length) = false := decide_eq_false h2
 have HNh2 : Hid (gs.length ≤ 20) := by show _ ≤ _; omega
 clear h2
 by_cases h3 : 20 < ms.length
 ·have d : decide ((20 : Int) < (ms.length : Int)) = true := decide_eq_true (by omega)
  have d' : decide (20 < ms.length) = true := decide_eq_true h3
  have HN : Hid (20 < ms.length) := h3
  clear h3
  go_wp2_with fail
  go_ret
  exact ⟨.mk' false (by rw [HP.out]; exact ⟨fun h => (by cases h), fun h => absurd h.m (by have := HN.out; omega)⟩), HO.out⟩
 have dh3 : decide ((20 : Int) < (ms.length : Int)) = false := decide_eq_false (by omega)
 have dh3' : decide (20 < ms.length) = false := decide_eq_false h3
 have HNh3 : Hid (ms.length ≤ 20) := by show _ ≤ _; omega
 clear h3
 have HOL : Hid (Off (fun _ => False) V V) := Off.refl _ V
 go_wp2_with fail
 go_loopw [26] (fun y wr => ∃ n : Nat, y = .int .i64 (n : Int) ∧ n ≤ es.length ∧ (∀ i v, i < n → es[i]? = some v → v.l.length ≤ 20) ∧ Off (fun _ => False) V wr) (fun y _ => (es.length - intOf y).toNat)
 case atStart => exact ⟨0, rfl, by omega, fun i v hi => by omega, HOL.out⟩
 case round =>
  clear x0 x1 x2 x3 x4 x5 x6 x7 x8 x9 dh1 dh1' dh2 dh2' dh3 dh3'
  obtain ⟨n, rfl, hn, hg, O⟩ := hrel
  have HG : Hid (∀ i v, i < n → es[i]? = some v → v.l.length ≤ 20) := hg
  have HOR : Hid (Off (fun _ => False) V wr) := O
  clear hg
  by_cases hlt : n < es.length
  ·have g1b : decide ((n : Int) < (es.length : Int)) = true := decide_eq_true (by omega)
   have g2b : decide (n < es.length) = true := decide_eq_true hlt
   obtain ⟨v, hv⟩ : ∃ v, es[n]? = some v := ⟨_, List.getElem?_eq_getElem hlt⟩
   have hA := (HM.out.off O).ens.at_ n v hv
   obtain ⟨bx, off, rfl, k10, kr⟩ := hA
   have hlv : v.l.length ≤ 9223372036854775807 := Nat.le_trans kr.len kr.bound
   obtain ⟨k0, k1, k2, k3, k4, k5, k6, k7, k8, k9⟩ := ent10 k10
   clear k10 kr
   have hix := idx_ents hlt
   have HV : Hid _ := hv
   clear hv O
   go_upto_region 6 with fail
   have CN := Cel.new wr 46 #[.string v.key, .int .i64 (v.f 0), .int .i64 (v.f 1), .int .i64 (v.f 2), .int .i64 (v.f 3), .int .i64 (v.f 4), .int .i64 (v.f 5), .int .i64 (v.f 6), .int .i64 (v.f 7), .slice v.a v.l.length v.cap]
   have ON : Off (fun _ => False) wr (wr.alloc (.cells #[.string v.key, .int .i64 (v.f 0), .int .i64 (v.f 1), .int .i64 (v.f 2), .int .i64 (v.f 3), .int .i64 (v.f 4), .int .i64 (v.f 5), .int .i64 (v.f 6), .int .i64 (v.f 7), .slice v.a v.l.length v.cap] 46)) := (Off.refl _ wr).alloc _
   generalize hvv : wr.alloc (.cells #[.string v.key, .int .i64 (v.f 0), .int .i64 (v.f 1), .int .i64 (v.f 2), .int .i64 (v.f 3), .int .i64 (v.f 4), .int .i64 (v.f 5), .int .i64 (v.f 6), .int .i64 (v.f 7), .slice v.a v.l.length v.cap] 46) = V2 at CN ON ⊢
   generalize hpp : wr.heap.size = pp at CN ⊢
   clear hvv hpp k0 k1 k2 k3 k4 k5 k6 k7 k8 k9 hix
   have HO2 : Hid _ := HOR.out.trans ON (fun _ _ h => h)
   have z9 := CN.cell 9
   simp at z9
   clear CN ON
   by_cases hb : 20 < v.l.length
   ·have d : decide ((20 : Int) < (v.l.length : Int)) = true := decide_eq_true (by omega)
    have d' : decide (20 < v.l.length) = true := decide_eq_true hb
    have HN : Hid (20 < v.l.length) := hb
    clear hb
    go_wp2_with fail
    go_ret
    exact ⟨.mk' false (by rw [HP.out]; exact ⟨fun h => (by cases h), fun h => absurd (h.ev v (List.mem_of_getElem? HV.out)) (by have := HN.out; omega)⟩), HO.out.trans HO2.out (fun _ _ h => h)⟩
   ·have d : decide ((20 : Int) < (v.l.length : Int)) = false := decide_eq_false (by omega)
    have d' : decide (20 < v.l.length) = false := decide_eq_false hb
    have HN : Hid (v.l.length ≤ 20) := by show _ ≤ _; omega
    clear hb
    go_wp2_with fail
    go_roundw
    case rel =>
     refine ⟨n + 1, by go_num, by omega, fun i u hi hu => ?_, HO2.out⟩
     rcases Nat.lt_or_ge i n with h | h
     ·exact HG.out i u h hu
     ·obtain rfl : i = n := by omega
      rw [HV.out] at hu
      cases hu
      exact HN.out
    case measure => simp [intOf]; omega
  ·obtain rfl : n = es.length := by omega
   have g1b : decide ((es.length : Int) < (es.length : Int)) = false := decide_eq_false (by omega)
   have g2b : decide (es.length < es.length) = false := decide_eq_false (by omega)
   have HALL0 : Hid (∀ v ∈ es, v.l.length ≤ 20) := fun v hv => by
    obtain ⟨i, hi⟩ := List.getElem?_of_mem hv
    have hlt : i < es.length := by
     obtain ⟨h, -⟩ := List.getElem?_eq_some_iff.1 hi
     exact h
    exact HG.out i v hlt hi
   have HOL : Hid _ := HOR.out
   obtain ⟨x0, x1, x2, x3, x4, x5, x6, x7, x8, x9⟩ := celw10 (HC.out.off O (fun h => h))
   clear HG HOR O
   go_wp2_with fail
   go_loopw [39] (fun y wr => ∃ n : Nat, y = .int .i64 (n : Int) ∧ n ≤ gs.length ∧ (∀ i v, i < n → gs[i]? = some v → v.ds.length ≤ 30) ∧ Off (fun _ => False) V wr) (fun y _ => (gs.length - intOf y).toNat)
   case atStart => exact ⟨0, rfl, by omega, fun i v hi => by omega, HOL.out⟩
   case round =>
    clear x0 x1 x2 x3 x4 x5 x6 x7 x8 x9
    obtain ⟨n, rfl, hn, hg, O⟩ := hrel
    have HG : Hid (∀ i v, i < n → gs[i]? = some v → v.ds.length ≤ 30) := hg
    have HOR : Hid (Off (fun _ => False) V wr) := O
    clear hg
    by_cases hlt : n < gs.length
    ·have g1b : decide ((n : Int) < (gs.length : Int)) = true := decide_eq_true (by omega)
     have g2b : decide (n < gs.length) = true := decide_eq_true hlt
     obtain ⟨v, hv⟩ : ∃ v, gs[n]? = some v := ⟨_, List.getElem?_eq_getElem hlt⟩
     have hA := (HM.out.off O).dgs.at_ n v hv
     obtain ⟨bx, off, rfl, k10, kr⟩ := hA
     have hlv : v.ds.length ≤ 9223372036854775807 := Nat.le_trans kr.len kr.bound
     obtain ⟨k0, k1, k2, k3, k4, k5, k6, k7, k8, k9⟩ := dg10 k10
     clear k10 kr
     have hix := idx_dgs hlt
     have HV : Hid _ := hv
     clear hv O
     go_upto_region 12 with fail
     have CN := Cel.new wr 53 #[.string v.key, .int .i64 (v.f 0), .int .i64 (v.f 1), .int .i64 (v.f 2), .int .i64 (v.f 3), .int .i64 (v.f 4), .int .i64 (v.f 5), .int .i64 (v.f 6), .int .i64 (v.f 7), .slice v.a v.ds.length v.cap]
     have ON : Off (fun _ => False) wr (wr.alloc (.cells #[.string v.key, .int .i64 (v.f 0), .int .i64 (v.f 1), .int .i64 (v.f 2), .int .i64 (v.f 3), .int .i64 (v.f 4), .int .i64 (v.f 5), .int .i64 (v.f 6), .int .i64 (v.f 7), .slice v.a v.ds.length v.cap] 53)) := (Off.refl _ wr).alloc _
     generalize hvv : wr.alloc (.cells #[.string v.key, .int .i64 (v.f 0), .int .i64 (v.f 1), .int .i64 (v.f 2), .int .i64 (v.f 3), .int .i64 (v.f 4), .int .i64 (v.f 5), .int .i64 (v.f 6), .int .i64 (v.f 7), .slice v.a v.ds.length v.cap] 53) = V2 at CN ON ⊢
     generalize hpp : wr.heap.size = pp at CN ⊢
     clear hvv hpp k0 k1 k2 k3 k4 k5 k6 k7 k8 k9 hix
     have HO2 : Hid _ := HOR.out.trans ON (fun _ _ h => h)
     have z9 := CN.cell 9
     simp at z9
     clear CN ON
     by_cases hb : 30 < v.ds.length
     ·have d : decide ((30 : Int) < (v.ds.length : Int)) = true := decide_eq_true (by omega)
      have d' : decide (30 < v.ds.length) = true := decide_eq_true hb
      have HN : Hid (30 < v.ds.length) := hb
      clear hb
      go_wp2_with fail
      go_ret
      exact ⟨.mk' false (by rw [HP.out]; exact ⟨fun h => (by cases h), fun h => absurd (h.gv v (List.mem_of_getElem? HV.out)) (by have := HN.out; omega)⟩), HO.out.trans HO2.out (fun _ _ h => h)⟩
     ·have d : decide ((30 : Int) < (v.ds.length : Int)) = false := decide_eq_false (by omega)
      have d' : decide (30 < v.ds.length) = false := decide_eq_false hb
      have HN : Hid (v.ds.length ≤ 30) := by show _ ≤ _; omega
      clear hb
      go_wp2_with fail
      go_roundw
      case rel =>
       refine ⟨n + 1, by go_num, by omega, fun i u hi hu => ?_, HO2.out⟩
       rcases Nat.lt_or_ge i n with h | h
       ·exact HG.out i u h hu
       ·obtain rfl : i = n := by omega
        rw [HV.out] at hu
        cases hu
        exact HN.out
      case measure => simp [intOf]; omega
    ·obtain rfl : n = gs.length := by omega
     have g1b : decide ((gs.length : Int) < (gs.length : Int)) = false := decide_eq_false (by omega)
     have g2b : decide (gs.length < gs.length) = false := decide_eq_false (by omega)
     have HALL1 : Hid (∀ v ∈ gs, v.ds.length ≤ 30) := fun v hv => by
      obtain ⟨i, hi⟩ := List.getElem?_of_mem hv
      have hlt : i < gs.length := by
       obtain ⟨h, -⟩ := List.getElem?_eq_some_iff.1 hi
       exact h
      exact HG.out i v hlt hi
     have HOL : Hid _ := HOR.out
     obtain ⟨x0, x1, x2, x3, x4, x5, x6, x7, x8, x9⟩ := celw10 (HC.out.off O (fun h => h))
     clear HG HOR O
     go_wp2_with fail
     go_ret
     exact ⟨.mk' true (by rw [HP.out]; exact ⟨fun _ => ⟨HNh1.out, HNh2.out, HNh3.out, HALL0.out, HALL1.out⟩, fun _ => rfl⟩), HO.out.trans HOL.out (fun _ _ h => h)⟩
end Go.Proofs.Ytmbphlkohlggfaa
