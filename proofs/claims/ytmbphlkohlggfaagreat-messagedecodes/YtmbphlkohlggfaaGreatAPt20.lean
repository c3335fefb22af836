/- Items of several texts. -/
import Derived.Deep.CutRange
import Derived.Test.YtmbphlkohlggfaaGreatAQo18
import Derived.Test.YtmbphlkohlggfaaGreatADmy
namespace Go.Proofs.YtmbphlkohlggfaaGreat
set_option maxRecDepth 100000
open Go.RowKit
def ndB (n : Int) : Bool := decide (0 ≤ n) && decide (n < 8)
theorem xisNode_any (n : Int) (w : World) : Calls Tryz.prog 56 #[.int .i64 n] w fun e w' => e = .returned (.bool (ndB n)) ∧ w' = w := by
 by_cases h1 : 0 ≤ n
 ·have e1 : decide (0 ≤ n) = true := decide_eq_true h1
  have HE : Hid (ndB n = decide (n < 8)) := by show _ = _; unfold ndB; rw [e1]; rfl
  go_enter Tryz.func56, Tryz.ntmps56
  go_wp2_with fail
  go_ret
  exact ⟨by rw [HE.out]; rfl, rfl⟩
 ·have e1 : decide (0 ≤ n) = false := decide_eq_false h1
  have HE : Hid (ndB n = false) := by show _ = _; unfold ndB; rw [e1]; rfl
  go_enter Tryz.func56, Tryz.ntmps56
  go_wp2_with fail
  go_ret
  exact ⟨by rw [HE.out]; rfl, rfl⟩
def eLo (k : Int) : Int := if k = 3 then 1 else 0
def eHi (k : Int) : Int := if k = 3 ∨ k = 2 ∨ k = 5 then 1 else 256
theorem xentriesOf_any (k : Int) (w : World) : Calls Tryz.prog 58 #[.int .i64 k] w fun e w' => e = .returned (.tuple #[.int .i64 (eLo k), .int .i64 (eHi k)]) ∧ w' = w := by
 by_cases h3 : k = 3
 ·subst h3
  go_enter Tryz.func58, Tryz.ntmps58
  go_wp2_with fail
  refine bodyPost_ret (results_tmp2 rfl _ _ _) rfl ?_
  exact ⟨rfl, rfl⟩
 ·have d3 : (k == (3 : Int)) = false := by rw [beq_eq_false_iff_ne]; exact h3
  by_cases h2 : k = 2
  ·subst h2
   go_enter Tryz.func58, Tryz.ntmps58
   go_wp2_with fail
   refine bodyPost_ret (results_tmp2 rfl _ _ _) rfl ?_
   exact ⟨rfl, rfl⟩
  ·have d2 : (k == (2 : Int)) = false := by rw [beq_eq_false_iff_ne]; exact h2
   by_cases h5 : k = 5
   ·subst h5
    go_enter Tryz.func58, Tryz.ntmps58
    go_wp2_with fail
    refine bodyPost_ret (results_tmp2 rfl _ _ _) rfl ?_
    exact ⟨rfl, rfl⟩
   ·have d5 : (k == (5 : Int)) = false := by rw [beq_eq_false_iff_ne]; exact h5
    have HL : Hid (eLo k = 0) := by show _ = _; unfold eLo; rw [if_neg h3]
    have HI : Hid (eHi k = 256) := by show _ = _; unfold eHi; rw [if_neg (by omega)]
    go_enter Tryz.func58, Tryz.ntmps58
    go_wp2_with fail
    refine bodyPost_ret (results_tmp2 rfl _ _ _) rfl ?_
    exact ⟨by rw [HL.out, HI.out]; rfl, rfl⟩
theorem results_parts {fn : Func} {p : Tmp} (h : fn.results = #[.cell p 99]) {tmps : Array Value} {w : World} {b : Nat} {x0 x1 x2 x3 x4 x5 x6 : Bool} (hp : tmps.getD p undef = .pointer (some ⟨b, 0, none⟩)) (hc : Cel b 99 #[.bool x0, .bool x1, .bool x2, .bool x3, .bool x4, .bool x5, .bool x6] w) :
  (results fn tmps).run Tryz.prog w = .ok (.agg #[.bool x0, .bool x1, .bool x2, .bool x3, .bool x4, .bool x5, .bool x6]) w := by
 obtain ⟨d, hd⟩ : ∃ d, Tryz.prog.underlying 99 = some (.struct d) := ⟨_, Tryz.underlying99⟩
 exact results_cell_row h tmps w b 99 _ (0, 0) (.struct d) hp hc.is hd rfl (by kernel_rfl)
set_option maxHeartbeats 2000000 in
theorem xpartsOf_any (k : Int) (w : World) : Calls Tryz.prog 46 #[.int .i64 k] w fun e w' => e = .returned (.agg #[.bool (msk k).op, .bool (msk k).fo, .bool (msk k).key, .bool (msk k).bk, .bool (msk k).es, .bool (msk k).gs, .bool (msk k).ms]) ∧ Off (fun _ => False) w w' := by
 by_cases h1 : k = 1
 ·subst h1
  have C0 := Cel.new w 99 #[.bool true, .bool false, .bool false, .bool false, .bool true, .bool false, .bool false]
  go_enter Tryz.func46, Tryz.ntmps46
  go_wp2_with fail
  refine bodyPost_ret (results_parts rfl rfl C0) rfl ?_
  exact ⟨rfl, (Off.refl _ w).alloc _⟩
 ·have d1 : (k == (1 : Int)) = false := by rw [beq_eq_false_iff_ne]; exact h1
  by_cases h2 : k = 2
  ·subst h2
   have C0 := Cel.new w 99 #[.bool true, .bool true, .bool true, .bool false, .bool true, .bool false, .bool false]
   go_enter Tryz.func46, Tryz.ntmps46
   go_wp2_with fail
   refine bodyPost_ret (results_parts rfl rfl C0) rfl ?_
   exact ⟨rfl, (Off.refl _ w).alloc _⟩
  ·have d2 : (k == (2 : Int)) = false := by rw [beq_eq_false_iff_ne]; exact h2
   by_cases h3 : k = 3
   ·subst h3
    have C0 := Cel.new w 99 #[.bool true, .bool true, .bool false, .bool false, .bool true, .bool false, .bool false]
    go_enter Tryz.func46, Tryz.ntmps46
    go_wp2_with fail
    refine bodyPost_ret (results_parts rfl rfl C0) rfl ?_
    exact ⟨rfl, (Off.refl _ w).alloc _⟩
   ·have d3 : (k == (3 : Int)) = false := by rw [beq_eq_false_iff_ne]; exact h3
    by_cases h4 : k = 4
    ·subst h4
     have C0 := Cel.new w 99 #[.bool true, .bool false, .bool true, .bool false, .bool false, .bool false, .bool false]
     go_enter Tryz.func46, Tryz.ntmps46
     go_wp2_with fail
     refine bodyPost_ret (results_parts rfl rfl C0) rfl ?_
     exact ⟨rfl, (Off.refl _ w).alloc _⟩
    ·have d4 : (k == (4 : Int)) = false := by rw [beq_eq_false_iff_ne]; exact h4
     by_cases h5 : k = 5
     ·subst h5
      have C0 := Cel.new w 99 #[.bool true, .bool false, .bool false, .bool false, .bool true, .bool false, .bool false]
      go_enter Tryz.func46, Tryz.ntmps46
      go_wp2_with fail
      refine bodyPost_ret (results_parts rfl rfl C0) rfl ?_
      exact ⟨rfl, (Off.refl _ w).alloc _⟩
     ·have d5 : (k == (5 : Int)) = false := by rw [beq_eq_false_iff_ne]; exact h5
      by_cases h6 : k = 6
      ·subst h6
       have C0 := Cel.new w 99 #[.bool false, .bool false, .bool false, .bool true, .bool false, .bool true, .bool false]
       go_enter Tryz.func46, Tryz.ntmps46
       go_wp2_with fail
       refine bodyPost_ret (results_parts rfl rfl C0) rfl ?_
       exact ⟨rfl, (Off.refl _ w).alloc _⟩
      ·have d6 : (k == (6 : Int)) = false := by rw [beq_eq_false_iff_ne]; exact h6
       by_cases h7 : k = 7
       ·subst h7
        have C0 := Cel.new w 99 #[.bool false, .bool false, .bool false, .bool true, .bool true, .bool true, .bool false]
        go_enter Tryz.func46, Tryz.ntmps46
        go_wp2_with fail
        refine bodyPost_ret (results_parts rfl rfl C0) rfl ?_
        exact ⟨rfl, (Off.refl _ w).alloc _⟩
       ·have d7 : (k == (7 : Int)) = false := by rw [beq_eq_false_iff_ne]; exact h7
        by_cases h8 : k = 8
        ·subst h8
         have C0 := Cel.new w 99 #[.bool false, .bool false, .bool false, .bool false, .bool false, .bool false, .bool true]
         go_enter Tryz.func46, Tryz.ntmps46
         go_wp2_with fail
         refine bodyPost_ret (results_parts rfl rfl C0) rfl ?_
         exact ⟨rfl, (Off.refl _ w).alloc _⟩
        ·have d8 : (k == (8 : Int)) = false := by rw [beq_eq_false_iff_ne]; exact h8
         by_cases h9 : k = 9
         ·subst h9
          have C0 := Cel.new w 99 #[.bool false, .bool false, .bool false, .bool false, .bool false, .bool false, .bool true]
          go_enter Tryz.func46, Tryz.ntmps46
          go_wp2_with fail
          refine bodyPost_ret (results_parts rfl rfl C0) rfl ?_
          exact ⟨rfl, (Off.refl _ w).alloc _⟩
         ·have d9 : (k == (9 : Int)) = false := by rw [beq_eq_false_iff_ne]; exact h9
          have HK : Hid (msk k = ⟨false, false, false, false, false, false, false⟩) := by
           show msk k = _
           unfold msk
           rw [if_neg h1, if_neg h2, if_neg h3, if_neg h4, if_neg h5, if_neg h6, if_neg h7, if_neg h8, if_neg h9]
          have C0 := Cel.new w 99 #[.bool false, .bool false, .bool false, .bool false, .bool false, .bool false, .bool false]
          go_enter Tryz.func46, Tryz.ntmps46
          go_wp2_with fail
          refine bodyPost_ret (results_parts rfl rfl C0) rfl ?_
          exact ⟨by rw [HK.out], (Off.refl _ w).alloc _⟩
set_option maxHeartbeats 2000000 in
theorem xmayKey_any (m : Mg) (w : World) : Calls Tryz.prog 57 #[(.agg #[.int .i64 m.k, .int .i64 m.fr, .int .i64 m.tn, .int .i64 m.op, .int .i64 m.fo, .string m.key, .int .i64 m.bk, .slice m.ea m.el m.ec, .slice m.da m.dl m.dc, .slice m.ma m.ml m.mc])] w fun e w' => e = .returned (.bool (cond (decide (m.k = 4)) (keyB m.key) (decide (m.key.size ≤ 32)))) ∧ Off (fun _ => False) w w' := by
 have C0 := Cel.new w 26 #[.int .i64 m.k, .int .i64 m.fr, .int .i64 m.tn, .int .i64 m.op, .int .i64 m.fo, .string m.key, .int .i64 m.bk, .slice m.ea m.el m.ec, .slice m.da m.dl m.dc, .slice m.ma m.ml m.mc]
 have O0 : Off (fun _ => False) w (w.alloc (.cells #[.int .i64 m.k, .int .i64 m.fr, .int .i64 m.tn, .int .i64 m.op, .int .i64 m.fo, .string m.key, .int .i64 m.bk, .slice m.ea m.el m.ec, .slice m.da m.dl m.dc, .slice m.ma m.ml m.mc] 26)) := (Off.refl _ w).alloc _
 by_cases h4 : m.k = 4
 ·have e1 : (m.k == (4 : Int)) = true := by rw [beq_iff_eq]; exact h4
  have HD : Hid (decide (m.k = 4) = true) := decide_eq_true h4
  clear h4
  go_enter Tryz.func57, Tryz.ntmps57
  go_upto_region 1 with fail
  generalize w.alloc (.cells #[.int .i64 m.k, .int .i64 m.fr, .int .i64 m.tn, .int .i64 m.op, .int .i64 m.fo, .string m.key, .int .i64 m.bk, .slice m.ea m.el m.ec, .slice m.da m.dl m.dc, .slice m.ma m.ml m.mc] 26) = W at C0 O0 ⊢
  obtain ⟨x0, x1, x2, x3, x4, x5, x6, x7, x8, x9⟩ := celw10 C0
  go_wp2_with fail
  refine (kmay_any m.key _).mono ?_
  rintro e w' ⟨rfl, hw⟩
  rw [hw]
  clear hw w'
  go_wp2_with fail
  go_ret
  exact ⟨by rw [HD.out]; rfl, O0⟩
 ·have e1 : (m.k == (4 : Int)) = false := by rw [beq_eq_false_iff_ne]; exact h4
  have HD : Hid (decide (m.k = 4) = false) := decide_eq_false h4
  have hsz : decide ((m.key.size : Int) ≤ 32) = decide (m.key.size ≤ 32) := by rw [Bool.eq_iff_iff]; simp only [decide_eq_true_eq]; omega
  clear h4
  go_enter Tryz.func57, Tryz.ntmps57
  go_upto_region 1 with fail
  generalize w.alloc (.cells #[.int .i64 m.k, .int .i64 m.fr, .int .i64 m.tn, .int .i64 m.op, .int .i64 m.fo, .string m.key, .int .i64 m.bk, .slice m.ea m.el m.ec, .slice m.da m.dl m.dc, .slice m.ma m.ml m.mc] 26) = W at C0 O0 ⊢
  obtain ⟨x0, x1, x2, x3, x4, x5, x6, x7, x8, x9⟩ := celw10 C0
  go_wp2_with fail
  go_ret
  rw [HD.out]
  exact ⟨rfl, O0⟩
set_option maxHeartbeats 4000000 in
theorem xbare_any (m : Mg) (w : World) : Calls Tryz.prog 55 #[(.agg #[.int .i64 m.k, .int .i64 m.fr, .int .i64 m.tn, .int .i64 m.op, .int .i64 m.fo, .string m.key, .int .i64 m.bk, .slice m.ea m.el m.ec, .slice m.da m.dl m.dc, .slice m.ma m.ml m.mc])] w fun e w' => e = .returned ((.agg #[.int .i64 (plM (msk m.k) m).k, .int .i64 (plM (msk m.k) m).fr, .int .i64 (plM (msk m.k) m).tn, .int .i64 (plM (msk m.k) m).op, .int .i64 (plM (msk m.k) m).fo, .string (plM (msk m.k) m).key, .int .i64 (plM (msk m.k) m).bk, .slice (plM (msk m.k) m).ea (plM (msk m.k) m).el (plM (msk m.k) m).ec, .slice (plM (msk m.k) m).da (plM (msk m.k) m).dl (plM (msk m.k) m).dc, .slice (plM (msk m.k) m).ma (plM (msk m.k) m).ml (plM (msk m.k) m).mc])) ∧ Off (fun _ => False) w w' := by
 have HH : Hid (∀ W, Calls Tryz.prog 46 #[.int .i64 m.k] W fun e w' => e = .returned (.agg #[.bool (msk m.k).op, .bool (msk m.k).fo, .bool (msk m.k).key, .bool (msk m.k).bk, .bool (msk m.k).es, .bool (msk m.k).gs, .bool (msk m.k).ms]) ∧ Off (fun _ => False) W w') := fun W => xpartsOf_any m.k W
 generalize msk m.k = s at HH ⊢
 obtain ⟨so, sf, sk, sb, se, sg, sn⟩ := s
 show Calls Tryz.prog 55 #[(.agg #[.int .i64 m.k, .int .i64 m.fr, .int .i64 m.tn, .int .i64 m.op, .int .i64 m.fo, .string m.key, .int .i64 m.bk, .slice m.ea m.el m.ec, .slice m.da m.dl m.dc, .slice m.ma m.ml m.mc])] w fun e w' => e = .returned (.agg #[.int .i64 m.k, .int .i64 m.fr, .int .i64 m.tn, .int .i64 (cond so m.op 0), .int .i64 (cond sf m.fo 0), .string (cond sk m.key ⟨#[]⟩), .int .i64 (cond sb m.bk 0), .slice (cond se m.ea none) (cond se m.el 0) (cond se m.ec 0), .slice (cond sg m.da none) (cond sg m.dl 0) (cond sg m.dc 0), .slice (cond sn m.ma none) (cond sn m.ml 0) (cond sn m.mc 0)]) ∧ Off (fun _ => False) w w'
 obtain ⟨W, hW⟩ : ∃ W, W = (w.alloc (.cells #[.int .i64 m.k, .int .i64 m.fr, .int .i64 m.tn, .int .i64 m.op, .int .i64 m.fo, .string m.key, .int .i64 m.bk, .slice m.ea m.el m.ec, .slice m.da m.dl m.dc, .slice m.ma m.ml m.mc] 26)).alloc (.cells #[.int .i64 0, .int .i64 0, .int .i64 0, .int .i64 0, .int .i64 0, .string ⟨#[]⟩, .int .i64 0, .slice none 0 0, .slice none 0 0, .slice none 0 0] 26) := ⟨_, rfl⟩
 have O : Off (fun _ => False) w W := by rw [hW]; exact ((Off.refl _ w).alloc _).alloc _
 have C0 : Cel w.heap.size 26 #[.int .i64 m.k, .int .i64 m.fr, .int .i64 m.tn, .int .i64 m.op, .int .i64 m.fo, .string m.key, .int .i64 m.bk, .slice m.ea m.el m.ec, .slice m.da m.dl m.dc, .slice m.ma m.ml m.mc] W := by rw [hW]; exact (Cel.new w _ _).alloc _
 have C1 : Cel (w.heap.size + 1) 26 #[.int .i64 0, .int .i64 0, .int .i64 0, .int .i64 0, .int .i64 0, .string ⟨#[]⟩, .int .i64 0, .slice none 0 0, .slice none 0 0, .slice none 0 0] W := by
  rw [hW]
  have := Cel.new (w.alloc (.cells #[.int .i64 m.k, .int .i64 m.fr, .int .i64 m.tn, .int .i64 m.op, .int .i64 m.fo, .string m.key, .int .i64 m.bk, .slice m.ea m.el m.ec, .slice m.da m.dl m.dc, .slice m.ma m.ml m.mc] 26)) 26 #[.int .i64 0, .int .i64 0, .int .i64 0, .int .i64 0, .int .i64 0, .string ⟨#[]⟩, .int .i64 0, .slice none 0 0, .slice none 0 0, .slice none 0 0]
  rwa [World.size_alloc] at this
 go_enter Tryz.func55, Tryz.ntmps55
 go_upto_region 1 with fail
 rw [← hW]
 have HO : Hid _ := O
 have HC0 : Hid _ := C0
 have HC1 : Hid _ := C1
 clear hW O C0 C1
 obtain ⟨b, hb⟩ : ∃ b, b = w.heap.size := ⟨_, rfl⟩
 rw [← hb] at HC0 HC1 ⊢
 have HB : Hid (b = w.heap.size) := hb
 have HBW : Hid (b = w.heap.size) := hb
 clear hb
 obtain ⟨x0, x1, x2, x3, x4, x5, x6, x7, x8, x9⟩ := celw10 HC0.out
 go_wp2_with fail
 refine (HH.out _).mono ?_
 rintro e w1 ⟨rfl, o1⟩
 obtain ⟨x0, x1, x2, x3, x4, x5, x6, x7, x8, x9⟩ := celw10 (HC0.out.off o1 (fun h => h))
 have HO1 : Hid _ := o1
 have HC01 : Hid _ := HC0.out.off o1 (fun h => h)
 have HC11 : Hid _ := HC1.out.off o1 (fun h => h)
 clear o1
 go_upto_region 2 with fail
 have O2 : Off (fun _ => False) w1 (w1.alloc (.cells #[.bool so, .bool sf, .bool sk, .bool sb, .bool se, .bool sg, .bool sn] 99)) := (Off.refl _ w1).alloc _
 have P2 : Cel w1.heap.size 99 #[.bool so, .bool sf, .bool sk, .bool sb, .bool se, .bool sg, .bool sn] (w1.alloc (.cells #[.bool so, .bool sf, .bool sk, .bool sb, .bool se, .bool sg, .bool sn] 99)) := Cel.new w1 _ _
 have hlt := HC11.out.lt
 generalize hv : w1.alloc (.cells #[.bool so, .bool sf, .bool sk, .bool sb, .bool se, .bool sg, .bool sn] 99) = w2 at O2 P2 ⊢
 obtain ⟨p, hp⟩ : ∃ p, p = w1.heap.size := ⟨_, rfl⟩
 rw [← hp] at P2 ⊢
 have HBP : Hid (b + 1 < p) := by show _ < _; omega
 clear x0 x1 x2 x3 x4 x5 x6 x7 x8 x9 hv hp hlt
 obtain ⟨x0, x1, x2, x3, x4, x5, x6, x7, x8, x9⟩ := celw10 (HC01.out.off O2 (fun h => h))
 have HC02 : Hid _ := HC01.out.off O2 (fun h => h)
 have HC12 : Hid _ := HC11.out.off O2 (fun h => h)
 have HP2 : Hid _ := P2
 have HO2 : Hid (Off (fun _ => False) w w2) := (HO.out.trans HO1.out (fun _ _ h => h)).trans O2 (fun _ _ h => h)
 clear O2 P2 HO HO1 HC0 HC1 HC01 HC11
 go_upto_region 3 with fail
 have O3 : Off (fun _ => False) w2 (w2.alloc (.cells #[.int .i64 m.k, .int .i64 m.fr, .int .i64 m.tn, .int .i64 0, .int .i64 0, .string ⟨#[]⟩, .int .i64 0, .slice none 0 0, .slice none 0 0, .slice none 0 0] 26)) := (Off.refl _ w2).alloc _
 have Q3 : Cel w2.heap.size 26 #[.int .i64 m.k, .int .i64 m.fr, .int .i64 m.tn, .int .i64 0, .int .i64 0, .string ⟨#[]⟩, .int .i64 0, .slice none 0 0, .slice none 0 0, .slice none 0 0] (w2.alloc (.cells #[.int .i64 m.k, .int .i64 m.fr, .int .i64 m.tn, .int .i64 0, .int .i64 0, .string ⟨#[]⟩, .int .i64 0, .slice none 0 0, .slice none 0 0, .slice none 0 0] 26)) := Cel.new w2 _ _
 have hlt := HP2.out.lt
 generalize hv : w2.alloc (.cells #[.int .i64 m.k, .int .i64 m.fr, .int .i64 m.tn, .int .i64 0, .int .i64 0, .string ⟨#[]⟩, .int .i64 0, .slice none 0 0, .slice none 0 0, .slice none 0 0] 26) = V at O3 Q3 ⊢
 obtain ⟨q, hq⟩ : ∃ q, q = w2.heap.size := ⟨_, rfl⟩
 rw [← hq] at Q3 ⊢
 have HPQ : Hid (p < q) := by show _ < _; omega
 clear x0 x1 x2 x3 x4 x5 x6 x7 x8 x9 hv hq hlt
 have HM : Hid (Cel b 26 #[.int .i64 m.k, .int .i64 m.fr, .int .i64 m.tn, .int .i64 m.op, .int .i64 m.fo, .string m.key, .int .i64 m.bk, .slice m.ea m.el m.ec, .slice m.da m.dl m.dc, .slice m.ma m.ml m.mc] V) := HC02.out.off O3 (fun h => h)
 have HZ : Hid (Cel (b + 1) 26 #[.int .i64 0, .int .i64 0, .int .i64 0, .int .i64 0, .int .i64 0, .string ⟨#[]⟩, .int .i64 0, .slice none 0 0, .slice none 0 0, .slice none 0 0] V) := HC12.out.off O3 (fun h => h)
 have HPA : Hid (Cel p 99 #[.bool so, .bool sf, .bool sk, .bool sb, .bool se, .bool sg, .bool sn] V) := HP2.out.off O3 (fun h => h)
 have HO3 : Hid (Off (fun _ => False) w V) := HO2.out.trans O3 (fun _ _ h => h)
 have HNE : Hid (b ≠ q ∧ b + 1 ≠ q ∧ p ≠ q ∧ w.heap.size ≤ q) := ⟨by have := HBP.out; have := HPQ.out; omega, by have := HBP.out; have := HPQ.out; omega, by have := HPQ.out; omega, by have := HBP.out; have := HPQ.out; have := HB.out; omega⟩
 have HQ : Hid _ := Q3
 have HOQ : Hid (Off (fun c => c = q) V V) := Off.refl _ V
 clear O3 Q3 HC02 HC12 HP2 HO2 HBP HPQ HB
 have p0 := (HPA.out.off HOQ.out (fun e => HNE.out.2.2.1 e)).cell 0
 simp at p0
 go_upto_if 16 with fail
 go_cut [] from 17 to 19 (fun wx => Hid (Cel q 26 #[.int .i64 m.k, .int .i64 m.fr, .int .i64 m.tn, .int .i64 (cond so m.op 0), .int .i64 0, .string ⟨#[]⟩, .int .i64 0, .slice none 0 0, .slice none 0 0, .slice none 0 0] wx) ∧ Hid (Off (fun c => c = q) V wx))
 case first =>
  have m0 := (HM.out.off HOQ.out (fun e => HNE.out.1 e)).cell 3
  simp at m0
  have o0 := HQ.out.cell 3
  simp at o0
  have fz := HQ.out.free
  cases so
  ·go_wp2_with fail
   go_meet
   case rel => exact ⟨HQ.out, HOQ.out⟩
  ·go_wp2_with fail
   go_meet
   case rel => exact ⟨HQ.out.set 3 _, HOQ.out.setCell (p := ⟨q, 3, none⟩) (.inl rfl) _⟩
 case rest =>
  clear p0 HQ HOQ
  obtain ⟨HQ, HOQ⟩ := hcut
  have p1 := (HPA.out.off HOQ.out (fun e => HNE.out.2.2.1 e)).cell 1
  simp at p1
  go_upto_if 21 with fail
  go_cut [] from 22 to 24 (fun wx => Hid (Cel q 26 #[.int .i64 m.k, .int .i64 m.fr, .int .i64 m.tn, .int .i64 (cond so m.op 0), .int .i64 (cond sf m.fo 0), .string ⟨#[]⟩, .int .i64 0, .slice none 0 0, .slice none 0 0, .slice none 0 0] wx) ∧ Hid (Off (fun c => c = q) V wx))
  case first =>
   have m1 := (HM.out.off HOQ.out (fun e => HNE.out.1 e)).cell 4
   simp at m1
   have o1 := HQ.out.cell 4
   simp at o1
   have fz := HQ.out.free
   cases sf
   ·go_wp2_with fail
    go_meet
    case rel => exact ⟨HQ.out, HOQ.out⟩
   ·go_wp2_with fail
    go_meet
    case rel => exact ⟨HQ.out.set 4 _, HOQ.out.setCell (p := ⟨q, 4, none⟩) (.inl rfl) _⟩
  case rest =>
   clear p1 HQ HOQ
   obtain ⟨HQ, HOQ⟩ := hcut
   have p2 := (HPA.out.off HOQ.out (fun e => HNE.out.2.2.1 e)).cell 2
   simp at p2
   go_upto_if 26 with fail
   go_cut [] from 27 to 29 (fun wx => Hid (Cel q 26 #[.int .i64 m.k, .int .i64 m.fr, .int .i64 m.tn, .int .i64 (cond so m.op 0), .int .i64 (cond sf m.fo 0), .string (cond sk m.key ⟨#[]⟩), .int .i64 0, .slice none 0 0, .slice none 0 0, .slice none 0 0] wx) ∧ Hid (Off (fun c => c = q) V wx))
   case first =>
    have m2 := (HM.out.off HOQ.out (fun e => HNE.out.1 e)).cell 5
    simp at m2
    have o2 := HQ.out.cell 5
    simp at o2
    have fz := HQ.out.free
    cases sk
    ·go_wp2_with fail
     go_meet
     case rel => exact ⟨HQ.out, HOQ.out⟩
    ·go_wp2_with fail
     go_meet
     case rel => exact ⟨HQ.out.set 5 _, HOQ.out.setCell (p := ⟨q, 5, none⟩) (.inl rfl) _⟩
   case rest =>
    clear p2 HQ HOQ
    obtain ⟨HQ, HOQ⟩ := hcut
    have p3 := (HPA.out.off HOQ.out (fun e => HNE.out.2.2.1 e)).cell 3
    simp at p3
    go_upto_if 31 with fail
    go_cut [] from 32 to 34 (fun wx => Hid (Cel q 26 #[.int .i64 m.k, .int .i64 m.fr, .int .i64 m.tn, .int .i64 (cond so m.op 0), .int .i64 (cond sf m.fo 0), .string (cond sk m.key ⟨#[]⟩), .int .i64 (cond sb m.bk 0), .slice none 0 0, .slice none 0 0, .slice none 0 0] wx) ∧ Hid (Off (fun c => c = q) V wx))
    case first =>
     have m3 := (HM.out.off HOQ.out (fun e => HNE.out.1 e)).cell 6
     simp at m3
     have o3 := HQ.out.cell 6
     simp at o3
     have fz := HQ.out.free
     cases sb
     ·go_wp2_with fail
      go_meet
      case rel => exact ⟨HQ.out, HOQ.out⟩
     ·go_wp2_with fail
      go_meet
      case rel => exact ⟨HQ.out.set 6 _, HOQ.out.setCell (p := ⟨q, 6, none⟩) (.inl rfl) _⟩
    case rest =>
     clear p3 HQ HOQ
     obtain ⟨HQ, HOQ⟩ := hcut
     have p4 := (HPA.out.off HOQ.out (fun e => HNE.out.2.2.1 e)).cell 4
     simp at p4
     go_upto_if 36 with fail
     go_cut [] from 37 to 39 (fun wx => Hid (Cel q 26 #[.int .i64 m.k, .int .i64 m.fr, .int .i64 m.tn, .int .i64 (cond so m.op 0), .int .i64 (cond sf m.fo 0), .string (cond sk m.key ⟨#[]⟩), .int .i64 (cond sb m.bk 0), .slice (cond se m.ea none) (cond se m.el 0) (cond se m.ec 0), .slice none 0 0, .slice none 0 0] wx) ∧ Hid (Off (fun c => c = q) V wx))
     case first =>
      have m4 := (HM.out.off HOQ.out (fun e => HNE.out.1 e)).cell 7
      simp at m4
      have o4 := HQ.out.cell 7
      simp at o4
      have fz := HQ.out.free
      cases se
      ·go_wp2_with fail
       go_meet
       case rel => exact ⟨HQ.out, HOQ.out⟩
      ·go_wp2_with fail
       go_meet
       case rel => exact ⟨HQ.out.set 7 _, HOQ.out.setCell (p := ⟨q, 7, none⟩) (.inl rfl) _⟩
     case rest =>
      clear p4 HQ HOQ
      obtain ⟨HQ, HOQ⟩ := hcut
      have p5 := (HPA.out.off HOQ.out (fun e => HNE.out.2.2.1 e)).cell 5
      simp at p5
      go_upto_if 41 with fail
      go_cut [] from 42 to 44 (fun wx => Hid (Cel q 26 #[.int .i64 m.k, .int .i64 m.fr, .int .i64 m.tn, .int .i64 (cond so m.op 0), .int .i64 (cond sf m.fo 0), .string (cond sk m.key ⟨#[]⟩), .int .i64 (cond sb m.bk 0), .slice (cond se m.ea none) (cond se m.el 0) (cond se m.ec 0), .slice (cond sg m.da none) (cond sg m.dl 0) (cond sg m.dc 0), .slice none 0 0] wx) ∧ Hid (Off (fun c => c = q) V wx))
      case first =>
       have m5 := (HM.out.off HOQ.out (fun e => HNE.out.1 e)).cell 8
       simp at m5
       have o5 := HQ.out.cell 8
       simp at o5
       have fz := HQ.out.free
       cases sg
       ·go_wp2_with fail
        go_meet
        case rel => exact ⟨HQ.out, HOQ.out⟩
       ·go_wp2_with fail
        go_meet
        case rel => exact ⟨HQ.out.set 8 _, HOQ.out.setCell (p := ⟨q, 8, none⟩) (.inl rfl) _⟩
      case rest =>
       clear p5 HQ HOQ
       obtain ⟨HQ, HOQ⟩ := hcut
       have p6 := (HPA.out.off HOQ.out (fun e => HNE.out.2.2.1 e)).cell 6
       simp at p6
       go_upto_if 46 with fail
       go_cut [] from 47 to 49 (fun wx => Hid (Cel q 26 #[.int .i64 m.k, .int .i64 m.fr, .int .i64 m.tn, .int .i64 (cond so m.op 0), .int .i64 (cond sf m.fo 0), .string (cond sk m.key ⟨#[]⟩), .int .i64 (cond sb m.bk 0), .slice (cond se m.ea none) (cond se m.el 0) (cond se m.ec 0), .slice (cond sg m.da none) (cond sg m.dl 0) (cond sg m.dc 0), .slice (cond sn m.ma none) (cond sn m.ml 0) (cond sn m.mc 0)] wx) ∧ Hid (Off (fun c => c = q) V wx))
       case first =>
        have m6 := (HM.out.off HOQ.out (fun e => HNE.out.1 e)).cell 9
        simp at m6
        have o6 := HQ.out.cell 9
        simp at o6
        have fz := HQ.out.free
        cases sn
        ·go_wp2_with fail
         go_meet
         case rel => exact ⟨HQ.out, HOQ.out⟩
        ·go_wp2_with fail
         go_meet
         case rel => exact ⟨HQ.out.set 9 _, HOQ.out.setCell (p := ⟨q, 9, none⟩) (.inl rfl) _⟩
       case rest =>
        clear p6 HQ HOQ
        obtain ⟨HQ, HOQ⟩ := hcut
        obtain ⟨x0, x1, x2, x3, x4, x5, x6, x7, x8, x9⟩ := celw10 HQ.out
        have HZ5 : Hid _ := HZ.out.off HOQ.out (fun e => HNE.out.2.1 e)
        obtain ⟨y0, y1, y2, y3, y4, y5, y6, y7, y8, y9⟩ := celw10 HZ5.out
        have fzz := HZ5.out.free
        have HOF : Hid (Off (fun _ => False) w wc) := HO3.out.trans HOQ.out (fun c hc e => by have e : c = q := e; have := HNE.out.2.2.2; omega)
        clear HM HPA HO3 HZ
        go_wp2_with fail
        refine bodyPost_ret (results_msg (x := (⟨m.k, m.fr, m.tn, cond so m.op 0, cond sf m.fo 0, cond sk m.key ⟨#[]⟩, cond sb m.bk 0, cond se m.ea none, cond se m.el 0, cond se m.ec 0, cond sg m.da none, cond sg m.dl 0, cond sg m.dc 0, cond sn m.ma none, cond sn m.ml 0, cond sn m.mc 0⟩ : Mg)) rfl rfl (HZ5.out.wrwAll (vs := mcs (⟨m.k, m.fr, m.tn, cond so m.op 0, cond sf m.fo 0, cond sk m.key ⟨#[]⟩, cond sb m.bk 0, cond se m.ea none, cond se m.el 0, cond se m.ec 0, cond sg m.da none, cond sg m.dl 0, cond sg m.dc 0, cond sn m.ma none, cond sn m.ml 0, cond sn m.mc 0⟩ : Mg)) rfl)) rfl ?_
        exact ⟨rfl, off_wrw (g := b + 1) (us := mcs (⟨m.k, m.fr, m.tn, cond so m.op 0, cond sf m.fo 0, cond sk m.key ⟨#[]⟩, cond sb m.bk 0, cond se m.ea none, cond se m.el 0, cond se m.ec 0, cond sg m.da none, cond sg m.dl 0, cond sg m.dc 0, cond sn m.ma none, cond sn m.ml 0, cond sn m.mc 0⟩ : Mg)) HOF.out (.inr (by have := HBW.out; omega))⟩
end Go.Proofs.YtmbphlkohlggfaaGreat
