/- Items of several texts. -/
import Derived.Test.YtmbphlkohlggfaaGreatAQm18
namespace Go.Proofs.YtmbphlkohlggfaaGreat
set_option maxRecDepth 100000
open Go.RowKit
structure Msk where
 op : Bool
 fo : Bool
 key : Bool
 bk : Bool
 es : Bool
 gs : Bool
 ms : Bool
def hsK (k : Int) : Int := if k = 1 then 17 else if k = 2 then 23 else if k = 3 then 19 else if k = 4 then 5 else if k = 5 then 17 else if k = 6 then 40 else if k = 7 then 56 else if k = 8 then 64 else if k = 9 then 64 else 0
def msk (k : Int) : Msk := if k = 1 then ⟨true, false, false, false, true, false, false⟩ else if k = 2 then ⟨true, true, true, false, true, false, false⟩ else if k = 3 then ⟨true, true, false, false, true, false, false⟩ else if k = 4 then ⟨true, false, true, false, false, false, false⟩ else if k = 5 then ⟨true, false, false, false, true, false, false⟩ else if k = 6 then ⟨false, false, false, true, false, true, false⟩ else if k = 7 then ⟨false, false, false, true, true, true, false⟩ else if k = 8 then ⟨false, false, false, false, false, false, true⟩ else if k = 9 then ⟨false, false, false, false, false, false, true⟩ else ⟨false, false, false, false, false, false, false⟩
def plM (s : Msk) (m : Mg) : Mg := ⟨m.k, m.fr, m.tn, cond s.op m.op 0, cond s.fo m.fo 0, cond s.key m.key ⟨#[]⟩, cond s.bk m.bk 0, cond s.es m.ea none, cond s.es m.el 0, cond s.es m.ec 0, cond s.gs m.da none, cond s.gs m.dl 0, cond s.gs m.dc 0, cond s.ms m.ma none, cond s.ms m.ml 0, cond s.ms m.mc 0⟩
theorem MsgAt.plain {w : World} {m : Mg} {es : List E} {gs : List G} {ms : List (Int × Int)} (h : MsgAt w m es gs ms) (s : Msk) : MsgAt w (plM s m) (cond s.es es []) (cond s.gs gs []) (cond s.ms ms []) := by
 obtain ⟨o, f, k, b, e, g, n⟩ := s
 refine ⟨?_, ?_, ?_, ?_, ?_, ?_⟩
 ·cases e
  ·exact Ens.nil w none 0 (by omega)
  ·exact h.ens
 ·cases e
  ·rfl
  ·exact h.el
 ·cases g
  ·exact Dgs.nil w none 0 (by omega)
  ·exact h.dgs
 ·cases g
  ·rfl
  ·exact h.dl
 ·cases n
  ·exact RowD.nil w none 0 (by omega)
  ·exact h.mbs
 ·cases n
  ·rfl
  ·exact h.ml
set_option maxHeartbeats 2000000 in
theorem has_any (k : Int) (w : World) : Calls Tryz.prog 12 #[.int .i64 k] w fun e w' => e = .returned (.int .i64 (hsK k)) ∧ w' = w := by
 by_cases h1 : k = 1
 ·subst h1
  go_enter Tryz.func12, Tryz.ntmps12
  go_wp2_with fail
  go_ret
  exact ⟨rfl, rfl⟩
 ·have d1 : (k == (1 : Int)) = false := by rw [beq_eq_false_iff_ne]; exact h1
  by_cases h2 : k = 2
  ·subst h2
   go_enter Tryz.func12, Tryz.ntmps12
   go_wp2_with fail
   go_ret
   exact ⟨rfl, rfl⟩
  ·have d2 : (k == (2 : Int)) = false := by rw [beq_eq_false_iff_ne]; exact h2
   by_cases h3 : k = 3
   ·subst h3
    go_enter Tryz.func12, Tryz.ntmps12
    go_wp2_with fail
    go_ret
    exact ⟨rfl, rfl⟩
   ·have d3 : (k == (3 : Int)) = false := by rw [beq_eq_false_iff_ne]; exact h3
    by_cases h4 : k = 4
    ·subst h4
     go_enter Tryz.func12, Tryz.ntmps12
     go_wp2_with fail
     go_ret
     exact ⟨rfl, rfl⟩
    ·have d4 : (k == (4 : Int)) = false := by rw [beq_eq_false_iff_ne]; exact h4
     by_cases h5 : k = 5
     ·subst h5
      go_enter Tryz.func12, Tryz.ntmps12
      go_wp2_with fail
      go_ret
      exact ⟨rfl, rfl⟩
     ·have d5 : (k == (5 : Int)) = false := by rw [beq_eq_false_iff_ne]; exact h5
      by_cases h6 : k = 6
      ·subst h6
       go_enter Tryz.func12, Tryz.ntmps12
       go_wp2_with fail
       go_ret
       exact ⟨rfl, rfl⟩
      ·have d6 : (k == (6 : Int)) = false := by rw [beq_eq_false_iff_ne]; exact h6
       by_cases h7 : k = 7
       ·subst h7
        go_enter Tryz.func12, Tryz.ntmps12
        go_wp2_with fail
        go_ret
        exact ⟨rfl, rfl⟩
       ·have d7 : (k == (7 : Int)) = false := by rw [beq_eq_false_iff_ne]; exact h7
        by_cases h8 : k = 8
        ·subst h8
         go_enter Tryz.func12, Tryz.ntmps12
         go_wp2_with fail
         go_ret
         exact ⟨rfl, rfl⟩
        ·have d8 : (k == (8 : Int)) = false := by rw [beq_eq_false_iff_ne]; exact h8
         by_cases h9 : k = 9
         ·subst h9
          go_enter Tryz.func12, Tryz.ntmps12
          go_wp2_with fail
          go_ret
          exact ⟨rfl, rfl⟩
         ·have d9 : (k == (9 : Int)) = false := by rw [beq_eq_false_iff_ne]; exact h9
          have HK : Hid (hsK k = 0) := by
           show hsK k = 0
           unfold hsK
           rw [if_neg h1, if_neg h2, if_neg h3, if_neg h4, if_neg h5, if_neg h6, if_neg h7, if_neg h8, if_neg h9]
          go_enter Tryz.func12, Tryz.ntmps12
          go_wp2_with fail
          go_ret
          exact ⟨by rw [HK.out]; rfl, rfl⟩
set_option maxHeartbeats 2000000 in
theorem plain_0 (m : Mg) (w : World) (hk : hsK m.k = 0) : Calls Tryz.prog 30 #[(.agg #[.int .i64 m.k, .int .i64 m.fr, .int .i64 m.tn, .int .i64 m.op, .int .i64 m.fo, .string m.key, .int .i64 m.bk, .slice m.ea m.el m.ec, .slice m.da m.dl m.dc, .slice m.ma m.ml m.mc])] w fun e w' => e = .returned ((.agg #[.int .i64 (plM (⟨false, false, false, false, false, false, false⟩ : Msk) m).k, .int .i64 (plM (⟨false, false, false, false, false, false, false⟩ : Msk) m).fr, .int .i64 (plM (⟨false, false, false, false, false, false, false⟩ : Msk) m).tn, .int .i64 (plM (⟨false, false, false, false, false, false, false⟩ : Msk) m).op, .int .i64 (plM (⟨false, false, false, false, false, false, false⟩ : Msk) m).fo, .string (plM (⟨false, false, false, false, false, false, false⟩ : Msk) m).key, .int .i64 (plM (⟨false, false, false, false, false, false, false⟩ : Msk) m).bk, .slice (plM (⟨false, false, false, false, false, false, false⟩ : Msk) m).ea (plM (⟨false, false, false, false, false, false, false⟩ : Msk) m).el (plM (⟨false, false, false, false, false, false, false⟩ : Msk) m).ec, .slice (plM (⟨false, false, false, false, false, false, false⟩ : Msk) m).da (plM (⟨false, false, false, false, false, false, false⟩ : Msk) m).dl (plM (⟨false, false, false, false, false, false, false⟩ : Msk) m).dc, .slice (plM (⟨false, false, false, false, false, false, false⟩ : Msk) m).ma (plM (⟨false, false, false, false, false, false, false⟩ : Msk) m).ml (plM (⟨false, false, false, false, false, false, false⟩ : Msk) m).mc])) ∧ Off (fun _ => False) w w' := by
 show Calls Tryz.prog 30 #[(.agg #[.int .i64 m.k, .int .i64 m.fr, .int .i64 m.tn, .int .i64 m.op, .int .i64 m.fo, .string m.key, .int .i64 m.bk, .slice m.ea m.el m.ec, .slice m.da m.dl m.dc, .slice m.ma m.ml m.mc])] w fun e w' => e = .returned (.agg #[.int .i64 m.k, .int .i64 m.fr, .int .i64 m.tn, .int .i64 0, .int .i64 0, .string ⟨#[]⟩, .int .i64 0, .slice none 0 0, .slice none 0 0, .slice none 0 0]) ∧ Off (fun _ => False) w w'
 obtain ⟨W, hW⟩ : ∃ W, W = (w.alloc (.cells #[.int .i64 m.k, .int .i64 m.fr, .int .i64 m.tn, .int .i64 m.op, .int .i64 m.fo, .string m.key, .int .i64 m.bk, .slice m.ea m.el m.ec, .slice m.da m.dl m.dc, .slice m.ma m.ml m.mc] 26)).alloc (.cells #[.int .i64 0, .int .i64 0, .int .i64 0, .int .i64 0, .int .i64 0, .string ⟨#[]⟩, .int .i64 0, .slice none 0 0, .slice none 0 0, .slice none 0 0] 26) := ⟨_, rfl⟩
 have O : Off (fun _ => False) w W := by rw [hW]; exact ((Off.refl _ w).alloc _).alloc _
 have C0 : Cel w.heap.size 26 #[.int .i64 m.k, .int .i64 m.fr, .int .i64 m.tn, .int .i64 m.op, .int .i64 m.fo, .string m.key, .int .i64 m.bk, .slice m.ea m.el m.ec, .slice m.da m.dl m.dc, .slice m.ma m.ml m.mc] W := by rw [hW]; exact (Cel.new w _ _).alloc _
 have C1 : Cel (w.heap.size + 1) 26 #[.int .i64 0, .int .i64 0, .int .i64 0, .int .i64 0, .int .i64 0, .string ⟨#[]⟩, .int .i64 0, .slice none 0 0, .slice none 0 0, .slice none 0 0] W := by
  rw [hW]
  have := Cel.new (w.alloc (.cells #[.int .i64 m.k, .int .i64 m.fr, .int .i64 m.tn, .int .i64 m.op, .int .i64 m.fo, .string m.key, .int .i64 m.bk, .slice m.ea m.el m.ec, .slice m.da m.dl m.dc, .slice m.ma m.ml m.mc] 26)) 26 #[.int .i64 0, .int .i64 0, .int .i64 0, .int .i64 0, .int .i64 0, .string ⟨#[]⟩, .int .i64 0, .slice none 0 0, .slice none 0 0, .slice none 0 0]
  rwa [World.size_alloc] at this
 have HH : Hid (∀ W, Calls Tryz.prog 12 #[.int .i64 m.k] W fun e w' => e = .returned (.int .i64 0) ∧ w' = W) := fun W => by have := has_any m.k W; rwa [hk] at this
 go_enter Tryz.func30, Tryz.ntmps30
 go_upto_region 1 with fail
 rw [← hW]
 have HO : Hid _ := O
 have HC0 : Hid _ := C0
 have HC1 : Hid _ := C1
 clear hW O C0 C1 hk
 obtain ⟨b, hb⟩ : ∃ b, b = w.heap.size := ⟨_, rfl⟩
 rw [← hb] at HC0 HC1 ⊢
 have HB : Hid (b = w.heap.size) := hb
 clear hb
 obtain ⟨x0, x1, x2, x3, x4, x5, x6, x7, x8, x9⟩ := celw10 HC0.out
 go_wp2_with fail
 refine (HH.out _).mono ?_
 rintro e w' ⟨rfl, hw⟩
 rw [hw]
 clear hw w' HH
 go_upto_region 3 with fail
 have O4 : Off (fun _ => False) W (W.alloc (.cells #[.int .i64 m.k, .int .i64 m.fr, .int .i64 m.tn, .int .i64 0, .int .i64 0, .string ⟨#[]⟩, .int .i64 0, .slice none 0 0, .slice none 0 0, .slice none 0 0] 26)) := (Off.refl _ W).alloc _
 have C4 : Cel W.heap.size 26 #[.int .i64 m.k, .int .i64 m.fr, .int .i64 m.tn, .int .i64 0, .int .i64 0, .string ⟨#[]⟩, .int .i64 0, .slice none 0 0, .slice none 0 0, .slice none 0 0] (W.alloc (.cells #[.int .i64 m.k, .int .i64 m.fr, .int .i64 m.tn, .int .i64 0, .int .i64 0, .string ⟨#[]⟩, .int .i64 0, .slice none 0 0, .slice none 0 0, .slice none 0 0] 26)) := Cel.new W _ _
 have hlt := HC1.out.lt
 generalize hv : W.alloc (.cells #[.int .i64 m.k, .int .i64 m.fr, .int .i64 m.tn, .int .i64 0, .int .i64 0, .string ⟨#[]⟩, .int .i64 0, .slice none 0 0, .slice none 0 0, .slice none 0 0] 26) = V at O4 C4 ⊢
 obtain ⟨q, hq⟩ : ∃ q, q = W.heap.size := ⟨_, rfl⟩
 rw [← hq] at C4 ⊢
 have HBQ : Hid (b + 1 < q) := by show _ < _; omega
 have hbq : ¬ b = q := by omega
 have hbq1 : ¬ b + 1 = q := by omega
 have hqb : ¬ q = b := by omega
 clear x0 x1 x2 x3 x4 x5 x6 x7 x8 x9 hv hq hlt
 obtain ⟨x0, x1, x2, x3, x4, x5, x6, x7, x8, x9⟩ := celw10 (HC0.out.off O4 (fun h => h))
 have fzq := C4.free
 have HOV : Hid _ := HO.out.trans O4 (fun _ _ h => h)
 have HC4 : Hid _ := C4
 have HZ : Hid _ := HC1.out.off O4 (fun h => h)
 obtain ⟨y0, y1, y2, y3, y4, y5, y6, y7, y8, y9⟩ := celw10 C4
 clear O4 C4 HO
 have b0 : bits .and .i64 0 1 = 0 := by kernel_rfl
 have b1 : bits .and .i64 0 2 = 0 := by kernel_rfl
 have b2 : bits .and .i64 0 4 = 0 := by kernel_rfl
 have b3 : bits .and .i64 0 8 = 0 := by kernel_rfl
 have b4 : bits .and .i64 0 16 = 0 := by kernel_rfl
 have b5 : bits .and .i64 0 32 = 0 := by kernel_rfl
 have b6 : bits .and .i64 0 64 = 0 := by kernel_rfl
 go_upto_region 17 with fail
 have hqw : w.heap.size ≤ q := by have := HB.out; have := HBQ.out; omega
 have HZ5 : Hid (Cel (b + 1) 26 #[.int .i64 0, .int .i64 0, .int .i64 0, .int .i64 0, .int .i64 0, .string ⟨#[]⟩, .int .i64 0, .slice none 0 0, .slice none 0 0, .slice none 0 0] V) := HZ.out
 have HC5 : Hid (Cel q 26 #[.int .i64 m.k, .int .i64 m.fr, .int .i64 m.tn, .int .i64 0, .int .i64 0, .string ⟨#[]⟩, .int .i64 0, .slice none 0 0, .slice none 0 0, .slice none 0 0] V) := HC4.out
 have HO5 : Hid (Off (fun _ => False) w V) := HOV.out
 skip
 clear x0 x1 x2 x3 x4 x5 x6 x7 x8 x9 y0 y1 y2 y3 y4 y5 y6 y7 y8 y9 fzq HC4 HZ HOV HC0 HC1 b0 b1 b2 b3 b4 b5 b6
 obtain ⟨x0, x1, x2, x3, x4, x5, x6, x7, x8, x9⟩ := celw10 HC5.out
 obtain ⟨y0, y1, y2, y3, y4, y5, y6, y7, y8, y9⟩ := celw10 HZ5.out
 have fzz := HZ5.out.free
 go_wp2_with fail
 refine bodyPost_ret (results_msg (x := (⟨m.k, m.fr, m.tn, 0, 0, ⟨#[]⟩, 0, none, 0, 0, none, 0, 0, none, 0, 0⟩ : Mg)) rfl rfl (HZ5.out.wrwAll (vs := mcs (⟨m.k, m.fr, m.tn, 0, 0, ⟨#[]⟩, 0, none, 0, 0, none, 0, 0, none, 0, 0⟩ : Mg)) rfl)) rfl ?_
 exact ⟨rfl, off_wrw (g := b + 1) (us := mcs (⟨m.k, m.fr, m.tn, 0, 0, ⟨#[]⟩, 0, none, 0, 0, none, 0, 0, none, 0, 0⟩ : Mg)) HO5.out (.inr (by have := HB.out; omega))⟩
set_option maxHeartbeats 2000000 in
theorem plain_5 (m : Mg) (w : World) (hk : hsK m.k = 5) : Calls Tryz.prog 30 #[(.agg #[.int .i64 m.k, .int .i64 m.fr, .int .i64 m.tn, .int .i64 m.op, .int .i64 m.fo, .string m.key, .int .i64 m.bk, .slice m.ea m.el m.ec, .slice m.da m.dl m.dc, .slice m.ma m.ml m.mc])] w fun e w' => e = .returned ((.agg #[.int .i64 (plM (⟨true, false, true, false, false, false, false⟩ : Msk) m).k, .int .i64 (plM (⟨true, false, true, false, false, false, false⟩ : Msk) m).fr, .int .i64 (plM (⟨true, false, true, false, false, false, false⟩ : Msk) m).tn, .int .i64 (plM (⟨true, false, true, false, false, false, false⟩ : Msk) m).op, .int .i64 (plM (⟨true, false, true, false, false, false, false⟩ : Msk) m).fo, .string (plM (⟨true, false, true, false, false, false, false⟩ : Msk) m).key, .int .i64 (plM (⟨true, false, true, false, false, false, false⟩ : Msk) m).bk, .slice (plM (⟨true, false, true, false, false, false, false⟩ : Msk) m).ea (plM (⟨true, false, true, false, false, false, false⟩ : Msk) m).el (plM (⟨true, false, true, false, false, false, false⟩ : Msk) m).ec, .slice (plM (⟨true, false, true, false, false, false, false⟩ : Msk) m).da (plM (⟨true, false, true, false, false, false, false⟩ : Msk) m).dl (plM (⟨true, false, true, false, false, false, false⟩ : Msk) m).dc, .slice (plM (⟨true, false, true, false, false, false, false⟩ : Msk) m).ma (plM (⟨true, false, true, false, false, false, false⟩ : Msk) m).ml (plM (⟨true, false, true, false, false, false, false⟩ : Msk) m).mc])) ∧ Off (fun _ => False) w w' := by
 show Calls Tryz.prog 30 #[(.agg #[.int .i64 m.k, .int .i64 m.fr, .int .i64 m.tn, .int .i64 m.op, .int .i64 m.fo, .string m.key, .int .i64 m.bk, .slice m.ea m.el m.ec, .slice m.da m.dl m.dc, .slice m.ma m.ml m.mc])] w fun e w' => e = .returned (.agg #[.int .i64 m.k, .int .i64 m.fr, .int .i64 m.tn, .int .i64 m.op, .int .i64 0, .string m.key, .int .i64 0, .slice none 0 0, .slice none 0 0, .slice none 0 0]) ∧ Off (fun _ => False) w w'
 obtain ⟨W, hW⟩ : ∃ W, W = (w.alloc (.cells #[.int .i64 m.k, .int .i64 m.fr, .int .i64 m.tn, .int .i64 m.op, .int .i64 m.fo, .string m.key, .int .i64 m.bk, .slice m.ea m.el m.ec, .slice m.da m.dl m.dc, .slice m.ma m.ml m.mc] 26)).alloc (.cells #[.int .i64 0, .int .i64 0, .int .i64 0, .int .i64 0, .int .i64 0, .string ⟨#[]⟩, .int .i64 0, .slice none 0 0, .slice none 0 0, .slice none 0 0] 26) := ⟨_, rfl⟩
 have O : Off (fun _ => False) w W := by rw [hW]; exact ((Off.refl _ w).alloc _).alloc _
 have C0 : Cel w.heap.size 26 #[.int .i64 m.k, .int .i64 m.fr, .int .i64 m.tn, .int .i64 m.op, .int .i64 m.fo, .string m.key, .int .i64 m.bk, .slice m.ea m.el m.ec, .slice m.da m.dl m.dc, .slice m.ma m.ml m.mc] W := by rw [hW]; exact (Cel.new w _ _).alloc _
 have C1 : Cel (w.heap.size + 1) 26 #[.int .i64 0, .int .i64 0, .int .i64 0, .int .i64 0, .int .i64 0, .string ⟨#[]⟩, .int .i64 0, .slice none 0 0, .slice none 0 0, .slice none 0 0] W := by
  rw [hW]
  have := Cel.new (w.alloc (.cells #[.int .i64 m.k, .int .i64 m.fr, .int .i64 m.tn, .int .i64 m.op, .int .i64 m.fo, .string m.key, .int .i64 m.bk, .slice m.ea m.el m.ec, .slice m.da m.dl m.dc, .slice m.ma m.ml m.mc] 26)) 26 #[.int .i64 0, .int .i64 0, .int .i64 0, .int .i64 0, .int .i64 0, .string ⟨#[]⟩, .int .i64 0, .slice none 0 0, .slice none 0 0, .slice none 0 0]
  rwa [World.size_alloc] at this
 have HH : Hid (∀ W, Calls Tryz.prog 12 #[.int .i64 m.k] W fun e w' => e = .returned (.int .i64 5) ∧ w' = W) := fun W => by have := has_any m.k W; rwa [hk] at this
 go_enter Tryz.func30, Tryz.ntmps30
 go_upto_region 1 with fail
 rw [← hW]
 have HO : Hid _ := O
 have HC0 : Hid _ := C0
 have HC1 : Hid _ := C1
 clear hW O C0 C1 hk
 obtain ⟨b, hb⟩ : ∃ b, b = w.heap.size := ⟨_, rfl⟩
 rw [← hb] at HC0 HC1 ⊢
 have HB : Hid (b = w.heap.size) := hb
 clear hb
 obtain ⟨x0, x1, x2, x3, x4, x5, x6, x7, x8, x9⟩ := celw10 HC0.out
 go_wp2_with fail
 refine (HH.out _).mono ?_
 rintro e w' ⟨rfl, hw⟩
 rw [hw]
 clear hw w' HH
 go_upto_region 3 with fail
 have O4 : Off (fun _ => False) W (W.alloc (.cells #[.int .i64 m.k, .int .i64 m.fr, .int .i64 m.tn, .int .i64 0, .int .i64 0, .string ⟨#[]⟩, .int .i64 0, .slice none 0 0, .slice none 0 0, .slice none 0 0] 26)) := (Off.refl _ W).alloc _
 have C4 : Cel W.heap.size 26 #[.int .i64 m.k, .int .i64 m.fr, .int .i64 m.tn, .int .i64 0, .int .i64 0, .string ⟨#[]⟩, .int .i64 0, .slice none 0 0, .slice none 0 0, .slice none 0 0] (W.alloc (.cells #[.int .i64 m.k, .int .i64 m.fr, .int .i64 m.tn, .int .i64 0, .int .i64 0, .string ⟨#[]⟩, .int .i64 0, .slice none 0 0, .slice none 0 0, .slice none 0 0] 26)) := Cel.new W _ _
 have hlt := HC1.out.lt
 generalize hv : W.alloc (.cells #[.int .i64 m.k, .int .i64 m.fr, .int .i64 m.tn, .int .i64 0, .int .i64 0, .string ⟨#[]⟩, .int .i64 0, .slice none 0 0, .slice none 0 0, .slice none 0 0] 26) = V at O4 C4 ⊢
 obtain ⟨q, hq⟩ : ∃ q, q = W.heap.size := ⟨_, rfl⟩
 rw [← hq] at C4 ⊢
 have HBQ : Hid (b + 1 < q) := by show _ < _; omega
 have hbq : ¬ b = q := by omega
 have hbq1 : ¬ b + 1 = q := by omega
 have hqb : ¬ q = b := by omega
 clear x0 x1 x2 x3 x4 x5 x6 x7 x8 x9 hv hq hlt
 obtain ⟨x0, x1, x2, x3, x4, x5, x6, x7, x8, x9⟩ := celw10 (HC0.out.off O4 (fun h => h))
 have fzq := C4.free
 have HOV : Hid _ := HO.out.trans O4 (fun _ _ h => h)
 have HC4 : Hid _ := C4
 have HZ : Hid _ := HC1.out.off O4 (fun h => h)
 obtain ⟨y0, y1, y2, y3, y4, y5, y6, y7, y8, y9⟩ := celw10 C4
 clear O4 C4 HO
 have b0 : bits .and .i64 5 1 = 1 := by kernel_rfl
 have b1 : bits .and .i64 5 2 = 0 := by kernel_rfl
 have b2 : bits .and .i64 5 4 = 4 := by kernel_rfl
 have b3 : bits .and .i64 5 8 = 0 := by kernel_rfl
 have b4 : bits .and .i64 5 16 = 0 := by kernel_rfl
 have b5 : bits .and .i64 5 32 = 0 := by kernel_rfl
 have b6 : bits .and .i64 5 64 = 0 := by kernel_rfl
 go_upto_region 17 with fail
 have hqw : w.heap.size ≤ q := by have := HB.out; have := HBQ.out; omega
 have HZ5 : Hid (Cel (b + 1) 26 #[.int .i64 0, .int .i64 0, .int .i64 0, .int .i64 0, .int .i64 0, .string ⟨#[]⟩, .int .i64 0, .slice none 0 0, .slice none 0 0, .slice none 0 0] ((V.setCell ⟨q, 3, none⟩ (.int .i64 m.op)).setCell ⟨q, 5, none⟩ (.string m.key))) := ((HZ.out).other (p := ⟨q, 3, none⟩) (fun e => hbq1 e) _).other (p := ⟨q, 5, none⟩) (fun e => hbq1 e) _
 have HC5 : Hid (Cel q 26 #[.int .i64 m.k, .int .i64 m.fr, .int .i64 m.tn, .int .i64 m.op, .int .i64 0, .string m.key, .int .i64 0, .slice none 0 0, .slice none 0 0, .slice none 0 0] ((V.setCell ⟨q, 3, none⟩ (.int .i64 m.op)).setCell ⟨q, 5, none⟩ (.string m.key))) := ((HC4.out).set 3 _).set 5 _
 have HO5 : Hid (Off (fun _ => False) w ((V.setCell ⟨q, 3, none⟩ (.int .i64 m.op)).setCell ⟨q, 5, none⟩ (.string m.key))) := ((HOV.out).setCell (p := ⟨q, 3, none⟩) (.inr hqw) _).setCell (p := ⟨q, 5, none⟩) (.inr hqw) _
 generalize ((V.setCell ⟨q, 3, none⟩ (.int .i64 m.op)).setCell ⟨q, 5, none⟩ (.string m.key)) = V5 at HZ5 HC5 HO5 ⊢
 clear x0 x1 x2 x3 x4 x5 x6 x7 x8 x9 y0 y1 y2 y3 y4 y5 y6 y7 y8 y9 fzq HC4 HZ HOV HC0 HC1 b0 b1 b2 b3 b4 b5 b6
 obtain ⟨x0, x1, x2, x3, x4, x5, x6, x7, x8, x9⟩ := celw10 HC5.out
 obtain ⟨y0, y1, y2, y3, y4, y5, y6, y7, y8, y9⟩ := celw10 HZ5.out
 have fzz := HZ5.out.free
 go_wp2_with fail
 refine bodyPost_ret (results_msg (x := (⟨m.k, m.fr, m.tn, m.op, 0, m.key, 0, none, 0, 0, none, 0, 0, none, 0, 0⟩ : Mg)) rfl rfl (HZ5.out.wrwAll (vs := mcs (⟨m.k, m.fr, m.tn, m.op, 0, m.key, 0, none, 0, 0, none, 0, 0, none, 0, 0⟩ : Mg)) rfl)) rfl ?_
 exact ⟨rfl, off_wrw (g := b + 1) (us := mcs (⟨m.k, m.fr, m.tn, m.op, 0, m.key, 0, none, 0, 0, none, 0, 0, none, 0, 0⟩ : Mg)) HO5.out (.inr (by have := HB.out; omega))⟩
set_option maxHeartbeats 2000000 in
theorem plain_17 (m : Mg) (w : World) (hk : hsK m.k = 17) : Calls Tryz.prog 30 #[(.agg #[.int .i64 m.k, .int .i64 m.fr, .int .i64 m.tn, .int .i64 m.op, .int .i64 m.fo, .string m.key, .int .i64 m.bk, .slice m.ea m.el m.ec, .slice m.da m.dl m.dc, .slice m.ma m.ml m.mc])] w fun e w' => e = .returned ((.agg #[.int .i64 (plM (⟨true, false, false, false, true, false, false⟩ : Msk) m).k, .int .i64 (plM (⟨true, false, false, false, true, false, false⟩ : Msk) m).fr, .int .i64 (plM (⟨true, false, false, false, true, false, false⟩ : Msk) m).tn, .int .i64 (plM (⟨true, false, false, false, true, false, false⟩ : Msk) m).op, .int .i64 (plM (⟨true, false, false, false, true, false, false⟩ : Msk) m).fo, .string (plM (⟨true, false, false, false, true, false, false⟩ : Msk) m).key, .int .i64 (plM (⟨true, false, false, false, true, false, false⟩ : Msk) m).bk, .slice (plM (⟨true, false, false, false, true, false, false⟩ : Msk) m).ea (plM (⟨true, false, false, false, true, false, false⟩ : Msk) m).el (plM (⟨true, false, false, false, true, false, false⟩ : Msk) m).ec, .slice (plM (⟨true, false, false, false, true, false, false⟩ : Msk) m).da (plM (⟨true, false, false, false, true, false, false⟩ : Msk) m).dl (plM (⟨true, false, false, false, true, false, false⟩ : Msk) m).dc, .slice (plM (⟨true, false, false, false, true, false, false⟩ : Msk) m).ma (plM (⟨true, false, false, false, true, false, false⟩ : Msk) m).ml (plM (⟨true, false, false, false, true, false, false⟩ : Msk) m).mc])) ∧ Off (fun _ => False) w w' := by
 show Calls Tryz.prog 30 #[(.agg #[.int .i64 m.k, .int .i64 m.fr, .int .i64 m.tn, .int .i64 m.op, .int .i64 m.fo, .string m.key, .int .i64 m.bk, .slice m.ea m.el m.ec, .slice m.da m.dl m.dc, .slice m.ma m.ml m.mc])] w fun e w' => e = .returned (.agg #[.int .i64 m.k, .int .i64 m.fr, .int .i64 m.tn, .int .i64 m.op, .int .i64 0, .string ⟨#[]⟩, .int .i64 0, .slice m.ea m.el m.ec, .slice none 0 0, .slice none 0 0]) ∧ Off (fun _ => False) w w'
 obtain ⟨W, hW⟩ : ∃ W, W = (w.alloc (.cells #[.int .i64 m.k, .int .i64 m.fr, .int .i64 m.tn, .int .i64 m.op, .int .i64 m.fo, .string m.key, .int .i64 m.bk, .slice m.ea m.el m.ec, .slice m.da m.dl m.dc, .slice m.ma m.ml m.mc] 26)).alloc (.cells #[.int .i64 0, .int .i64 0, .int .i64 0, .int .i64 0, .int .i64 0, .string ⟨#[]⟩, .int .i64 0, .slice none 0 0, .slice none 0 0, .slice none 0 0] 26) := ⟨_, rfl⟩
 have O : Off (fun _ => False) w W := by rw [hW]; exact ((Off.refl _ w).alloc _).alloc _
 have C0 : Cel w.heap.size 26 #[.int .i64 m.k, .int .i64 m.fr, .int .i64 m.tn, .int .i64 m.op, .int .i64 m.fo, .string m.key, .int .i64 m.bk, .slice m.ea m.el m.ec, .slice m.da m.dl m.dc, .slice m.ma m.ml m.mc] W := by rw [hW]; exact (Cel.new w _ _).alloc _
 have C1 : Cel (w.heap.size + 1) 26 #[.int .i64 0, .int .i64 0, .int .i64 0, .int .i64 0, .int .i64 0, .string ⟨#[]⟩, .int .i64 0, .slice none 0 0, .slice none 0 0, .slice none 0 0] W := by
  rw [hW]
  have := Cel.new (w.alloc (.cells #[.int .i64 m.k, .int .i64 m.fr, .int .i64 m.tn, .int .i64 m.op, .int .i64 m.fo, .string m.key, .int .i64 m.bk, .slice m.ea m.el m.ec, .slice m.da m.dl m.dc, .slice m.ma m.ml m.mc] 26)) 26 #[.int .i64 0, .int .i64 0, .int .i64 0, .int .i64 0, .int .i64 0, .string ⟨#[]⟩, .int .i64 0, .slice none 0 0, .slice none 0 0, .slice none 0 0]
  rwa [World.size_alloc] at this
 have HH : Hid (∀ W, Calls Tryz.prog 12 #[.int .i64 m.k] W fun e w' => e = .returned (.int .i64 17) ∧ w' = W) := fun W => by have := has_any m.k W; rwa [hk] at this
 go_enter Tryz.func30, Tryz.ntmps30
 go_upto_region 1 with fail
 rw [← hW]
 have HO : Hid _ := O
 have HC0 : Hid _ := C0
 have HC1 : Hid _ := C1
 clear hW O C0 C1 hk
 obtain ⟨b, hb⟩ : ∃ b, b = w.heap.size := ⟨_, rfl⟩
 rw [← hb] at HC0 HC1 ⊢
 have HB : Hid (b = w.heap.size) := hb
 clear hb
 obtain ⟨x0, x1, x2, x3, x4, x5, x6, x7, x8, x9⟩ := celw10 HC0.out
 go_wp2_with fail
 refine (HH.out _).mono ?_
 rintro e w' ⟨rfl, hw⟩
 rw [hw]
 clear hw w' HH
 go_upto_region 3 with fail
 have O4 : Off (fun _ => False) W (W.alloc (.cells #[.int .i64 m.k, .int .i64 m.fr, .int .i64 m.tn, .int .i64 0, .int .i64 0, .string ⟨#[]⟩, .int .i64 0, .slice none 0 0, .slice none 0 0, .slice none 0 0] 26)) := (Off.refl _ W).alloc _
 have C4 : Cel W.heap.size 26 #[.int .i64 m.k, .int .i64 m.fr, .int .i64 m.tn, .int .i64 0, .int .i64 0, .string ⟨#[]⟩, .int .i64 0, .slice none 0 0, .slice none 0 0, .slice none 0 0] (W.alloc (.cells #[.int .i64 m.k, .int .i64 m.fr, .int .i64 m.tn, .int .i64 0, .int .i64 0, .string ⟨#[]⟩, .int .i64 0, .slice none 0 0, .slice none 0 0, .slice none 0 0] 26)) := Cel.new W _ _
 have hlt := HC1.out.lt
 generalize hv : W.alloc (.cells #[.int .i64 m.k, .int .i64 m.fr, .int .i64 m.tn, .int .i64 0, .int .i64 0, .string ⟨#[]⟩, .int .i64 0, .slice none 0 0, .slice none 0 0, .slice none 0 0] 26) = V at O4 C4 ⊢
 obtain ⟨q, hq⟩ : ∃ q, q = W.heap.size := ⟨_, rfl⟩
 rw [← hq] at C4 ⊢
 have HBQ : Hid (b + 1 < q) := by show _ < _; omega
 have hbq : ¬ b = q := by omega
 have hbq1 : ¬ b + 1 = q := by omega
 have hqb : ¬ q = b := by omega
 clear x0 x1 x2 x3 x4 x5 x6 x7 x8 x9 hv hq hlt
 obtain ⟨x0, x1, x2, x3, x4, x5, x6, x7, x8, x9⟩ := celw10 (HC0.out.off O4 (fun h => h))
 have fzq := C4.free
 have HOV : Hid _ := HO.out.trans O4 (fun _ _ h => h)
 have HC4 : Hid _ := C4
 have HZ : Hid _ := HC1.out.off O4 (fun h => h)
 obtain ⟨y0, y1, y2, y3, y4, y5, y6, y7, y8, y9⟩ := celw10 C4
 clear O4 C4 HO
 have b0 : bits .and .i64 17 1 = 1 := by kernel_rfl
 have b1 : bits .and .i64 17 2 = 0 := by kernel_rfl
 have b2 : bits .and .i64 17 4 = 0 := by kernel_rfl
 have b3 : bits .and .i64 17 8 = 0 := by kernel_rfl
 have b4 : bits .and .i64 17 16 = 16 := by kernel_rfl
 have b5 : bits .and .i64 17 32 = 0 := by kernel_rfl
 have b6 : bits .and .i64 17 64 = 0 := by kernel_rfl
 go_upto_region 17 with fail
 have hqw : w.heap.size ≤ q := by have := HB.out; have := HBQ.out; omega
 have HZ5 : Hid (Cel (b + 1) 26 #[.int .i64 0, .int .i64 0, .int .i64 0, .int .i64 0, .int .i64 0, .string ⟨#[]⟩, .int .i64 0, .slice none 0 0, .slice none 0 0, .slice none 0 0] ((V.setCell ⟨q, 3, none⟩ (.int .i64 m.op)).setCell ⟨q, 7, none⟩ (.slice m.ea m.el m.ec))) := ((HZ.out).other (p := ⟨q, 3, none⟩) (fun e => hbq1 e) _).other (p := ⟨q, 7, none⟩) (fun e => hbq1 e) _
 have HC5 : Hid (Cel q 26 #[.int .i64 m.k, .int .i64 m.fr, .int .i64 m.tn, .int .i64 m.op, .int .i64 0, .string ⟨#[]⟩, .int .i64 0, .slice m.ea m.el m.ec, .slice none 0 0, .slice none 0 0] ((V.setCell ⟨q, 3, none⟩ (.int .i64 m.op)).setCell ⟨q, 7, none⟩ (.slice m.ea m.el m.ec))) := ((HC4.out).set 3 _).set 7 _
 have HO5 : Hid (Off (fun _ => False) w ((V.setCell ⟨q, 3, none⟩ (.int .i64 m.op)).setCell ⟨q, 7, none⟩ (.slice m.ea m.el m.ec))) := ((HOV.out).setCell (p := ⟨q, 3, none⟩) (.inr hqw) _).setCell (p := ⟨q, 7, none⟩) (.inr hqw) _
 generalize ((V.setCell ⟨q, 3, none⟩ (.int .i64 m.op)).setCell ⟨q, 7, none⟩ (.slice m.ea m.el m.ec)) = V5 at HZ5 HC5 HO5 ⊢
 clear x0 x1 x2 x3 x4 x5 x6 x7 x8 x9 y0 y1 y2 y3 y4 y5 y6 y7 y8 y9 fzq HC4 HZ HOV HC0 HC1 b0 b1 b2 b3 b4 b5 b6
 obtain ⟨x0, x1, x2, x3, x4, x5, x6, x7, x8, x9⟩ := celw10 HC5.out
 obtain ⟨y0, y1, y2, y3, y4, y5, y6, y7, y8, y9⟩ := celw10 HZ5.out
 have fzz := HZ5.out.free
 go_wp2_with fail
 refine bodyPost_ret (results_msg (x := (⟨m.k, m.fr, m.tn, m.op, 0, ⟨#[]⟩, 0, m.ea, m.el, m.ec, none, 0, 0, none, 0, 0⟩ : Mg)) rfl rfl (HZ5.out.wrwAll (vs := mcs (⟨m.k, m.fr, m.tn, m.op, 0, ⟨#[]⟩, 0, m.ea, m.el, m.ec, none, 0, 0, none, 0, 0⟩ : Mg)) rfl)) rfl ?_
 exact ⟨rfl, off_wrw (g := b + 1) (us := mcs (⟨m.k, m.fr, m.tn, m.op, 0, ⟨#[]⟩, 0, m.ea, m.el, m.ec, none, 0, 0, none, 0, 0⟩ : Mg)) HO5.out (.inr (by have := HB.out; omega))⟩
set_option maxHeartbeats 2000000 in
theorem plain_19 (m : Mg) (w : World) (hk : hsK m.k = 19) : Calls Tryz.prog 30 #[(.agg #[.int .i64 m.k, .int .i64 m.fr, .int .i64 m.tn, .int .i64 m.op, .int .i64 m.fo, .string m.key, .int .i64 m.bk, .slice m.ea m.el m.ec, .slice m.da m.dl m.dc, .slice m.ma m.ml m.mc])] w fun e w' => e = .returned ((.agg #[.int .i64 (plM (⟨true, true, false, false, true, false, false⟩ : Msk) m).k, .int .i64 (plM (⟨true, true, false, false, true, false, false⟩ : Msk) m).fr, .int .i64 (plM (⟨true, true, false, false, true, false, false⟩ : Msk) m).tn, .int .i64 (plM (⟨true, true, false, false, true, false, false⟩ : Msk) m).op, .int .i64 (plM (⟨true, true, false, false, true, false, false⟩ : Msk) m).fo, .string (plM (⟨true, true, false, false, true, false, false⟩ : Msk) m).key, .int .i64 (plM (⟨true, true, false, false, true, false, false⟩ : Msk) m).bk, .slice (plM (⟨true, true, false, false, true, false, false⟩ : Msk) m).ea (plM (⟨true, true, false, false, true, false, false⟩ : Msk) m).el (plM (⟨true, true, false, false, true, false, false⟩ : Msk) m).ec, .slice (plM (⟨true, true, false, false, true, false, false⟩ : Msk) m).da (plM (⟨true, true, false, false, true, false, false⟩ : Msk) m).dl (plM (⟨true, true, false, false, true, false, false⟩ : Msk) m).dc, .slice (plM (⟨true, true, false, false, true, false, false⟩ : Msk) m).ma (plM (⟨true, true, false, false, true, false, false⟩ : Msk) m).ml (plM (⟨true, true, false, false, true, false, false⟩ : Msk) m).mc])) ∧ Off (fun _ => False) w w' := by
 show Calls Tryz.prog 30 #[(.agg #[.int .i64 m.k, .int .i64 m.fr, .int .i64 m.tn, .int .i64 m.op, .int .i64 m.fo, .string m.key, .int .i64 m.bk, .slice m.ea m.el m.ec, .slice m.da m.dl m.dc, .slice m.ma m.ml m.mc])] w fun e w' => e = .returned (.agg #[.int .i64 m.k, .int .i64 m.fr, .int .i64 m.tn, .int .i64 m.op, .int .i64 m.fo, .string ⟨#[]⟩, .int .i64 0, .slice m.ea m.el m.ec, .slice none 0 0, .slice none 0 0]) ∧ Off (fun _ => False) w w'
 obtain ⟨W, hW⟩ : ∃ W, W = (w.alloc (.cells #[.int .i64 m.k, .int .i64 m.fr, .int .i64 m.tn, .int .i64 m.op, .int .i64 m.fo, .string m.key, .int .i64 m.bk, .slice m.ea m.el m.ec, .slice m.da m.dl m.dc, .slice m.ma m.ml m.mc] 26)).alloc (.cells #[.int .i64 0, .int .i64 0, .int .i64 0, .int .i64 0, .int .i64 0, .string ⟨#[]⟩, .int .i64 0, .slice none 0 0, .slice none 0 0, .slice none 0 0] 26) := ⟨_, rfl⟩
 have O : Off (fun _ => False) w W := by rw [hW]; exact ((Off.refl _ w).alloc _).alloc _
 have C0 : Cel w.heap.size 26 #[.int .i64 m.k, .int .i64 m.fr, .int .i64 m.tn, .int .i64 m.op, .int .i64 m.fo, .string m.key, .int .i64 m.bk, .slice m.ea m.el m.ec, .slice m.da m.dl m.dc, .slice m.ma m.ml m.mc] W := by rw [hW]; exact (Cel.new w _ _).alloc _
 have C1 : Cel (w.heap.size + 1) 26 #[.int .i64 0, .int .i64 0, .int .i64 0, .int .i64 0, .int .i64 0, .string ⟨#[]⟩, .int .i64 0, .slice none 0 0, .slice none 0 0, .slice none 0 0] W := by
  rw [hW]
  have := Cel.new (w.alloc (.cells #[.int .i64 m.k, .int .i64 m.fr, .int .i64 m.tn, .int .i64 m.op, .int .i64 m.fo, .string m.key, .int .i64 m.bk, .slice m.ea m.el m.ec, .slice m.da m.dl m.dc, .slice m.ma m.ml m.mc] 26)) 26 #[.int .i64 0, .int .i64 0, .int .i64 0, .int .i64 0, .int .i64 0, .string ⟨#[]⟩, .int .i64 0, .slice none 0 0, .slice none 0 0, .slice none 0 0]
  rwa [World.size_alloc] at this
 have HH : Hid (∀ W, Calls Tryz.prog 12 #[.int .i64 m.k] W fun e w' => e = .returned (.int .i64 19) ∧ w' = W) := fun W => by have := has_any m.k W; rwa [hk] at this
 go_enter Tryz.func30, Tryz.ntmps30
 go_upto_region 1 with fail
 rw [← hW]
 have HO : Hid _ := O
 have HC0 : Hid _ := C0
 have HC1 : Hid _ := C1
 clear hW O C0 C1 hk
 obtain ⟨b, hb⟩ : ∃ b, b = w.heap.size := ⟨_, rfl⟩
 rw [← hb] at HC0 HC1 ⊢
 have HB : Hid (b = w.heap.size) := hb
 clear hb
 obtain ⟨x0, x1, x2, x3, x4, x5, x6, x7, x8, x9⟩ := celw10 HC0.out
 go_wp2_with fail
 refine (HH.out _).mono ?_
 rintro e w' ⟨rfl, hw⟩
 rw [hw]
 clear hw w' HH
 go_upto_region 3 with fail
 have O4 : Off (fun _ => False) W (W.alloc (.cells #[.int .i64 m.k, .int .i64 m.fr, .int .i64 m.tn, .int .i64 0, .int .i64 0, .string ⟨#[]⟩, .int .i64 0, .slice none 0 0, .slice none 0 0, .slice none 0 0] 26)) := (Off.refl _ W).alloc _
 have C4 : Cel W.heap.size 26 #[.int .i64 m.k, .int .i64 m.fr, .int .i64 m.tn, .int .i64 0, .int .i64 0, .string ⟨#[]⟩, .int .i64 0, .slice none 0 0, .slice none 0 0, .slice none 0 0] (W.alloc (.cells #[.int .i64 m.k, .int .i64 m.fr, .int .i64 m.tn, .int .i64 0, .int .i64 0, .string ⟨#[]⟩, .int .i64 0, .slice none 0 0, .slice none 0 0, .slice none 0 0] 26)) := Cel.new W _ _
 have hlt := HC1.out.lt
 generalize hv : W.alloc (.cells #[.int .i64 m.k, .int .i64 m.fr, .int .i64 m.tn, .int .i64 0, .int .i64 0, .string ⟨#[]⟩, .int .i64 0, .slice none 0 0, .slice none 0 0, .slice none 0 0] 26) = V at O4 C4 ⊢
 obtain ⟨q, hq⟩ : ∃ q, q = W.heap.size := ⟨_, rfl⟩
 rw [← hq] at C4 ⊢
 have HBQ : Hid (b + 1 < q) := by show _ < _; omega
 have hbq : ¬ b = q := by omega
 have hbq1 : ¬ b + 1 = q := by omega
 have hqb : ¬ q = b := by omega
 clear x0 x1 x2 x3 x4 x5 x6 x7 x8 x9 hv hq hlt
 obtain ⟨x0, x1, x2, x3, x4, x5, x6, x7, x8, x9⟩ := celw10 (HC0.out.off O4 (fun h => h))
 have fzq := C4.free
 have HOV : Hid _ := HO.out.trans O4 (fun _ _ h => h)
 have HC4 : Hid _ := C4
 have HZ : Hid _ := HC1.out.off O4 (fun h => h)
 obtain ⟨y0, y1, y2, y3, y4, y5, y6, y7, y8, y9⟩ := celw10 C4
 clear O4 C4 HO
 have b0 : bits .and .i64 19 1 = 1 := by kernel_rfl
 have b1 : bits .and .i64 19 2 = 2 := by kernel_rfl
 have b2 : bits .and .i64 19 4 = 0 := by kernel_rfl
 have b3 : bits .and .i64 19 8 = 0 := by kernel_rfl
 have b4 : bits .and .i64 19 16 = 16 := by kernel_rfl
 have b5 : bits .and .i64 19 32 = 0 := by kernel_rfl
 have b6 : bits .and .i64 19 64 = 0 := by kernel_rfl
 go_upto_region 17 with fail
 have hqw : w.heap.size ≤ q := by have := HB.out; have := HBQ.out; omega
 have HZ5 : Hid (Cel (b + 1) 26 #[.int .i64 0, .int .i64 0, .int .i64 0, .int .i64 0, .int .i64 0, .string ⟨#[]⟩, .int .i64 0, .slice none 0 0, .slice none 0 0, .slice none 0 0] (((V.setCell ⟨q, 3, none⟩ (.int .i64 m.op)).setCell ⟨q, 4, none⟩ (.int .i64 m.fo)).setCell ⟨q, 7, none⟩ (.slice m.ea m.el m.ec))) := (((HZ.out).other (p := ⟨q, 3, none⟩) (fun e => hbq1 e) _).other (p := ⟨q, 4, none⟩) (fun e => hbq1 e) _).other (p := ⟨q, 7, none⟩) (fun e => hbq1 e) _
 have HC5 : Hid (Cel q 26 #[.int .i64 m.k, .int .i64 m.fr, .int .i64 m.tn, .int .i64 m.op, .int .i64 m.fo, .string ⟨#[]⟩, .int .i64 0, .slice m.ea m.el m.ec, .slice none 0 0, .slice none 0 0] (((V.setCell ⟨q, 3, none⟩ (.int .i64 m.op)).setCell ⟨q, 4, none⟩ (.int .i64 m.fo)).setCell ⟨q, 7, none⟩ (.slice m.ea m.el m.ec))) := (((HC4.out).set 3 _).set 4 _).set 7 _
 have HO5 : Hid (Off (fun _ => False) w (((V.setCell ⟨q, 3, none⟩ (.int .i64 m.op)).setCell ⟨q, 4, none⟩ (.int .i64 m.fo)).setCell ⟨q, 7, none⟩ (.slice m.ea m.el m.ec))) := (((HOV.out).setCell (p := ⟨q, 3, none⟩) (.inr hqw) _).setCell (p := ⟨q, 4, none⟩) (.inr hqw) _).setCell (p := ⟨q, 7, none⟩) (.inr hqw) _
 generalize (((V.setCell ⟨q, 3, none⟩ (.int .i64 m.op)).setCell ⟨q, 4, none⟩ (.int .i64 m.fo)).setCell ⟨q, 7, none⟩ (.slice m.ea m.el m.ec)) = V5 at HZ5 HC5 HO5 ⊢
 clear x0 x1 x2 x3 x4 x5 x6 x7 x8 x9 y0 y1 y2 y3 y4 y5 y6 y7 y8 y9 fzq HC4 HZ HOV HC0 HC1 b0 b1 b2 b3 b4 b5 b6
 obtain ⟨x0, x1, x2, x3, x4, x5, x6, x7, x8, x9⟩ := celw10 HC5.out
 obtain ⟨y0, y1, y2, y3, y4, y5, y6, y7, y8, y9⟩ := celw10 HZ5.out
 have fzz := HZ5.out.free
 go_wp2_with fail
 refine bodyPost_ret (results_msg (x := (⟨m.k, m.fr, m.tn, m.op, m.fo, ⟨#[]⟩, 0, m.ea, m.el, m.ec, none, 0, 0, none, 0, 0⟩ : Mg)) rfl rfl (HZ5.out.wrwAll (vs := mcs (⟨m.k, m.fr, m.tn, m.op, m.fo, ⟨#[]⟩, 0, m.ea, m.el, m.ec, none, 0, 0, none, 0, 0⟩ : Mg)) rfl)) rfl ?_
 exact ⟨rfl, off_wrw (g := b + 1) (us := mcs (⟨m.k, m.fr, m.tn, m.op, m.fo, ⟨#[]⟩, 0, m.ea, m.el, m.ec, none, 0, 0, none, 0, 0⟩ : Mg)) HO5.out (.inr (by have := HB.out; omega))⟩
set_option maxHeartbeats 2000000 in
theorem plain_23 (m : Mg) (w : World) (hk : hsK m.k = 23) : Calls Tryz.prog 30 #[(.agg #[.int .i64 m.k, .int .i64 m.fr, .int .i64 m.tn, .int .i64 m.op, .int .i64 m.fo, .string m.key, .int .i64 m.bk, .slice m.ea m.el m.ec, .slice m.da m.dl m.dc, .slice m.ma m.ml m.mc])] w fun e w' => e = .returned ((.agg #[.int .i64 (plM (⟨true, true, true, false, true, false, false⟩ : Msk) m).k, .int .i64 (plM (⟨true, true, true, false, true, false, false⟩ : Msk) m).fr, .int .i64 (plM (⟨true, true, true, false, true, false, false⟩ : Msk) m).tn, .int .i64 (plM (⟨true, true, true, false, true, false, false⟩ : Msk) m).op, .int .i64 (plM (⟨true, true, true, false, true, false, false⟩ : Msk) m).fo, .string (plM (⟨true, true, true, false, true, false, false⟩ : Msk) m).key, .int .i64 (plM (⟨true, true, true, false, true, false, false⟩ : Msk) m).bk, .slice (plM (⟨true, true, true, false, true, false, false⟩ : Msk) m).ea (plM (⟨true, true, true, false, true, false, false⟩ : Msk) m).el (plM (⟨true, true, true, false, true, false, false⟩ : Msk) m).ec, .slice (plM (⟨true, true, true, false, true, false, false⟩ : Msk) m).da (plM (⟨true, true, true, false, true, false, false⟩ : Msk) m).dl (plM (⟨true, true, true, false, true, false, false⟩ : Msk) m).dc, .slice (plM (⟨true, true, true, false, true, false, false⟩ : Msk) m).ma (plM (⟨true, true, true, false, true, false, false⟩ : Msk) m).ml (plM (⟨true, true, true, false, true, false, false⟩ : Msk) m).mc])) ∧ Off (fun _ => False) w w' := by
 show Calls Tryz.prog 30 #[(.agg #[.int .i64 m.k, .int .i64 m.fr, .int .i64 m.tn, .int .i64 m.op, .int .i64 m.fo, .string m.key, .int .i64 m.bk, .slice m.ea m.el m.ec, .slice m.da m.dl m.dc, .slice m.ma m.ml m.mc])] w fun e w' => e = .returned (.agg #[.int .i64 m.k, .int .i64 m.fr, .int .i64 m.tn, .int .i64 m.op, .int .i64 m.fo, .string m.key, .int .i64 0, .slice m.ea m.el m.ec, .slice none 0 0, .slice none 0 0]) ∧ Off (fun _ => False) w w'
 obtain ⟨W, hW⟩ : ∃ W, W = (w.alloc (.cells #[.int .i64 m.k, .int .i64 m.fr, .int .i64 m.tn, .int .i64 m.op, .int .i64 m.fo, .string m.key, .int .i64 m.bk, .slice m.ea m.el m.ec, .slice m.da m.dl m.dc, .slice m.ma m.ml m.mc] 26)).alloc (.cells #[.int .i64 0, .int .i64 0, .int .i64 0, .int .i64 0, .int .i64 0, .string ⟨#[]⟩, .int .i64 0, .slice none 0 0, .slice none 0 0, .slice none 0 0] 26) := ⟨_, rfl⟩
 have O : Off (fun _ => False) w W := by rw [hW]; exact ((Off.refl _ w).alloc _).alloc _
 have C0 : Cel w.heap.size 26 #[.int .i64 m.k, .int .i64 m.fr, .int .i64 m.tn, .int .i64 m.op, .int .i64 m.fo, .string m.key, .int .i64 m.bk, .slice m.ea m.el m.ec, .slice m.da m.dl m.dc, .slice m.ma m.ml m.mc] W := by rw [hW]; exact (Cel.new w _ _).alloc _
 have C1 : Cel (w.heap.size + 1) 26 #[.int .i64 0, .int .i64 0, .int .i64 0, .int .i64 0, .int .i64 0, .string ⟨#[]⟩, .int .i64 0, .slice none 0 0, .slice none 0 0, .slice none 0 0] W := by
  rw [hW]
  have := Cel.new (w.alloc (.cells #[.int .i64 m.k, .int .i64 m.fr, .int .i64 m.tn, .int .i64 m.op, .int .i64 m.fo, .string m.key, .int .i64 m.bk, .slice m.ea m.el m.ec, .slice m.da m.dl m.dc, .slice m.ma m.ml m.mc] 26)) 26 #[.int .i64 0, .int .i64 0, .int .i64 0, .int .i64 0, .int .i64 0, .string ⟨#[]⟩, .int .i64 0, .slice none 0 0, .slice none 0 0, .slice none 0 0]
  rwa [World.size_alloc] at this
 have HH : Hid (∀ W, Calls Tryz.prog 12 #[.int .i64 m.k] W fun e w' => e = .returned (.int .i64 23) ∧ w' = W) := fun W => by have := has_any m.k W; rwa [hk] at this
 go_enter Tryz.func30, Tryz.ntmps30
 go_upto_region 1 with fail
 rw [← hW]
 have HO : Hid _ := O
 have HC0 : Hid _ := C0
 have HC1 : Hid _ := C1
 clear hW O C0 C1 hk
 obtain ⟨b, hb⟩ : ∃ b, b = w.heap.size := ⟨_, rfl⟩
 rw [← hb] at HC0 HC1 ⊢
 have HB : Hid (b = w.heap.size) := hb
 clear hb
 obtain ⟨x0, x1, x2, x3, x4, x5, x6, x7, x8, x9⟩ := celw10 HC0.out
 go_wp2_with fail
 refine (HH.out _).mono ?_
 rintro e w' ⟨rfl, hw⟩
 rw [hw]
 clear hw w' HH
 go_upto_region 3 with fail
 have O4 : Off (fun _ => False) W (W.alloc (.cells #[.int .i64 m.k, .int .i64 m.fr, .int .i64 m.tn, .int .i64 0, .int .i64 0, .string ⟨#[]⟩, .int .i64 0, .slice none 0 0, .slice none 0 0, .slice none 0 0] 26)) := (Off.refl _ W).alloc _
 have C4 : Cel W.heap.size 26 #[.int .i64 m.k, .int .i64 m.fr, .int .i64 m.tn, .int .i64 0, .int .i64 0, .string ⟨#[]⟩, .int .i64 0, .slice none 0 0, .slice none 0 0, .slice none 0 0] (W.alloc (.cells #[.int .i64 m.k, .int .i64 m.fr, .int .i64 m.tn, .int .i64 0, .int .i64 0, .string ⟨#[]⟩, .int .i64 0, .slice none 0 0, .slice none 0 0, .slice none 0 0] 26)) := Cel.new W _ _
 have hlt := HC1.out.lt
 generalize hv : W.alloc (.cells #[.int .i64 m.k, .int .i64 m.fr, .int .i64 m.tn, .int .i64 0, .int .i64 0, .string ⟨#[]⟩, .int .i64 0, .slice none 0 0, .slice none 0 0, .slice none 0 0] 26) = V at O4 C4 ⊢
 obtain ⟨q, hq⟩ : ∃ q, q = W.heap.size := ⟨_, rfl⟩
 rw [← hq] at C4 ⊢
 have HBQ : Hid (b + 1 < q) := by show _ < _; omega
 have hbq : ¬ b = q := by omega
 have hbq1 : ¬ b + 1 = q := by omega
 have hqb : ¬ q = b := by omega
 clear x0 x1 x2 x3 x4 x5 x6 x7 x8 x9 hv hq hlt
 obtain ⟨x0, x1, x2, x3, x4, x5, x6, x7, x8, x9⟩ := celw10 (HC0.out.off O4 (fun h => h))
 have fzq := C4.free
 have HOV : Hid _ := HO.out.trans O4 (fun _ _ h => h)
 have HC4 : Hid _ := C4
 have HZ : Hid _ := HC1.out.off O4 (fun h => h)
 obtain ⟨y0, y1, y2, y3, y4, y5, y6, y7, y8, y9⟩ := celw10 C4
 clear O4 C4 HO
 have b0 : bits .and .i64 23 1 = 1 := by kernel_rfl
 have b1 : bits .and .i64 23 2 = 2 := by kernel_rfl
 have b2 : bits .and .i64 23 4 = 4 := by kernel_rfl
 have b3 : bits .and .i64 23 8 = 0 := by kernel_rfl
 have b4 : bits .and .i64 23 16 = 16 := by kernel_rfl
 have b5 : bits .and .i64 23 32 = 0 := by kernel_rfl
 have b6 : bits .and .i64 23 64 = 0 := by kernel_rfl
 go_upto_region 17 with fail
 have hqw : w.heap.size ≤ q := by have := HB.out; have := HBQ.out; omega
 have HZ5 : Hid (Cel (b + 1) 26 #[.int .i64 0, .int .i64 0, .int .i64 0, .int .i64 0, .int .i64 0, .string ⟨#[]⟩, .int .i64 0, .slice none 0 0, .slice none 0 0, .slice none 0 0] ((((V.setCell ⟨q, 3, none⟩ (.int .i64 m.op)).setCell ⟨q, 4, none⟩ (.int .i64 m.fo)).setCell ⟨q, 5, none⟩ (.string m.key)).setCell ⟨q, 7, none⟩ (.slice m.ea m.el m.ec))) := ((((HZ.out).other (p := ⟨q, 3, none⟩) (fun e => hbq1 e) _).other (p := ⟨q, 4, none⟩) (fun e => hbq1 e) _).other (p := ⟨q, 5, none⟩) (fun e => hbq1 e) _).other (p := ⟨q, 7, none⟩) (fun e => hbq1 e) _
 have HC5 : Hid (Cel q 26 #[.int .i64 m.k, .int .i64 m.fr, .int .i64 m.tn, .int .i64 m.op, .int .i64 m.fo, .string m.key, .int .i64 0, .slice m.ea m.el m.ec, .slice none 0 0, .slice none 0 0] ((((V.setCell ⟨q, 3, none⟩ (.int .i64 m.op)).setCell ⟨q, 4, none⟩ (.int .i64 m.fo)).setCell ⟨q, 5, none⟩ (.string m.key)).setCell ⟨q, 7, none⟩ (.slice m.ea m.el m.ec))) := ((((HC4.out).set 3 _).set 4 _).set 5 _).set 7 _
 have HO5 : Hid (Off (fun _ => False) w ((((V.setCell ⟨q, 3, none⟩ (.int .i64 m.op)).setCell ⟨q, 4, none⟩ (.int .i64 m.fo)).setCell ⟨q, 5, none⟩ (.string m.key)).setCell ⟨q, 7, none⟩ (.slice m.ea m.el m.ec))) := ((((HOV.out).setCell (p := ⟨q, 3, none⟩) (.inr hqw) _).setCell (p := ⟨q, 4, none⟩) (.inr hqw) _).setCell (p := ⟨q, 5, none⟩) (.inr hqw) _).setCell (p := ⟨q, 7, none⟩) (.inr hqw) _
 generalize ((((V.setCell ⟨q, 3, none⟩ (.int .i64 m.op)).setCell ⟨q, 4, none⟩ (.int .i64 m.fo)).setCell ⟨q, 5, none⟩ (.string m.key)).setCell ⟨q, 7, none⟩ (.slice m.ea m.el m.ec)) = V5 at HZ5 HC5 HO5 ⊢
 clear x0 x1 x2 x3 x4 x5 x6 x7 x8 x9 y0 y1 y2 y3 y4 y5 y6 y7 y8 y9 fzq HC4 HZ HOV HC0 HC1 b0 b1 b2 b3 b4 b5 b6
 obtain ⟨x0, x1, x2, x3, x4, x5, x6, x7, x8, x9⟩ := celw10 HC5.out
 obtain ⟨y0, y1, y2, y3, y4, y5, y6, y7, y8, y9⟩ := celw10 HZ5.out
 have fzz := HZ5.out.free
 go_wp2_with fail
 refine bodyPost_ret (results_msg (x := (⟨m.k, m.fr, m.tn, m.op, m.fo, m.key, 0, m.ea, m.el, m.ec, none, 0, 0, none, 0, 0⟩ : Mg)) rfl rfl (HZ5.out.wrwAll (vs := mcs (⟨m.k, m.fr, m.tn, m.op, m.fo, m.key, 0, m.ea, m.el, m.ec, none, 0, 0, none, 0, 0⟩ : Mg)) rfl)) rfl ?_
 exact ⟨rfl, off_wrw (g := b + 1) (us := mcs (⟨m.k, m.fr, m.tn, m.op, m.fo, m.key, 0, m.ea, m.el, m.ec, none, 0, 0, none, 0, 0⟩ : Mg)) HO5.out (.inr (by have := HB.out; omega))⟩
set_option maxHeartbeats 2000000 in
theorem plain_40 (m : Mg) (w : World) (hk : hsK m.k = 40) : Calls Tryz.prog 30 #[(.agg #[.int .i64 m.k, .int .i64 m.fr, .int .i64 m.tn, .int .i64 m.op, .int .i64 m.fo, .string m.key, .int .i64 m.bk, .slice m.ea m.el m.ec, .slice m.da m.dl m.dc, .slice m.ma m.ml m.mc])] w fun e w' => e = .returned ((.agg #[.int .i64 (plM (⟨false, false, false, true, false, true, false⟩ : Msk) m).k, .int .i64 (plM (⟨false, false, false, true, false, true, false⟩ : Msk) m).fr, .int .i64 (plM (⟨false, false, false, true, false, true, false⟩ : Msk) m).tn, .int .i64 (plM (⟨false, false, false, true, false, true, false⟩ : Msk) m).op, .int .i64 (plM (⟨false, false, false, true, false, true, false⟩ : Msk) m).fo, .string (plM (⟨false, false, false, true, false, true, false⟩ : Msk) m).key, .int .i64 (plM (⟨false, false, false, true, false, true, false⟩ : Msk) m).bk, .slice (plM (⟨false, false, false, true, false, true, false⟩ : Msk) m).ea (plM (⟨false, false, false, true, false, true, false⟩ : Msk) m).el (plM (⟨false, false, false, true, false, true, false⟩ : Msk) m).ec, .slice (plM (⟨false, false, false, true, false, true, false⟩ : Msk) m).da (plM (⟨false, false, false, true, false, true, false⟩ : Msk) m).dl (plM (⟨false, false, false, true, false, true, false⟩ : Msk) m).dc, .slice (plM (⟨false, false, false, true, false, true, false⟩ : Msk) m).ma (plM (⟨false, false, false, true, false, true, false⟩ : Msk) m).ml (plM (⟨false, false, false, true, false, true, false⟩ : Msk) m).mc])) ∧ Off (fun _ => False) w w' := by
 show Calls Tryz.prog 30 #[(.agg #[.int .i64 m.k, .int .i64 m.fr, .int .i64 m.tn, .int .i64 m.op, .int .i64 m.fo, .string m.key, .int .i64 m.bk, .slice m.ea m.el m.ec, .slice m.da m.dl m.dc, .slice m.ma m.ml m.mc])] w fun e w' => e = .returned (.agg #[.int .i64 m.k, .int .i64 m.fr, .int .i64 m.tn, .int .i64 0, .int .i64 0, .string ⟨#[]⟩, .int .i64 m.bk, .slice none 0 0, .slice m.da m.dl m.dc, .slice none 0 0]) ∧ Off (fun _ => False) w w'
 obtain ⟨W, hW⟩ : ∃ W, W = (w.alloc (.cells #[.int .i64 m.k, .int .i64 m.fr, .int .i64 m.tn, .int .i64 m.op, .int .i64 m.fo, .string m.key, .int .i64 m.bk, .slice m.ea m.el m.ec, .slice m.da m.dl m.dc, .slice m.ma m.ml m.mc] 26)).alloc (.cells #[.int .i64 0, .int .i64 0, .int .i64 0, .int .i64 0, .int .i64 0, .string ⟨#[]⟩, .int .i64 0, .slice none 0 0, .slice none 0 0, .slice none 0 0] 26) := ⟨_, rfl⟩
 have O : Off (fun _ => False) w W := by rw [hW]; exact ((Off.refl _ w).alloc _).alloc _
 have C0 : Cel w.heap.size 26 #[.int .i64 m.k, .int .i64 m.fr, .int .i64 m.tn, .int .i64 m.op, .int .i64 m.fo, .string m.key, .int .i64 m.bk, .slice m.ea m.el m.ec, .slice m.da m.dl m.dc, .slice m.ma m.ml m.mc] W := by rw [hW]; exact (Cel.new w _ _).alloc _
 have C1 : Cel (w.heap.size + 1) 26 #[.int .i64 0, .int .i64 0, .int .i64 0, .int .i64 0, .int .i64 0, .string ⟨#[]⟩, .int .i64 0, .slice none 0 0, .slice none 0 0, .slice none 0 0] W := by
  rw [hW]
  have := Cel.new (w.alloc (.cells #[.int .i64 m.k, .int .i64 m.fr, .int .i64 m.tn, .int .i64 m.op, .int .i64 m.fo, .string m.key, .int .i64 m.bk, .slice m.ea m.el m.ec, .slice m.da m.dl m.dc, .slice m.ma m.ml m.mc] 26)) 26 #[.int .i64 0, .int .i64 0, .int .i64 0, .int .i64 0, .int .i64 0, .string ⟨#[]⟩, .int .i64 0, .slice none 0 0, .slice none 0 0, .slice none 0 0]
  rwa [World.size_alloc] at this
 have HH : Hid (∀ W, Calls Tryz.prog 12 #[.int .i64 m.k] W fun e w' => e = .returned (.int .i64 40) ∧ w' = W) := fun W => by have := has_any m.k W; rwa [hk] at this
 go_enter Tryz.func30, Tryz.ntmps30
 go_upto_region 1 with fail
 rw [← hW]
 have HO : Hid _ := O
 have HC0 : Hid _ := C0
 have HC1 : Hid _ := C1
 clear hW O C0 C1 hk
 obtain ⟨b, hb⟩ : ∃ b, b = w.heap.size := ⟨_, rfl⟩
 rw [← hb] at HC0 HC1 ⊢
 have HB : Hid (b = w.heap.size) := hb
 clear hb
 obtain ⟨x0, x1, x2, x3, x4, x5, x6, x7, x8, x9⟩ := celw10 HC0.out
 go_wp2_with fail
 refine (HH.out _).mono ?_
 rintro e w' ⟨rfl, hw⟩
 rw [hw]
 clear hw w' HH
 go_upto_region 3 with fail
 have O4 : Off (fun _ => False) W (W.alloc (.cells #[.int .i64 m.k, .int .i64 m.fr, .int .i64 m.tn, .int .i64 0, .int .i64 0, .string ⟨#[]⟩, .int .i64 0, .slice none 0 0, .slice none 0 0, .slice none 0 0] 26)) := (Off.refl _ W).alloc _
 have C4 : Cel W.heap.size 26 #[.int .i64 m.k, .int .i64 m.fr, .int .i64 m.tn, .int .i64 0, .int .i64 0, .string ⟨#[]⟩, .int .i64 0, .slice none 0 0, .slice none 0 0, .slice none 0 0] (W.alloc (.cells #[.int .i64 m.k, .int .i64 m.fr, .int .i64 m.tn, .int .i64 0, .int .i64 0, .string ⟨#[]⟩, .int .i64 0, .slice none 0 0, .slice none 0 0, .slice none 0 0] 26)) := Cel.new W _ _
 have hlt := HC1.out.lt
 generalize hv : W.alloc (.cells #[.int .i64 m.k, .int .i64 m.fr, .int .i64 m.tn, .int .i64 0, .int .i64 0, .string ⟨#[]⟩, .int .i64 0, .slice none 0 0, .slice none 0 0, .slice none 0 0] 26) = V at O4 C4 ⊢
 obtain ⟨q, hq⟩ : ∃ q, q = W.heap.size := ⟨_, rfl⟩
 rw [← hq] at C4 ⊢
 have HBQ : Hid (b + 1 < q) := by show _ < _; omega
 have hbq : ¬ b = q := by omega
 have hbq1 : ¬ b + 1 = q := by omega
 have hqb : ¬ q = b := by omega
 clear x0 x1 x2 x3 x4 x5 x6 x7 x8 x9 hv hq hlt
 obtain ⟨x0, x1, x2, x3, x4, x5, x6, x7, x8, x9⟩ := celw10 (HC0.out.off O4 (fun h => h))
 have fzq := C4.free
 have HOV : Hid _ := HO.out.trans O4 (fun _ _ h => h)
 have HC4 : Hid _ := C4
 have HZ : Hid _ := HC1.out.off O4 (fun h => h)
 obtain ⟨y0, y1, y2, y3, y4, y5, y6, y7, y8, y9⟩ := celw10 C4
 clear O4 C4 HO
 have b0 : bits .and .i64 40 1 = 0 := by kernel_rfl
 have b1 : bits .and .i64 40 2 = 0 := by kernel_rfl
 have b2 : bits .and .i64 40 4 = 0 := by kernel_rfl
 have b3 : bits .and .i64 40 8 = 8 := by kernel_rfl
 have b4 : bits .and .i64 40 16 = 0 := by kernel_rfl
 have b5 : bits .and .i64 40 32 = 32 := by kernel_rfl
 have b6 : bits .and .i64 40 64 = 0 := by kernel_rfl
 go_upto_region 17 with fail
 have hqw : w.heap.size ≤ q := by have := HB.out; have := HBQ.out; omega
 have HZ5 : Hid (Cel (b + 1) 26 #[.int .i64 0, .int .i64 0, .int .i64 0, .int .i64 0, .int .i64 0, .string ⟨#[]⟩, .int .i64 0, .slice none 0 0, .slice none 0 0, .slice none 0 0] ((V.setCell ⟨q, 6, none⟩ (.int .i64 m.bk)).setCell ⟨q, 8, none⟩ (.slice m.da m.dl m.dc))) := ((HZ.out).other (p := ⟨q, 6, none⟩) (fun e => hbq1 e) _).other (p := ⟨q, 8, none⟩) (fun e => hbq1 e) _
 have HC5 : Hid (Cel q 26 #[.int .i64 m.k, .int .i64 m.fr, .int .i64 m.tn, .int .i64 0, .int .i64 0, .string ⟨#[]⟩, .int .i64 m.bk, .slice none 0 0, .slice m.da m.dl m.dc, .slice none 0 0] ((V.setCell ⟨q, 6, none⟩ (.int .i64 m.bk)).setCell ⟨q, 8, none⟩ (.slice m.da m.dl m.dc))) := ((HC4.out).set 6 _).set 8 _
 have HO5 : Hid (Off (fun _ => False) w ((V.setCell ⟨q, 6, none⟩ (.int .i64 m.bk)).setCell ⟨q, 8, none⟩ (.slice m.da m.dl m.dc))) := ((HOV.out).setCell (p := ⟨q, 6, none⟩) (.inr hqw) _).setCell (p := ⟨q, 8, none⟩) (.inr hqw) _
 generalize ((V.setCell ⟨q, 6, none⟩ (.int .i64 m.bk)).setCell ⟨q, 8, none⟩ (.slice m.da m.dl m.dc)) = V5 at HZ5 HC5 HO5 ⊢
 clear x0 x1 x2 x3 x4 x5 x6 x7 x8 x9 y0 y1 y2 y3 y4 y5 y6 y7 y8 y9 fzq HC4 HZ HOV HC0 HC1 b0 b1 b2 b3 b4 b5 b6
 obtain ⟨x0, x1, x2, x3, x4, x5, x6, x7, x8, x9⟩ := celw10 HC5.out
 obtain ⟨y0, y1, y2, y3, y4, y5, y6, y7, y8, y9⟩ := celw10 HZ5.out
 have fzz := HZ5.out.free
 go_wp2_with fail
 refine bodyPost_ret (results_msg (x := (⟨m.k, m.fr, m.tn, 0, 0, ⟨#[]⟩, m.bk, none, 0, 0, m.da, m.dl, m.dc, none, 0, 0⟩ : Mg)) rfl rfl (HZ5.out.wrwAll (vs := mcs (⟨m.k, m.fr, m.tn, 0, 0, ⟨#[]⟩, m.bk, none, 0, 0, m.da, m.dl, m.dc, none, 0, 0⟩ : Mg)) rfl)) rfl ?_
 exact ⟨rfl, off_wrw (g := b + 1) (us := mcs (⟨m.k, m.fr, m.tn, 0, 0, ⟨#[]⟩, m.bk, none, 0, 0, m.da, m.dl, m.dc, none, 0, 0⟩ : Mg)) HO5.out (.inr (by have := HB.out; omega))⟩
set_option maxHeartbeats 2000000 in
theorem plain_56 (m : Mg) (w : World) (hk : hsK m.k = 56) : Calls Tryz.prog 30 #[(.agg #[.int .i64 m.k, .int .i64 m.fr, .int .i64 m.tn, .int .i64 m.op, .int .i64 m.fo, .string m.key, .int .i64 m.bk, .slice m.ea m.el m.ec, .slice m.da m.dl m.dc, .slice m.ma m.ml m.mc])] w fun e w' => e = .returned ((.agg #[.int .i64 (plM (⟨false, false, false, true, true, true, false⟩ : Msk) m).k, .int .i64 (plM (⟨false, false, false, true, true, true, false⟩ : Msk) m).fr, .int .i64 (plM (⟨false, false, false, true, true, true, false⟩ : Msk) m).tn, .int .i64 (plM (⟨false, false, false, true, true, true, false⟩ : Msk) m).op, .int .i64 (plM (⟨false, false, false, true, true, true, false⟩ : Msk) m).fo, .string (plM (⟨false, false, false, true, true, true, false⟩ : Msk) m).key, .int .i64 (plM (⟨false, false, false, true, true, true, false⟩ : Msk) m).bk, .slice (plM (⟨false, false, false, true, true, true, false⟩ : Msk) m).ea (plM (⟨false, false, false, true, true, true, false⟩ : Msk) m).el (plM (⟨false, false, false, true, true, true, false⟩ : Msk) m).ec, .slice (plM (⟨false, false, false, true, true, true, false⟩ : Msk) m).da (plM (⟨false, false, false, true, true, true, false⟩ : Msk) m).dl (plM (⟨false, false, false, true, true, true, false⟩ : Msk) m).dc, .slice (plM (⟨false, false, false, true, true, true, false⟩ : Msk) m).ma (plM (⟨false, false, false, true, true, true, false⟩ : Msk) m).ml (plM (⟨false, false, false, true, true, true, false⟩ : Msk) m).mc])) ∧ Off (fun _ => False) w w' := by
 show Calls Tryz.prog 30 #[(.agg #[.int .i64 m.k, .int .i64 m.fr, .int .i64 m.tn, .int .i64 m.op, .int .i64 m.fo, .string m.key, .int .i64 m.bk, .slice m.ea m.el m.ec, .slice m.da m.dl m.dc, .slice m.ma m.ml m.mc])] w fun e w' => e = .returned (.agg #[.int .i64 m.k, .int .i64 m.fr, .int .i64 m.tn, .int .i64 0, .int .i64 0, .string ⟨#[]⟩, .int .i64 m.bk, .slice m.ea m.el m.ec, .slice m.da m.dl m.dc, .slice none 0 0]) ∧ Off (fun _ => False) w w'
 obtain ⟨W, hW⟩ : ∃ W, W = (w.alloc (.cells #[.int .i64 m.k, .int .i64 m.fr, .int .i64 m.tn, .int .i64 m.op, .int .i64 m.fo, .string m.key, .int .i64 m.bk, .slice m.ea m.el m.ec, .slice m.da m.dl m.dc, .slice m.ma m.ml m.mc] 26)).alloc (.cells #[.int .i64 0, .int .i64 0, .int .i64 0, .int .i64 0, .int .i64 0, .string ⟨#[]⟩, .int .i64 0, .slice none 0 0, .slice none 0 0, .slice none 0 0] 26) := ⟨_, rfl⟩
 have O : Off (fun _ => False) w W := by rw [hW]; exact ((Off.refl _ w).alloc _).alloc _
 have C0 : Cel w.heap.size 26 #[.int .i64 m.k, .int .i64 m.fr, .int .i64 m.tn, .int .i64 m.op, .int .i64 m.fo, .string m.key, .int .i64 m.bk, .slice m.ea m.el m.ec, .slice m.da m.dl m.dc, .slice m.ma m.ml m.mc] W := by rw [hW]; exact (Cel.new w _ _).alloc _
 have C1 : Cel (w.heap.size + 1) 26 #[.int .i64 0, .int .i64 0, .int .i64 0, .int .i64 0, .int .i64 0, .string ⟨#[]⟩, .int .i64 0, .slice none 0 0, .slice none 0 0, .slice none 0 0] W := by
  rw [hW]
  have := Cel.new (w.alloc (.cells #[.int .i64 m.k, .int .i64 m.fr, .int .i64 m.tn, .int .i64 m.op, .int .i64 m.fo, .string m.key, .int .i64 m.bk, .slice m.ea m.el m.ec, .slice m.da m.dl m.dc, .slice m.ma m.ml m.mc] 26)) 26 #[.int .i64 0, .int .i64 0, .int .i64 0, .int .i64 0, .int .i64 0, .string ⟨#[]⟩, .int .i64 0, .slice none 0 0, .slice none 0 0, .slice none 0 0]
  rwa [World.size_alloc] at this
 have HH : Hid (∀ W, Calls Tryz.prog 12 #[.int .i64 m.k] W fun e w' => e = .returned (.int .i64 56) ∧ w' = W) := fun W => by have := has_any m.k W; rwa [hk] at this
 go_enter Tryz.func30, Tryz.ntmps30
 go_upto_region 1 with fail
 rw [← hW]
 have HO : Hid _ := O
 have HC0 : Hid _ := C0
 have HC1 : Hid _ := C1
 clear hW O C0 C1 hk
 obtain ⟨b, hb⟩ : ∃ b, b = w.heap.size := ⟨_, rfl⟩
 rw [← hb] at HC0 HC1 ⊢
 have HB : Hid (b = w.heap.size) := hb
 clear hb
 obtain ⟨x0, x1, x2, x3, x4, x5, x6, x7, x8, x9⟩ := celw10 HC0.out
 go_wp2_with fail
 refine (HH.out _).mono ?_
 rintro e w' ⟨rfl, hw⟩
 rw [hw]
 clear hw w' HH
 go_upto_region 3 with fail
 have O4 : Off (fun _ => False) W (W.alloc (.cells #[.int .i64 m.k, .int .i64 m.fr, .int .i64 m.tn, .int .i64 0, .int .i64 0, .string ⟨#[]⟩, .int .i64 0, .slice none 0 0, .slice none 0 0, .slice none 0 0] 26)) := (Off.refl _ W).alloc _
 have C4 : Cel W.heap.size 26 #[.int .i64 m.k, .int .i64 m.fr, .int .i64 m.tn, .int .i64 0, .int .i64 0, .string ⟨#[]⟩, .int .i64 0, .slice none 0 0, .slice none 0 0, .slice none 0 0] (W.alloc (.cells #[.int .i64 m.k, .int .i64 m.fr, .int .i64 m.tn, .int .i64 0, .int .i64 0, .string ⟨#[]⟩, .int .i64 0, .slice none 0 0, .slice none 0 0, .slice none 0 0] 26)) := Cel.new W _ _
 have hlt := HC1.out.lt
 generalize hv : W.alloc (.cells #[.int .i64 m.k, .int .i64 m.fr, .int .i64 m.tn, .int .i64 0, .int .i64 0, .string ⟨#[]⟩, .int .i64 0, .slice none 0 0, .slice none 0 0, .slice none 0 0] 26) = V at O4 C4 ⊢
 obtain ⟨q, hq⟩ : ∃ q, q = W.heap.size := ⟨_, rfl⟩
 rw [← hq] at C4 ⊢
 have HBQ : Hid (b + 1 < q) := by show _ < _; omega
 have hbq : ¬ b = q := by omega
 have hbq1 : ¬ b + 1 = q := by omega
 have hqb : ¬ q = b := by omega
 clear x0 x1 x2 x3 x4 x5 x6 x7 x8 x9 hv hq hlt
 obtain ⟨x0, x1, x2, x3, x4, x5, x6, x7, x8, x9⟩ := celw10 (HC0.out.off O4 (fun h => h))
 have fzq := C4.free
 have HOV : Hid _ := HO.out.trans O4 (fun _ _ h => h)
 have HC4 : Hid _ := C4
 have HZ : Hid _ := HC1.out.off O4 (fun h => h)
 obtain ⟨y0, y1, y2, y3, y4, y5, y6, y7, y8, y9⟩ := celw10 C4
 clear O4 C4 HO
 have b0 : bits .and .i64 56 1 = 0 := by kernel_rfl
 have b1 : bits .and .i64 56 2 = 0 := by kernel_rfl
 have b2 : bits .and .i64 56 4 = 0 := by kernel_rfl
 have b3 : bits .and .i64 56 8 = 8 := by kernel_rfl
 have b4 : bits .and .i64 56 16 = 16 := by kernel_rfl
 have b5 : bits .and .i64 56 32 = 32 := by kernel_rfl
 have b6 : bits .and .i64 56 64 = 0 := by kernel_rfl
 go_upto_region 17 with fail
 have hqw : w.heap.size ≤ q := by have := HB.out; have := HBQ.out; omega
 have HZ5 : Hid (Cel (b + 1) 26 #[.int .i64 0, .int .i64 0, .int .i64 0, .int .i64 0, .int .i64 0, .string ⟨#[]⟩, .int .i64 0, .slice none 0 0, .slice none 0 0, .slice none 0 0] (((V.setCell ⟨q, 6, none⟩ (.int .i64 m.bk)).setCell ⟨q, 7, none⟩ (.slice m.ea m.el m.ec)).setCell ⟨q, 8, none⟩ (.slice m.da m.dl m.dc))) := (((HZ.out).other (p := ⟨q, 6, none⟩) (fun e => hbq1 e) _).other (p := ⟨q, 7, none⟩) (fun e => hbq1 e) _).other (p := ⟨q, 8, none⟩) (fun e => hbq1 e) _
 have HC5 : Hid (Cel q 26 #[.int .i64 m.k, .int .i64 m.fr, .int .i64 m.tn, .int .i64 0, .int .i64 0, .string ⟨#[]⟩, .int .i64 m.bk, .slice m.ea m.el m.ec, .slice m.da m.dl m.dc, .slice none 0 0] (((V.setCell ⟨q, 6, none⟩ (.int .i64 m.bk)).setCell ⟨q, 7, none⟩ (.slice m.ea m.el m.ec)).setCell ⟨q, 8, none⟩ (.slice m.da m.dl m.dc))) := (((HC4.out).set 6 _).set 7 _).set 8 _
 have HO5 : Hid (Off (fun _ => False) w (((V.setCell ⟨q, 6, none⟩ (.int .i64 m.bk)).setCell ⟨q, 7, none⟩ (.slice m.ea m.el m.ec)).setCell ⟨q, 8, none⟩ (.slice m.da m.dl m.dc))) := (((HOV.out).setCell (p := ⟨q, 6, none⟩) (.inr hqw) _).setCell (p := ⟨q, 7, none⟩) (.inr hqw) _).setCell (p := ⟨q, 8, none⟩) (.inr hqw) _
 generalize (((V.setCell ⟨q, 6, none⟩ (.int .i64 m.bk)).setCell ⟨q, 7, none⟩ (.slice m.ea m.el m.ec)).setCell ⟨q, 8, none⟩ (.slice m.da m.dl m.dc)) = V5 at HZ5 HC5 HO5 ⊢
 clear x0 x1 x2 x3 x4 x5 x6 x7 x8 x9 y0 y1 y2 y3 y4 y5 y6 y7 y8 y9 fzq HC4 HZ HOV HC0 HC1 b0 b1 b2 b3 b4 b5 b6
 obtain ⟨x0, x1, x2, x3, x4, x5, x6, x7, x8, x9⟩ := celw10 HC5.out
 obtain ⟨y0, y1, y2, y3, y4, y5, y6, y7, y8, y9⟩ := celw10 HZ5.out
 have fzz := HZ5.out.free
 go_wp2_with fail
 refine bodyPost_ret (results_msg (x := (⟨m.k, m.fr, m.tn, 0, 0, ⟨#[]⟩, m.bk, m.ea, m.el, m.ec, m.da, m.dl, m.dc, none, 0, 0⟩ : Mg)) rfl rfl (HZ5.out.wrwAll (vs := mcs (⟨m.k, m.fr, m.tn, 0, 0, ⟨#[]⟩, m.bk, m.ea, m.el, m.ec, m.da, m.dl, m.dc, none, 0, 0⟩ : Mg)) rfl)) rfl ?_
 exact ⟨rfl, off_wrw (g := b + 1) (us := mcs (⟨m.k, m.fr, m.tn, 0, 0, ⟨#[]⟩, m.bk, m.ea, m.el, m.ec, m.da, m.dl, m.dc, none, 0, 0⟩ : Mg)) HO5.out (.inr (by have := HB.out; omega))⟩
set_option maxHeartbeats 2000000 in
theorem plain_64 (m : Mg) (w : World) (hk : hsK m.k = 64) : Calls Tryz.prog 30 #[(.agg #[.int .i64 m.k, .int .i64 m.fr, .int .i64 m.tn, .int .i64 m.op, .int .i64 m.fo, .string m.key, .int .i64 m.bk, .slice m.ea m.el m.ec, .slice m.da m.dl m.dc, .slice m.ma m.ml m.mc])] w fun e w' => e = .returned ((.agg #[.int .i64 (plM (⟨false, false, false, false, false, false, true⟩ : Msk) m).k, .int .i64 (plM (⟨false, false, false, false, false, false, true⟩ : Msk) m).fr, .int .i64 (plM (⟨false, false, false, false, false, false, true⟩ : Msk) m).tn, .int .i64 (plM (⟨false, false, false, false, false, false, true⟩ : Msk) m).op, .int .i64 (plM (⟨false, false, false, false, false, false, true⟩ : Msk) m).fo, .string (plM (⟨false, false, false, false, false, false, true⟩ : Msk) m).key, .int .i64 (plM (⟨false, false, false, false, false, false, true⟩ : Msk) m).bk, .slice (plM (⟨false, false, false, false, false, false, true⟩ : Msk) m).ea (plM (⟨false, false, false, false, false, false, true⟩ : Msk) m).el (plM (⟨false, false, false, false, false, false, true⟩ : Msk) m).ec, .slice (plM (⟨false, false, false, false, false, false, true⟩ : Msk) m).da (plM (⟨false, false, false, false, false, false, true⟩ : Msk) m).dl (plM (⟨false, false, false, false, false, false, true⟩ : Msk) m).dc, .slice (plM (⟨false, false, false, false, false, false, true⟩ : Msk) m).ma (plM (⟨false, false, false, false, false, false, true⟩ : Msk) m).ml (plM (⟨false, false, false, false, false, false, true⟩ : Msk) m).mc])) ∧ Off (fun _ => False) w w' := by
 show Calls Tryz.prog 30 #[(.agg #[.int .i64 m.k, .int .i64 m.fr, .int .i64 m.tn, .int .i64 m.op, .int .i64 m.fo, .string m.key, .int .i64 m.bk, .slice m.ea m.el m.ec, .slice m.da m.dl m.dc, .slice m.ma m.ml m.mc])] w fun e w' => e = .returned (.agg #[.int .i64 m.k, .int .i64 m.fr, .int .i64 m.tn, .int .i64 0, .int .i64 0, .string ⟨#[]⟩, .int .i64 0, .slice none 0 0, .slice none 0 0, .slice m.ma m.ml m.mc]) ∧ Off (fun _ => False) w w'
 obtain ⟨W, hW⟩ : ∃ W, W = (w.alloc (.cells #[.int .i64 m.k, .int .i64 m.fr, .int .i64 m.tn, .int .i64 m.op, .int .i64 m.fo, .string m.key, .int .i64 m.bk, .slice m.ea m.el m.ec, .slice m.da m.dl m.dc, .slice m.ma m.ml m.mc] 26)).alloc (.cells #[.int .i64 0, .int .i64 0, .int .i64 0, .int .i64 0, .int .i64 0, .string ⟨#[]⟩, .int .i64 0, .slice none 0 0, .slice none 0 0, .slice none 0 0] 26) := ⟨_, rfl⟩
 have O : Off (fun _ => False) w W := by rw [hW]; exact ((Off.refl _ w).alloc _).alloc _
 have C0 : Cel w.heap.size 26 #[.int .i64 m.k, .int .i64 m.fr, .int .i64 m.tn, .int .i64 m.op, .int .i64 m.fo, .string m.key, .int .i64 m.bk, .slice m.ea m.el m.ec, .slice m.da m.dl m.dc, .slice m.ma m.ml m.mc] W := by rw [hW]; exact (Cel.new w _ _).alloc _
 have C1 : Cel (w.heap.size + 1) 26 #[.int .i64 0, .int .i64 0, .int .i64 0, .int .i64 0, .int .i64 0, .string ⟨#[]⟩, .int .i64 0, .slice none 0 0, .slice none 0 0, .slice none 0 0] W := by
  rw [hW]
  have := Cel.new (w.alloc (.cells #[.int .i64 m.k, .int .i64 m.fr, .int .i64 m.tn, .int .i64 m.op, .int .i64 m.fo, .string m.key, .int .i64 m.bk, .slice m.ea m.el m.ec, .slice m.da m.dl m.dc, .slice m.ma m.ml m.mc] 26)) 26 #[.int .i64 0, .int .i64 0, .int .i64 0, .int .i64 0, .int .i64 0, .string ⟨#[]⟩, .int .i64 0, .slice none 0 0, .slice none 0 0, .slice none 0 0]
  rwa [World.size_alloc] at this
 have HH : Hid (∀ W, Calls Tryz.prog 12 #[.int .i64 m.k] W fun e w' => e = .returned (.int .i64 64) ∧ w' = W) := fun W => by have := has_any m.k W; rwa [hk] at this
 go_enter Tryz.func30, Tryz.ntmps30
 go_upto_region 1 with fail
 rw [← hW]
 have HO : Hid _ := O
 have HC0 : Hid _ := C0
 have HC1 : Hid _ := C1
 clear hW O C0 C1 hk
 obtain ⟨b, hb⟩ : ∃ b, b = w.heap.size := ⟨_, rfl⟩
 rw [← hb] at HC0 HC1 ⊢
 have HB : Hid (b = w.heap.size) := hb
 clear hb
 obtain ⟨x0, x1, x2, x3, x4, x5, x6, x7, x8, x9⟩ := celw10 HC0.out
 go_wp2_with fail
 refine (HH.out _).mono ?_
 rintro e w' ⟨rfl, hw⟩
 rw [hw]
 clear hw w' HH
 go_upto_region 3 with fail
 have O4 : Off (fun _ => False) W (W.alloc (.cells #[.int .i64 m.k, .int .i64 m.fr, .int .i64 m.tn, .int .i64 0, .int .i64 0, .string ⟨#[]⟩, .int .i64 0, .slice none 0 0, .slice none 0 0, .slice none 0 0] 26)) := (Off.refl _ W).alloc _
 have C4 : Cel W.heap.size 26 #[.int .i64 m.k, .int .i64 m.fr, .int .i64 m.tn, .int .i64 0, .int .i64 0, .string ⟨#[]⟩, .int .i64 0, .slice none 0 0, .slice none 0 0, .slice none 0 0] (W.alloc (.cells #[.int .i64 m.k, .int .i64 m.fr, .int .i64 m.tn, .int .i64 0, .int .i64 0, .string ⟨#[]⟩, .int .i64 0, .slice none 0 0, .slice none 0 0, .slice none 0 0] 26)) := Cel.new W _ _
 have hlt := HC1.out.lt
 generalize hv : W.alloc (.cells #[.int .i64 m.k, .int .i64 m.fr, .int .i64 m.tn, .int .i64 0, .int .i64 0, .string ⟨#[]⟩, .int .i64 0, .slice none 0 0, .slice none 0 0, .slice none 0 0] 26) = V at O4 C4 ⊢
 obtain ⟨q, hq⟩ : ∃ q, q = W.heap.size := ⟨_, rfl⟩
 rw [← hq] at C4 ⊢
 have HBQ : Hid (b + 1 < q) := by show _ < _; omega
 have hbq : ¬ b = q := by omega
 have hbq1 : ¬ b + 1 = q := by omega
 have hqb : ¬ q = b := by omega
 clear x0 x1 x2 x3 x4 x5 x6 x7 x8 x9 hv hq hlt
 obtain ⟨x0, x1, x2, x3, x4, x5, x6, x7, x8, x9⟩ := celw10 (HC0.out.off O4 (fun h => h))
 have fzq := C4.free
 have HOV : Hid _ := HO.out.trans O4 (fun _ _ h => h)
 have HC4 : Hid _ := C4
 have HZ : Hid _ := HC1.out.off O4 (fun h => h)
 obtain ⟨y0, y1, y2, y3, y4, y5, y6, y7, y8, y9⟩ := celw10 C4
 clear O4 C4 HO
 have b0 : bits .and .i64 64 1 = 0 := by kernel_rfl
 have b1 : bits .and .i64 64 2 = 0 := by kernel_rfl
 have b2 : bits .and .i64 64 4 = 0 := by kernel_rfl
 have b3 : bits .and .i64 64 8 = 0 := by kernel_rfl
 have b4 : bits .and .i64 64 16 = 0 := by kernel_rfl
 have b5 : bits .and .i64 64 32 = 0 := by kernel_rfl
 have b6 : bits .and .i64 64 64 = 64 := by kernel_rfl
 go_upto_region 17 with fail
 have hqw : w.heap.size ≤ q := by have := HB.out; have := HBQ.out; omega
 have HZ5 : Hid (Cel (b + 1) 26 #[.int .i64 0, .int .i64 0, .int .i64 0, .int .i64 0, .int .i64 0, .string ⟨#[]⟩, .int .i64 0, .slice none 0 0, .slice none 0 0, .slice none 0 0] (V.setCell ⟨q, 9, none⟩ (.slice m.ma m.ml m.mc))) := (HZ.out).other (p := ⟨q, 9, none⟩) (fun e => hbq1 e) _
 have HC5 : Hid (Cel q 26 #[.int .i64 m.k, .int .i64 m.fr, .int .i64 m.tn, .int .i64 0, .int .i64 0, .string ⟨#[]⟩, .int .i64 0, .slice none 0 0, .slice none 0 0, .slice m.ma m.ml m.mc] (V.setCell ⟨q, 9, none⟩ (.slice m.ma m.ml m.mc))) := (HC4.out).set 9 _
 have HO5 : Hid (Off (fun _ => False) w (V.setCell ⟨q, 9, none⟩ (.slice m.ma m.ml m.mc))) := (HOV.out).setCell (p := ⟨q, 9, none⟩) (.inr hqw) _
 generalize (V.setCell ⟨q, 9, none⟩ (.slice m.ma m.ml m.mc)) = V5 at HZ5 HC5 HO5 ⊢
 clear x0 x1 x2 x3 x4 x5 x6 x7 x8 x9 y0 y1 y2 y3 y4 y5 y6 y7 y8 y9 fzq HC4 HZ HOV HC0 HC1 b0 b1 b2 b3 b4 b5 b6
 obtain ⟨x0, x1, x2, x3, x4, x5, x6, x7, x8, x9⟩ := celw10 HC5.out
 obtain ⟨y0, y1, y2, y3, y4, y5, y6, y7, y8, y9⟩ := celw10 HZ5.out
 have fzz := HZ5.out.free
 go_wp2_with fail
 refine bodyPost_ret (results_msg (x := (⟨m.k, m.fr, m.tn, 0, 0, ⟨#[]⟩, 0, none, 0, 0, none, 0, 0, m.ma, m.ml, m.mc⟩ : Mg)) rfl rfl (HZ5.out.wrwAll (vs := mcs (⟨m.k, m.fr, m.tn, 0, 0, ⟨#[]⟩, 0, none, 0, 0, none, 0, 0, m.ma, m.ml, m.mc⟩ : Mg)) rfl)) rfl ?_
 exact ⟨rfl, off_wrw (g := b + 1) (us := mcs (⟨m.k, m.fr, m.tn, 0, 0, ⟨#[]⟩, 0, none, 0, 0, none, 0, 0, m.ma, m.ml, m.mc⟩ : Mg)) HO5.out (.inr (by have := HB.out; omega))⟩
theorem plain_any (m : Mg) (w : World) : Calls Tryz.prog 30 #[(.agg #[.int .i64 m.k, .int .i64 m.fr, .int .i64 m.tn, .int .i64 m.op, .int .i64 m.fo, .string m.key, .int .i64 m.bk, .slice m.ea m.el m.ec, .slice m.da m.dl m.dc, .slice m.ma m.ml m.mc])] w fun e w' => e = .returned ((.agg #[.int .i64 (plM (msk m.k) m).k, .int .i64 (plM (msk m.k) m).fr, .int .i64 (plM (msk m.k) m).tn, .int .i64 (plM (msk m.k) m).op, .int .i64 (plM (msk m.k) m).fo, .string (plM (msk m.k) m).key, .int .i64 (plM (msk m.k) m).bk, .slice (plM (msk m.k) m).ea (plM (msk m.k) m).el (plM (msk m.k) m).ec, .slice (plM (msk m.k) m).da (plM (msk m.k) m).dl (plM (msk m.k) m).dc, .slice (plM (msk m.k) m).ma (plM (msk m.k) m).ml (plM (msk m.k) m).mc])) ∧ Off (fun _ => False) w w' := by
 by_cases h1 : m.k = 1
 ·have e1 : hsK m.k = 17 := by unfold hsK; rw [if_pos h1]
  have e2 : msk m.k = (⟨true, false, false, false, true, false, false⟩ : Msk) := by unfold msk; rw [if_pos h1]
  rw [e2]
  exact plain_17 m w e1
 ·have _n1 := h1
  by_cases h2 : m.k = 2
  ·have e1 : hsK m.k = 23 := by unfold hsK; rw [if_neg h1, if_pos h2]
   have e2 : msk m.k = (⟨true, true, true, false, true, false, false⟩ : Msk) := by unfold msk; rw [if_neg h1, if_pos h2]
   rw [e2]
   exact plain_23 m w e1
  ·have _n2 := h2
   by_cases h3 : m.k = 3
   ·have e1 : hsK m.k = 19 := by unfold hsK; rw [if_neg h1, if_neg h2, if_pos h3]
    have e2 : msk m.k = (⟨true, true, false, false, true, false, false⟩ : Msk) := by unfold msk; rw [if_neg h1, if_neg h2, if_pos h3]
    rw [e2]
    exact plain_19 m w e1
   ·have _n3 := h3
    by_cases h4 : m.k = 4
    ·have e1 : hsK m.k = 5 := by unfold hsK; rw [if_neg h1, if_neg h2, if_neg h3, if_pos h4]
     have e2 : msk m.k = (⟨true, false, true, false, false, false, false⟩ : Msk) := by unfold msk; rw [if_neg h1, if_neg h2, if_neg h3, if_pos h4]
     rw [e2]
     exact plain_5 m w e1
    ·have _n4 := h4
     by_cases h5 : m.k = 5
     ·have e1 : hsK m.k = 17 := by unfold hsK; rw [if_neg h1, if_neg h2, if_neg h3, if_neg h4, if_pos h5]
      have e2 : msk m.k = (⟨true, false, false, false, true, false, false⟩ : Msk) := by unfold msk; rw [if_neg h1, if_neg h2, if_neg h3, if_neg h4, if_pos h5]
      rw [e2]
      exact plain_17 m w e1
     ·have _n5 := h5
      by_cases h6 : m.k = 6
      ·have e1 : hsK m.k = 40 := by unfold hsK; rw [if_neg h1, if_neg h2, if_neg h3, if_neg h4, if_neg h5, if_pos h6]
       have e2 : msk m.k = (⟨false, false, false, true, false, true, false⟩ : Msk) := by unfold msk; rw [if_neg h1, if_neg h2, if_neg h3, if_neg h4, if_neg h5, if_pos h6]
       rw [e2]
       exact plain_40 m w e1
      ·have _n6 := h6
       by_cases h7 : m.k = 7
       ·have e1 : hsK m.k = 56 := by unfold hsK; rw [if_neg h1, if_neg h2, if_neg h3, if_neg h4, if_neg h5, if_neg h6, if_pos h7]
        have e2 : msk m.k = (⟨false, false, false, true, true, true, false⟩ : Msk) := by unfold msk; rw [if_neg h1, if_neg h2, if_neg h3, if_neg h4, if_neg h5, if_neg h6, if_pos h7]
        rw [e2]
        exact plain_56 m w e1
       ·have _n7 := h7
        by_cases h8 : m.k = 8
        ·have e1 : hsK m.k = 64 := by unfold hsK; rw [if_neg h1, if_neg h2, if_neg h3, if_neg h4, if_neg h5, if_neg h6, if_neg h7, if_pos h8]
         have e2 : msk m.k = (⟨false, false, false, false, false, false, true⟩ : Msk) := by unfold msk; rw [if_neg h1, if_neg h2, if_neg h3, if_neg h4, if_neg h5, if_neg h6, if_neg h7, if_pos h8]
         rw [e2]
         exact plain_64 m w e1
        ·have _n8 := h8
         by_cases h9 : m.k = 9
         ·have e1 : hsK m.k = 64 := by unfold hsK; rw [if_neg h1, if_neg h2, if_neg h3, if_neg h4, if_neg h5, if_neg h6, if_neg h7, if_neg h8, if_pos h9]
          have e2 : msk m.k = (⟨false, false, false, false, false, false, true⟩ : Msk) := by unfold msk; rw [if_neg h1, if_neg h2, if_neg h3, if_neg h4, if_neg h5, if_neg h6, if_neg h7, if_neg h8, if_pos h9]
          rw [e2]
          exact plain_64 m w e1
         ·have _n9 := h9
          have e1 : hsK m.k = 0 := by unfold hsK; rw [if_neg h1, if_neg h2, if_neg h3, if_neg h4, if_neg h5, if_neg h6, if_neg h7, if_neg h8, if_neg h9]
          have e2 : msk m.k = (⟨false, false, false, false, false, false, false⟩ : Msk) := by unfold msk; rw [if_neg h1, if_neg h2, if_neg h3, if_neg h4, if_neg h5, if_neg h6, if_neg h7, if_neg h8, if_neg h9]
          rw [e2]
          exact plain_0 m w e1
end Go.Proofs.YtmbphlkohlggfaaGreat
