/- Items of several texts. -/
import Derived.Test.YtmbphlkohlggfaaCTz20
import Derived.Test.YtmbphlkohlggfaaCXs20
import Derived.Test.YtmbphlkohlggfaaCLg20
namespace Go.Proofs.Ytmbphlkohlggfaa
set_option maxRecDepth 100000
open Go.RowKit
set_option maxHeartbeats 8000000 in
theorem apart_walk (m : Mg) (es : List E) (gs : List G) (ms : List (Int × Int)) (n : Mg) (e2 : List E) (g2 : List G) (m2 : List (Int × Int)) (w : World) (h : MsgAt w m es gs ms) (h2 : MsgAt w n e2 g2 m2) :
  Calls Try.prog 7 #[(.agg #[.int .i64 m.k, .int .i64 m.fr, .int .i64 m.tn, .int .i64 m.op, .int .i64 m.fo, .string m.key, .int .i64 m.bk, .slice m.ea m.el m.ec, .slice m.da m.dl m.dc, .slice m.ma m.ml m.mc]), (.agg #[.int .i64 n.k, .int .i64 n.fr, .int .i64 n.tn, .int .i64 n.op, .int .i64 n.fo, .string n.key, .int .i64 n.bk, .slice n.ea n.el n.ec, .slice n.da n.dl n.dc, .slice n.ma n.ml n.mc])] w fun e w' => e = .returned (.bool true) ∧ Off (fun _ => False) w w' := by
 have OB : Off (fun _ => False) w ((w.alloc (.cells #[.int .i64 m.k, .int .i64 m.fr, .int .i64 m.tn, .int .i64 m.op, .int .i64 m.fo, .string m.key, .int .i64 m.bk, .slice m.ea m.el m.ec, .slice m.da m.dl m.dc, .slice m.ma m.ml m.mc] 26)).alloc (.cells #[.int .i64 n.k, .int .i64 n.fr, .int .i64 n.tn, .int .i64 n.op, .int .i64 n.fo, .string n.key, .int .i64 n.bk, .slice n.ea n.el n.ec, .slice n.da n.dl n.dc, .slice n.ma n.ml n.mc] 26)) := ((Off.refl _ w).alloc _).alloc _
 have C2 : Cel w.heap.size 26 #[.int .i64 m.k, .int .i64 m.fr, .int .i64 m.tn, .int .i64 m.op, .int .i64 m.fo, .string m.key, .int .i64 m.bk, .slice m.ea m.el m.ec, .slice m.da m.dl m.dc, .slice m.ma m.ml m.mc] ((w.alloc (.cells #[.int .i64 m.k, .int .i64 m.fr, .int .i64 m.tn, .int .i64 m.op, .int .i64 m.fo, .string m.key, .int .i64 m.bk, .slice m.ea m.el m.ec, .slice m.da m.dl m.dc, .slice m.ma m.ml m.mc] 26)).alloc (.cells #[.int .i64 n.k, .int .i64 n.fr, .int .i64 n.tn, .int .i64 n.op, .int .i64 n.fo, .string n.key, .int .i64 n.bk, .slice n.ea n.el n.ec, .slice n.da n.dl n.dc, .slice n.ma n.ml n.mc] 26)) := (Cel.new w _ _).alloc _
 have C3 : Cel (w.heap.size + 1) 26 #[.int .i64 n.k, .int .i64 n.fr, .int .i64 n.tn, .int .i64 n.op, .int .i64 n.fo, .string n.key, .int .i64 n.bk, .slice n.ea n.el n.ec, .slice n.da n.dl n.dc, .slice n.ma n.ml n.mc] ((w.alloc (.cells #[.int .i64 m.k, .int .i64 m.fr, .int .i64 m.tn, .int .i64 m.op, .int .i64 m.fo, .string m.key, .int .i64 m.bk, .slice m.ea m.el m.ec, .slice m.da m.dl m.dc, .slice m.ma m.ml m.mc] 26)).alloc (.cells #[.int .i64 n.k, .int .i64 n.fr, .int .i64 n.tn, .int .i64 n.op, .int .i64 n.fo, .string n.key, .int .i64 n.bk, .slice n.ea n.el n.ec, .slice n.da n.dl n.dc, .slice n.ma n.ml n.mc] 26)) := Cel.new1 w _ _ _
 have HX : Hid _ := h
 have HY : Hid _ := h2
 clear h h2
 go_enter Try.func7, Try.ntmps7
 go_upto_region 1 with fail
 generalize hV9 : (w.alloc (.cells #[.int .i64 m.k, .int .i64 m.fr, .int .i64 m.tn, .int .i64 m.op, .int .i64 m.fo, .string m.key, .int .i64 m.bk, .slice m.ea m.el m.ec, .slice m.da m.dl m.dc, .slice m.ma m.ml m.mc] 26)).alloc (.cells #[.int .i64 n.k, .int .i64 n.fr, .int .i64 n.tn, .int .i64 n.op, .int .i64 n.fo, .string n.key, .int .i64 n.bk, .slice n.ea n.el n.ec, .slice n.da n.dl n.dc, .slice n.ma n.ml n.mc] 26) = V9 at OB C2 C3 ⊢
 generalize w.heap.size + 1 = q3 at C3 ⊢
 generalize w.heap.size = q2 at C2 ⊢
 have HB2' : Hid _ := C2
 have HB3' : Hid _ := C3
 have HO : Hid _ := OB
 clear hV9 OB C2 C3
 obtain ⟨x0, x1, x2, x3, x4, x5, x6, x7, x8, x9⟩ := celw10 HB2'.out
 go_wp2_with fail
 refine (light_any m es gs ms _ (HX.out.off HO.out)).mono ?_
 rintro e w1 ⟨⟨b, rfl, -⟩, o1⟩
 clear x0 x1 x2 x3 x4 x5 x6 x7 x8 x9
 have HO1 : Hid _ := HO.out.trans o1 (fun _ _ h => h)
 cases b with
 | false =>
  go_wp2_with fail
  refine (awake_any _).mono ?_
  rintro e w9 ⟨rfl, o9⟩
  go_wp2_with fail
  go_ret
  exact ⟨rfl, HO1.out.trans o9 (fun _ _ h => h)⟩
 | true =>
  obtain ⟨x0, x1, x2, x3, x4, x5, x6, x7, x8, x9⟩ := celw10 (HB3'.out.off o1 (fun h => h))
  go_wp2_with fail
  refine (light_any n e2 g2 m2 _ (HY.out.off HO1.out)).mono ?_
  rintro e w2 ⟨⟨b, rfl, -⟩, o2⟩
  clear x0 x1 x2 x3 x4 x5 x6 x7 x8 x9
  have HO2 : Hid _ := HO1.out.trans o2 (fun _ _ h => h)
  have HC2 : Hid _ := (HB2'.out.off o1 (fun h => h)).off o2 (fun h => h)
  have HC3 : Hid _ := (HB3'.out.off o1 (fun h => h)).off o2 (fun h => h)
  clear o1 o2 HB2' HB3' HO1 HO
  cases b with
  | false =>
   go_wp2_with fail
   refine (awake_any _).mono ?_
   rintro e w9 ⟨rfl, o9⟩
   go_wp2_with fail
   go_ret
   exact ⟨rfl, HO2.out.trans o9 (fun _ _ h => h)⟩
  | true =>
   obtain ⟨x0, x1, x2, x3, x4, x5, x6, x7, x8, x9⟩ := celw10 HC2.out
   go_wp2_with fail
   refine (xencode_any m es gs ms _ (HX.out.off HO2.out)).mono ?_
   rintro e w3 ⟨t1, c1, bs, er, rfl, hr1, own1, -, o3⟩
   clear x0 x1 x2 x3 x4 x5 x6 x7 x8 x9
   have HR1 : Hid _ := hr1
   have HW1' : Hid _ := own1
   have HO3 : Hid _ := HO2.out.trans o3 (fun _ _ h => h)
   have HD2 : Hid _ := HC2.out.off o3 (fun h => h)
   have HD3 : Hid _ := HC3.out.off o3 (fun h => h)
   clear hr1 own1 o3 HC2 HC3 HO2
   obtain ⟨x0, x1, x2, x3, x4, x5, x6, x7, x8, x9⟩ := celw10 HD3.out
   go_wp2_with fail
   refine (xencode_any n e2 g2 m2 _ (HY.out.off HO3.out)).mono ?_
   rintro e w4 ⟨t2, c2, cs, es2, rfl, hr2, own2, -, o4⟩
   clear x0 x1 x2 x3 x4 x5 x6 x7 x8 x9
   have HR2 : Hid _ := hr2
   have HW2' : Hid _ := own2
   have HO4 : Hid _ := HO3.out.trans o4 (fun _ _ h => h)
   have HW1 : Hid _ := HW1'.out.off o4 (fun _ _ _ h => h)
   have HB2 : Hid _ := HD2.out.off o4 (fun h => h)
   have HB3 : Hid _ := HD3.out.off o4 (fun h => h)
   clear hr2 own2 o4 HW1' HD2 HD3 HO3
   by_cases he : er = 0
   case neg =>
    have e0 : (er != 0) = true := by simp [he]
    go_wp2_with fail
    refine (awake_any _).mono ?_
    rintro e w9 ⟨rfl, o9⟩
    go_wp2_with fail
    go_ret
    exact ⟨rfl, HO4.out.trans o9 (fun _ _ h => h)⟩
   subst he
   by_cases he : es2 = 0
   case neg =>
    have e0 : (es2 != 0) = true := by simp [he]
    go_wp2_with fail
    refine (awake_any _).mono ?_
    rintro e w9 ⟨rfl, o9⟩
    go_wp2_with fail
    go_ret
    exact ⟨rfl, HO4.out.trans o9 (fun _ _ h => h)⟩
   subst he
   have HAP : Hid (bs = cs ↔ nfM m es gs ms = nfM n e2 g2 m2) := apart_iff HX.out HY.out HR1.out HR2.out
   have HLT : Hid ((∀ y ∈ bs, y < 256) ∧ ∀ y ∈ cs, y < 256) := ⟨enc0_lt HX.out HR1.out, enc0_lt HY.out HR2.out⟩
   clear HR1 HR2
   go_upto_region 7 with fail
   by_cases hE : bs = cs
   ·have HNM : Hid (nfM m es gs ms = nfM n e2 g2 m2) := HAP.out.1 hE
    subst hE
    have HW2 : Hid _ := HW2'.out
    have HS1 : Hid (∀ W, Off (fun _ => False) w4 W → Calls Try.prog 15 #[(.agg #[.int .i64 m.k, .int .i64 m.fr, .int .i64 m.tn, .int .i64 m.op, .int .i64 m.fo, .string m.key, .int .i64 m.bk, .slice m.ea m.el m.ec, .slice m.da m.dl m.dc, .slice m.ma m.ml m.mc]), (.agg #[.int .i64 n.k, .int .i64 n.fr, .int .i64 n.tn, .int .i64 n.op, .int .i64 n.fo, .string n.key, .int .i64 n.bk, .slice n.ea n.el n.ec, .slice n.da n.dl n.dc, .slice n.ma n.ml n.mc])] W fun e w' => e = .returned (.bool true) ∧ Off (fun _ => False) W w') := fun W o => (xsame_any m n es e2 gs g2 ms m2 W (HX.out.off (HO4.out.trans o (fun _ _ h => h))) (HY.out.off (HO4.out.trans o (fun _ _ h => h)))).mono (fun e w' ⟨⟨b, he, hb⟩, o⟩ => ⟨by rw [he, hb.2 HNM.out], o⟩)
    have HS2 : Hid (∀ W, Off (fun _ => False) w4 W → Calls Try.prog 15 #[(.agg #[.int .i64 n.k, .int .i64 n.fr, .int .i64 n.tn, .int .i64 n.op, .int .i64 n.fo, .string n.key, .int .i64 n.bk, .slice n.ea n.el n.ec, .slice n.da n.dl n.dc, .slice n.ma n.ml n.mc]), (.agg #[.int .i64 m.k, .int .i64 m.fr, .int .i64 m.tn, .int .i64 m.op, .int .i64 m.fo, .string m.key, .int .i64 m.bk, .slice m.ea m.el m.ec, .slice m.da m.dl m.dc, .slice m.ma m.ml m.mc])] W fun e w' => e = .returned (.bool true) ∧ Off (fun _ => False) W w') := fun W o => (xsame_any n m e2 es g2 gs m2 ms W (HY.out.off (HO4.out.trans o (fun _ _ h => h))) (HX.out.off (HO4.out.trans o (fun _ _ h => h)))).mono (fun e w' ⟨⟨b, he, hb⟩, o⟩ => ⟨by rw [he, hb.2 HNM.out.symm], o⟩)
    clear HAP HLT HW2'
    refine wp_region_held_drew (S := Off (fun _ => False) w4) (by kernel_rfl) ((Off.refl _ w4).drew) (fun hS => ?_)
    refine take_at (i := 0) 35 (v := .slice t1 bs.length c1) rfl rfl (by kernel_rfl) (by kernel_rfl) (by kernel_rfl) (fun _ _ _ h => h) (Or.inl ⟨by rfl, fun w' hw' => by go_simp⟩) hS ?_
    simp only [Act.put, lsA, lsZ, lsS]
    refine take_at (i := 1) 36 (v := .string (strOf bs)) rfl rfl (by kernel_rfl) (by kernel_rfl) (by kernel_rfl) (fun _ _ _ h => h) (Or.inl ⟨by rfl, fun w' hw' => by have x := conv_src (HW1.out.off hw' (fun _ _ _ h => h)).src; go_simp⟩) hS ?_
    simp only [Act.put, lsA, lsZ, lsS]
    refine take_at (i := 2) 37 (v := .slice t2 bs.length c2) rfl rfl (by kernel_rfl) (by kernel_rfl) (by kernel_rfl) (fun _ _ _ h => h) (Or.inl ⟨by rfl, fun w' hw' => by go_simp⟩) hS ?_
    simp only [Act.put, lsA, lsZ, lsS]
    refine take_at (i := 3) 38 (v := .string (strOf bs)) rfl rfl (by kernel_rfl) (by kernel_rfl) (by kernel_rfl) (fun _ _ _ h => h) (Or.inl ⟨by rfl, fun w' hw' => by have x := conv_src (HW2.out.off hw' (fun _ _ _ h => h)).src; go_simp⟩) hS ?_
    simp only [Act.put, lsA, lsZ, lsS]
    refine take_at (i := 4) 39 (v := .bool true) rfl rfl (by kernel_rfl) (by kernel_rfl) (by kernel_rfl) (fun _ _ _ h => h) (Or.inl ⟨by rfl, fun w' hw' => by go_simp⟩) hS ?_
    simp only [Act.put, lsA, lsZ, lsS]
    refine take_at (i := 5) 40 (v := (.agg #[.int .i64 m.k, .int .i64 m.fr, .int .i64 m.tn, .int .i64 m.op, .int .i64 m.fo, .string m.key, .int .i64 m.bk, .slice m.ea m.el m.ec, .slice m.da m.dl m.dc, .slice m.ma m.ml m.mc])) rfl rfl (by kernel_rfl) (by kernel_rfl) (by kernel_rfl) (fun _ _ _ h => h) (Or.inl ⟨by rfl, fun w' hw' => by obtain ⟨x0, x1, x2, x3, x4, x5, x6, x7, x8, x9⟩ := celw10 (HB2.out.off hw' (fun h => h)); go_simp⟩) hS ?_
    simp only [Act.put, lsA, lsZ, lsS]
    refine take_at (i := 6) 41 (v := (.agg #[.int .i64 n.k, .int .i64 n.fr, .int .i64 n.tn, .int .i64 n.op, .int .i64 n.fo, .string n.key, .int .i64 n.bk, .slice n.ea n.el n.ec, .slice n.da n.dl n.dc, .slice n.ma n.ml n.mc])) rfl rfl (by kernel_rfl) (by kernel_rfl) (by kernel_rfl) (fun _ _ _ h => h) (Or.inl ⟨by rfl, fun w' hw' => by obtain ⟨x0, x1, x2, x3, x4, x5, x6, x7, x8, x9⟩ := celw10 (HB3.out.off hw' (fun h => h)); go_simp⟩) hS ?_
    simp only [Act.put, lsA, lsZ, lsS]
    refine wpAnyH_ready (rs := [7]) (by kernel_rfl) (by simp) ?_
    refine AllReadyH.cons rfl (fun K' hK' => ?_) AllReadyH.nil
    go_simp
    refine (HS1.out _ hS).mono ?_
    rintro e v ⟨rfl, o⟩
    refine hK'.out _ _ (hS.trans o (fun _ _ h => h)) (fun hS => ?_)
    clear hK' K' o
    refine take_at (i := 8) 43 (v := .bool true) rfl rfl (by kernel_rfl) (by kernel_rfl) (by kernel_rfl) (fun _ _ _ h => h) (Or.inl ⟨by rfl, fun w' hw' => by go_simp⟩) hS ?_
    simp only [Act.put, lsA, lsZ, lsS]
    refine take_at (i := 9) 44 (v := .bool true) rfl rfl (by kernel_rfl) (by kernel_rfl) (by kernel_rfl) (fun _ _ _ h => h) (Or.inl ⟨by rfl, fun w' hw' => by go_simp⟩) hS ?_
    simp only [Act.put, lsA, lsZ, lsS]
    refine take_at (i := 10) 45 (v := (.agg #[.int .i64 m.k, .int .i64 m.fr, .int .i64 m.tn, .int .i64 m.op, .int .i64 m.fo, .string m.key, .int .i64 m.bk, .slice m.ea m.el m.ec, .slice m.da m.dl m.dc, .slice m.ma m.ml m.mc])) rfl rfl (by kernel_rfl) (by kernel_rfl) (by kernel_rfl) (fun _ _ _ h => h) (Or.inl ⟨by rfl, fun w' hw' => by obtain ⟨x0, x1, x2, x3, x4, x5, x6, x7, x8, x9⟩ := celw10 (HB2.out.off hw' (fun h => h)); go_simp⟩) hS ?_
    simp only [Act.put, lsA, lsZ, lsS]
    refine take_at (i := 11) 46 (v := (.agg #[.int .i64 n.k, .int .i64 n.fr, .int .i64 n.tn, .int .i64 n.op, .int .i64 n.fo, .string n.key, .int .i64 n.bk, .slice n.ea n.el n.ec, .slice n.da n.dl n.dc, .slice n.ma n.ml n.mc])) rfl rfl (by kernel_rfl) (by kernel_rfl) (by kernel_rfl) (fun _ _ _ h => h) (Or.inl ⟨by rfl, fun w' hw' => by obtain ⟨x0, x1, x2, x3, x4, x5, x6, x7, x8, x9⟩ := celw10 (HB3.out.off hw' (fun h => h)); go_simp⟩) hS ?_
    simp only [Act.put, lsA, lsZ, lsS]
    refine take_at (i := 13) 48 (v := (.agg #[.int .i64 n.k, .int .i64 n.fr, .int .i64 n.tn, .int .i64 n.op, .int .i64 n.fo, .string n.key, .int .i64 n.bk, .slice n.ea n.el n.ec, .slice n.da n.dl n.dc, .slice n.ma n.ml n.mc])) rfl rfl (by kernel_rfl) (by kernel_rfl) (by kernel_rfl) (fun _ _ _ h => h) (Or.inl ⟨by rfl, fun w' hw' => by obtain ⟨x0, x1, x2, x3, x4, x5, x6, x7, x8, x9⟩ := celw10 (HB3.out.off hw' (fun h => h)); go_simp⟩) hS ?_
    simp only [Act.put, lsA, lsZ, lsS]
    refine take_at (i := 14) 49 (v := (.agg #[.int .i64 m.k, .int .i64 m.fr, .int .i64 m.tn, .int .i64 m.op, .int .i64 m.fo, .string m.key, .int .i64 m.bk, .slice m.ea m.el m.ec, .slice m.da m.dl m.dc, .slice m.ma m.ml m.mc])) rfl rfl (by kernel_rfl) (by kernel_rfl) (by kernel_rfl) (fun _ _ _ h => h) (Or.inl ⟨by rfl, fun w' hw' => by obtain ⟨x0, x1, x2, x3, x4, x5, x6, x7, x8, x9⟩ := celw10 (HB2.out.off hw' (fun h => h)); go_simp⟩) hS ?_
    simp only [Act.put, lsA, lsZ, lsS]
    refine wpAnyH_ready (rs := [12]) (by kernel_rfl) (by simp) ?_
    refine AllReadyH.cons rfl (fun K' hK' => ?_) AllReadyH.nil
    go_simp
    refine (HS1.out _ hS).mono ?_
    rintro e v ⟨rfl, o⟩
    refine hK'.out _ _ (hS.trans o (fun _ _ h => h)) (fun hS => ?_)
    clear hK' K' o
    refine wpAnyH_ready (rs := [15]) (by kernel_rfl) (by simp) ?_
    refine AllReadyH.cons rfl (fun K' hK' => ?_) AllReadyH.nil
    go_simp
    refine (HS2.out _ hS).mono ?_
    rintro e v ⟨rfl, o⟩
    refine hK'.out _ _ (hS.trans o (fun _ _ h => h)) (fun hS => ?_)
    clear hK' K' o
    refine take_at (i := 16) 51 (v := .bool true) rfl rfl (by kernel_rfl) (by kernel_rfl) (by kernel_rfl) (fun _ _ _ h => h) (Or.inl ⟨by rfl, fun w' hw' => by go_simp⟩) hS ?_
    simp only [Act.put, lsA, lsZ, lsS]
    refine take_at (i := 17) 52 (v := .bool true) rfl rfl (by kernel_rfl) (by kernel_rfl) (by kernel_rfl) (fun _ _ _ h => h) (Or.inl ⟨by rfl, fun w' hw' => by go_simp⟩) hS ?_
    simp only [Act.put, lsA, lsZ, lsS]
    refine take_at (i := 18) 53 (v := .bool true) rfl rfl (by kernel_rfl) (by kernel_rfl) (by kernel_rfl) (fun _ _ _ h => h) (Or.inl ⟨by rfl, fun w' hw' => by go_simp⟩) hS ?_
    simp only [Act.put, lsA, lsZ, lsS]
    refine wpAnyH_ready (rs := [19]) (by kernel_rfl) (by simp) ?_
    refine AllReadyH.cons rfl (fun K' hK' => ?_) AllReadyH.nil
    go_simp
    refine (awake_any _).mono ?_
    rintro e v ⟨rfl, o⟩
    refine hK'.out _ _ (hS.trans o (fun _ _ h => h)) (fun hS => ?_)
    clear hK' K' o
    refine take_at (i := 20) 55 (v := .bool true) rfl rfl (by kernel_rfl) (by kernel_rfl) (by kernel_rfl) (fun _ _ _ h => h) (Or.inl ⟨by rfl, fun w' hw' => by go_simp⟩) hS ?_
    simp only [Act.put, lsA, lsZ, lsS]
    refine take_at (i := 21) 4 (v := .bool true) rfl rfl (by kernel_rfl) (by kernel_rfl) (by kernel_rfl) (fun _ _ _ h => h) (Or.inl ⟨by rfl, fun w' hw' => by go_simp⟩) hS ?_
    simp only [Act.put, lsA, lsZ, lsS]
    refine wpAnyH_done (by kernel_rfl) ?_ _
    have HSF : Hid _ := hS
    clear hS
    go_wp2_with fail
    go_ret
    exact ⟨rfl, HO4.out.trans HSF.out (fun _ _ h => h)⟩
   ·have HNM : Hid (¬ nfM m es gs ms = nfM n e2 g2 m2) := fun e => hE (HAP.out.2 e)
    have HW2 : Hid _ := HW2'.out
    have HNE : Hid (¬ (strOf bs).toList = (strOf cs).toList) := fun h => hE ((strOf_eq HLT.out.1 HLT.out.2).1 (ByteArray.ext (Array.toList_inj.1 (by rw [← ByteArray.toList_eq, ← ByteArray.toList_eq]; exact h))))
    have HNF : Hid (((strOf bs).toList == (strOf cs).toList) = false) := by show _ = _; rw [beq_eq_false_iff_ne]; exact HNE.out
    have HS1 : Hid (∀ W, Off (fun _ => False) w4 W → Calls Try.prog 15 #[(.agg #[.int .i64 m.k, .int .i64 m.fr, .int .i64 m.tn, .int .i64 m.op, .int .i64 m.fo, .string m.key, .int .i64 m.bk, .slice m.ea m.el m.ec, .slice m.da m.dl m.dc, .slice m.ma m.ml m.mc]), (.agg #[.int .i64 n.k, .int .i64 n.fr, .int .i64 n.tn, .int .i64 n.op, .int .i64 n.fo, .string n.key, .int .i64 n.bk, .slice n.ea n.el n.ec, .slice n.da n.dl n.dc, .slice n.ma n.ml n.mc])] W fun e w' => e = .returned (.bool false) ∧ Off (fun _ => False) W w') := fun W o => (xsame_any m n es e2 gs g2 ms m2 W (HX.out.off (HO4.out.trans o (fun _ _ h => h))) (HY.out.off (HO4.out.trans o (fun _ _ h => h)))).mono (fun e w' ⟨⟨b, he, hb⟩, o⟩ => ⟨by rw [he, no_of hb HNM.out], o⟩)
    have HS2 : Hid (∀ W, Off (fun _ => False) w4 W → Calls Try.prog 15 #[(.agg #[.int .i64 n.k, .int .i64 n.fr, .int .i64 n.tn, .int .i64 n.op, .int .i64 n.fo, .string n.key, .int .i64 n.bk, .slice n.ea n.el n.ec, .slice n.da n.dl n.dc, .slice n.ma n.ml n.mc]), (.agg #[.int .i64 m.k, .int .i64 m.fr, .int .i64 m.tn, .int .i64 m.op, .int .i64 m.fo, .string m.key, .int .i64 m.bk, .slice m.ea m.el m.ec, .slice m.da m.dl m.dc, .slice m.ma m.ml m.mc])] W fun e w' => e = .returned (.bool false) ∧ Off (fun _ => False) W w') := fun W o => (xsame_any n m e2 es g2 gs m2 ms W (HY.out.off (HO4.out.trans o (fun _ _ h => h))) (HX.out.off (HO4.out.trans o (fun _ _ h => h)))).mono (fun e w' ⟨⟨b, he, hb⟩, o⟩ => ⟨by rw [he, no_of hb (fun e => HNM.out e.symm)], o⟩)
    clear HAP HLT HW2' hE
    refine wp_region_held_drew (S := Off (fun _ => False) w4) (by kernel_rfl) ((Off.refl _ w4).drew) (fun hS => ?_)
    refine take_at (i := 0) 35 (v := .slice t1 bs.length c1) rfl rfl (by kernel_rfl) (by kernel_rfl) (by kernel_rfl) (fun _ _ _ h => h) (Or.inl ⟨by rfl, fun w' hw' => by go_simp⟩) hS ?_
    simp only [Act.put, lsA, lsZ, lsS]
    refine take_at (i := 1) 36 (v := .string (strOf bs)) rfl rfl (by kernel_rfl) (by kernel_rfl) (by kernel_rfl) (fun _ _ _ h => h) (Or.inl ⟨by rfl, fun w' hw' => by have x := conv_src (HW1.out.off hw' (fun _ _ _ h => h)).src; go_simp⟩) hS ?_
    simp only [Act.put, lsA, lsZ, lsS]
    refine take_at (i := 2) 37 (v := .slice t2 cs.length c2) rfl rfl (by kernel_rfl) (by kernel_rfl) (by kernel_rfl) (fun _ _ _ h => h) (Or.inl ⟨by rfl, fun w' hw' => by go_simp⟩) hS ?_
    simp only [Act.put, lsA, lsZ, lsS]
    refine take_at (i := 3) 38 (v := .string (strOf cs)) rfl rfl (by kernel_rfl) (by kernel_rfl) (by kernel_rfl) (fun _ _ _ h => h) (Or.inl ⟨by rfl, fun w' hw' => by have x := conv_src (HW2.out.off hw' (fun _ _ _ h => h)).src; go_simp⟩) hS ?_
    simp only [Act.put, lsA, lsZ, lsS]
    refine take_at (i := 4) 39 (v := .bool false) rfl rfl (by kernel_rfl) (by kernel_rfl) (by kernel_rfl) (fun _ _ _ h => h) (Or.inl ⟨by rfl, fun w' hw' => by have hda := HNE.out; have hdb := HNF.out; go_simp⟩) hS ?_
    simp only [Act.put, lsA, lsZ, lsS]
    refine take_at (i := 5) 40 (v := (.agg #[.int .i64 m.k, .int .i64 m.fr, .int .i64 m.tn, .int .i64 m.op, .int .i64 m.fo, .string m.key, .int .i64 m.bk, .slice m.ea m.el m.ec, .slice m.da m.dl m.dc, .slice m.ma m.ml m.mc])) rfl rfl (by kernel_rfl) (by kernel_rfl) (by kernel_rfl) (fun _ _ _ h => h) (Or.inl ⟨by rfl, fun w' hw' => by obtain ⟨x0, x1, x2, x3, x4, x5, x6, x7, x8, x9⟩ := celw10 (HB2.out.off hw' (fun h => h)); go_simp⟩) hS ?_
    simp only [Act.put, lsA, lsZ, lsS]
    refine take_at (i := 6) 41 (v := (.agg #[.int .i64 n.k, .int .i64 n.fr, .int .i64 n.tn, .int .i64 n.op, .int .i64 n.fo, .string n.key, .int .i64 n.bk, .slice n.ea n.el n.ec, .slice n.da n.dl n.dc, .slice n.ma n.ml n.mc])) rfl rfl (by kernel_rfl) (by kernel_rfl) (by kernel_rfl) (fun _ _ _ h => h) (Or.inl ⟨by rfl, fun w' hw' => by obtain ⟨x0, x1, x2, x3, x4, x5, x6, x7, x8, x9⟩ := celw10 (HB3.out.off hw' (fun h => h)); go_simp⟩) hS ?_
    simp only [Act.put, lsA, lsZ, lsS]
    refine wpAnyH_ready (rs := [7]) (by kernel_rfl) (by simp) ?_
    refine AllReadyH.cons rfl (fun K' hK' => ?_) AllReadyH.nil
    go_simp
    refine (HS1.out _ hS).mono ?_
    rintro e v ⟨rfl, o⟩
    refine hK'.out _ _ (hS.trans o (fun _ _ h => h)) (fun hS => ?_)
    clear hK' K' o
    refine take_at (i := 8) 43 (v := .bool true) rfl rfl (by kernel_rfl) (by kernel_rfl) (by kernel_rfl) (fun _ _ _ h => h) (Or.inl ⟨by rfl, fun w' hw' => by go_simp⟩) hS ?_
    simp only [Act.put, lsA, lsZ, lsS]
    refine take_at (i := 9) 44 (v := .bool true) rfl rfl (by kernel_rfl) (by kernel_rfl) (by kernel_rfl) (fun _ _ _ h => h) (Or.inl ⟨by rfl, fun w' hw' => by go_simp⟩) hS ?_
    simp only [Act.put, lsA, lsZ, lsS]
    refine take_at (i := 10) 45 (v := (.agg #[.int .i64 m.k, .int .i64 m.fr, .int .i64 m.tn, .int .i64 m.op, .int .i64 m.fo, .string m.key, .int .i64 m.bk, .slice m.ea m.el m.ec, .slice m.da m.dl m.dc, .slice m.ma m.ml m.mc])) rfl rfl (by kernel_rfl) (by kernel_rfl) (by kernel_rfl) (fun _ _ _ h => h) (Or.inl ⟨by rfl, fun w' hw' => by obtain ⟨x0, x1, x2, x3, x4, x5, x6, x7, x8, x9⟩ := celw10 (HB2.out.off hw' (fun h => h)); go_simp⟩) hS ?_
    simp only [Act.put, lsA, lsZ, lsS]
    refine take_at (i := 11) 46 (v := (.agg #[.int .i64 n.k, .int .i64 n.fr, .int .i64 n.tn, .int .i64 n.op, .int .i64 n.fo, .string n.key, .int .i64 n.bk, .slice n.ea n.el n.ec, .slice n.da n.dl n.dc, .slice n.ma n.ml n.mc])) rfl rfl (by kernel_rfl) (by kernel_rfl) (by kernel_rfl) (fun _ _ _ h => h) (Or.inl ⟨by rfl, fun w' hw' => by obtain ⟨x0, x1, x2, x3, x4, x5, x6, x7, x8, x9⟩ := celw10 (HB3.out.off hw' (fun h => h)); go_simp⟩) hS ?_
    simp only [Act.put, lsA, lsZ, lsS]
    refine take_at (i := 13) 48 (v := (.agg #[.int .i64 n.k, .int .i64 n.fr, .int .i64 n.tn, .int .i64 n.op, .int .i64 n.fo, .string n.key, .int .i64 n.bk, .slice n.ea n.el n.ec, .slice n.da n.dl n.dc, .slice n.ma n.ml n.mc])) rfl rfl (by kernel_rfl) (by kernel_rfl) (by kernel_rfl) (fun _ _ _ h => h) (Or.inl ⟨by rfl, fun w' hw' => by obtain ⟨x0, x1, x2, x3, x4, x5, x6, x7, x8, x9⟩ := celw10 (HB3.out.off hw' (fun h => h)); go_simp⟩) hS ?_
    simp only [Act.put, lsA, lsZ, lsS]
    refine take_at (i := 14) 49 (v := (.agg #[.int .i64 m.k, .int .i64 m.fr, .int .i64 m.tn, .int .i64 m.op, .int .i64 m.fo, .string m.key, .int .i64 m.bk, .slice m.ea m.el m.ec, .slice m.da m.dl m.dc, .slice m.ma m.ml m.mc])) rfl rfl (by kernel_rfl) (by kernel_rfl) (by kernel_rfl) (fun _ _ _ h => h) (Or.inl ⟨by rfl, fun w' hw' => by obtain ⟨x0, x1, x2, x3, x4, x5, x6, x7, x8, x9⟩ := celw10 (HB2.out.off hw' (fun h => h)); go_simp⟩) hS ?_
    simp only [Act.put, lsA, lsZ, lsS]
    refine wpAnyH_ready (rs := [12]) (by kernel_rfl) (by simp) ?_
    refine AllReadyH.cons rfl (fun K' hK' => ?_) AllReadyH.nil
    go_simp
    refine (HS1.out _ hS).mono ?_
    rintro e v ⟨rfl, o⟩
    refine hK'.out _ _ (hS.trans o (fun _ _ h => h)) (fun hS => ?_)
    clear hK' K' o
    refine wpAnyH_ready (rs := [15]) (by kernel_rfl) (by simp) ?_
    refine AllReadyH.cons rfl (fun K' hK' => ?_) AllReadyH.nil
    go_simp
    refine (HS2.out _ hS).mono ?_
    rintro e v ⟨rfl, o⟩
    refine hK'.out _ _ (hS.trans o (fun _ _ h => h)) (fun hS => ?_)
    clear hK' K' o
    refine take_at (i := 16) 51 (v := .bool true) rfl rfl (by kernel_rfl) (by kernel_rfl) (by kernel_rfl) (fun _ _ _ h => h) (Or.inl ⟨by rfl, fun w' hw' => by go_simp⟩) hS ?_
    simp only [Act.put, lsA, lsZ, lsS]
    refine take_at (i := 17) 52 (v := .bool true) rfl rfl (by kernel_rfl) (by kernel_rfl) (by kernel_rfl) (fun _ _ _ h => h) (Or.inl ⟨by rfl, fun w' hw' => by go_simp⟩) hS ?_
    simp only [Act.put, lsA, lsZ, lsS]
    refine take_at (i := 18) 53 (v := .bool true) rfl rfl (by kernel_rfl) (by kernel_rfl) (by kernel_rfl) (fun _ _ _ h => h) (Or.inl ⟨by rfl, fun w' hw' => by go_simp⟩) hS ?_
    simp only [Act.put, lsA, lsZ, lsS]
    refine wpAnyH_ready (rs := [19]) (by kernel_rfl) (by simp) ?_
    refine AllReadyH.cons rfl (fun K' hK' => ?_) AllReadyH.nil
    go_simp
    refine (awake_any _).mono ?_
    rintro e v ⟨rfl, o⟩
    refine hK'.out _ _ (hS.trans o (fun _ _ h => h)) (fun hS => ?_)
    clear hK' K' o
    refine take_at (i := 20) 55 (v := .bool true) rfl rfl (by kernel_rfl) (by kernel_rfl) (by kernel_rfl) (fun _ _ _ h => h) (Or.inl ⟨by rfl, fun w' hw' => by go_simp⟩) hS ?_
    simp only [Act.put, lsA, lsZ, lsS]
    refine take_at (i := 21) 4 (v := .bool true) rfl rfl (by kernel_rfl) (by kernel_rfl) (by kernel_rfl) (fun _ _ _ h => h) (Or.inl ⟨by rfl, fun w' hw' => by go_simp⟩) hS ?_
    simp only [Act.put, lsA, lsZ, lsS]
    refine wpAnyH_done (by kernel_rfl) ?_ _
    have HSF : Hid _ := hS
    clear hS
    go_wp2_with fail
    go_ret
    exact ⟨rfl, HO4.out.trans HSF.out (fun _ _ h => h)⟩
end Go.Proofs.Ytmbphlkohlggfaa
