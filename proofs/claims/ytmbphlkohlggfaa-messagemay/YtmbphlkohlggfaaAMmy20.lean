/- Items of several texts. -/
import Derived.Test.YtmbphlkohlggfaaAZm20
import Derived.Test.YtmbphlkohlggfaaAXs20
import Derived.Test.YtmbphlkohlggfaaACp20
import Derived.Test.YtmbphlkohlggfaaALg20
import Derived.Test.YtmbphlkohlggfaaAEn20
namespace Go.Proofs.Ytmbphlkohlggfaa
set_option maxRecDepth 100000
open Go.RowKit
theorem plain_nf (s : Msk) (m P : Mg) (es ks : List E) (gs hs : List G) (ms m1 : List (Int × Int)) (hm : msk m.k = s) (hk : P.k = m.k) (hf : P.fr = m.fr) (ht : P.tn = m.tn) (ho : P.op = cond s.op m.op 0) (hfo : P.fo = cond s.fo m.fo 0) (hy : P.key = cond s.key m.key ⟨#[]⟩) (hb : P.bk = cond s.bk m.bk 0)
  (he : ks.map E.abs = (cond s.es es []).map E.abs) (hg : hs.map G.abs = (cond s.gs gs []).map G.abs) (h1 : m1 = cond s.ms ms []) : nfM P ks hs m1 = nfM m es gs ms := by
 have hp : msk P.k = s := by rw [hk]; exact hm
 unfold nfM
 rw [hp, hm, nfP_iff]
 obtain ⟨o, f, y, b, e, g, n⟩ := s
 simp only at *
 refine ⟨hk, hf, ht, ?_, ?_, ?_, ?_, ?_, ?_, ?_⟩
 ·show cond o P.op 0 = cond o m.op 0
  rw [ho]
  cases o <;> rfl
 ·show cond f P.fo 0 = cond f m.fo 0
  rw [hfo]
  cases f <;> rfl
 ·show cond y P.key _ = cond y m.key _
  rw [hy]
  cases y <;> rfl
 ·show cond b P.bk 0 = cond b m.bk 0
  rw [hb]
  cases b <;> rfl
 ·cases e
  ·rfl
  ·have : (ks.map E.abs).map nK = (es.map E.abs).map nK := congrArg (List.map nK) he
   rw [List.map_map, List.map_map] at this
   exact this
 ·cases g
  ·rfl
  ·have : (hs.map G.abs).map nGK = (gs.map G.abs).map nGK := congrArg (List.map nGK) hg
   rw [List.map_map, List.map_map] at this
   exact this
 ·rw [h1]
  cases n <;> rfl
theorem cond_len {α : Type} {b : Bool} {l : List α} {n : Nat} (h : l.length ≤ n) : (cond b l []).length ≤ n := by cases b <;> simp [h]
theorem cond_all {α : Type} {b : Bool} {l : List α} {p : α → Prop} (h : ∀ x ∈ l, p x) : ∀ x ∈ cond b l [], p x := by
 cases b
 ·intro x hx
  cases hx
 ·exact h
theorem light_len {es : List E} {gs : List G} {ms : List (Int × Int)} (s : Msk) (h : Light es gs ms) : (cond s.es es []).length ≤ 1000 ∧ (∀ x ∈ cond s.es es [], x.l.length ≤ 1000) ∧ (cond s.gs gs []).length ≤ 1000 ∧ (∀ x ∈ cond s.gs gs [], x.ds.length ≤ 1000) ∧ (cond s.ms ms []).length ≤ 1000 :=
 ⟨cond_len (by have := h.e; omega), cond_all (fun x hx => by have := h.ev x hx; omega), cond_len (by have := h.g; omega), cond_all (fun x hx => by have := h.gv x hx; omega), cond_len (by have := h.m; omega)⟩
theorem map_length_eq {α β : Type} {f : α → β} {l k : List α} (h : l.map f = k.map f) : l.length = k.length := by
 have := congrArg List.length h
 simpa using this
set_option maxHeartbeats 8000000 in
theorem may_core (m n : Mg) (w V : World) (LI LJ : Prop) (hV : V = (w.alloc (.cells #[.int .i64 m.k, .int .i64 m.fr, .int .i64 m.tn, .int .i64 m.op, .int .i64 m.fo, .string m.key, .int .i64 m.bk, .slice m.ea m.el m.ec, .slice m.da m.dl m.dc, .slice m.ma m.ml m.mc] 26)).alloc (.cells #[.int .i64 n.k, .int .i64 n.fr, .int .i64 n.tn, .int .i64 n.op, .int .i64 n.fo, .string n.key, .int .i64 n.bk, .slice n.ea n.el n.ec, .slice n.da n.dl n.dc, .slice n.ma n.ml n.mc] 26)) (HL2 : Hid (∀ W, Off (fun _ => False) V W → Calls Try.prog 8 #[(.agg #[.int .i64 m.k, .int .i64 m.fr, .int .i64 m.tn, .int .i64 m.op, .int .i64 m.fo, .string m.key, .int .i64 m.bk, .slice m.ea m.el m.ec, .slice m.da m.dl m.dc, .slice m.ma m.ml m.mc])] W fun e w' => Yes LI e ∧ Off (fun _ => False) W w')) (HL3 : Hid (∀ W, Off (fun _ => False) V W → Calls Try.prog 8 #[(.agg #[.int .i64 n.k, .int .i64 n.fr, .int .i64 n.tn, .int .i64 n.op, .int .i64 n.fo, .string n.key, .int .i64 n.bk, .slice n.ea n.el n.ec, .slice n.da n.dl n.dc, .slice n.ma n.ml n.mc])] W fun e w' => Yes LJ e ∧ Off (fun _ => False) W w'))
  (hall : LI → ∃ (P R : Prop) (k fr tn op fo : Int) (key : ByteArray) (bk : Int) (LE LG LM : Nat) (ea : Option Addr) (ec : Nat) (da : Option Addr) (dc : Nat) (ma : Option Addr) (mc : Nat), Hid (∀ W, Off (fun _ => False) V W → Calls Try.prog 12 #[(.agg #[.int .i64 m.k, .int .i64 m.fr, .int .i64 m.tn, .int .i64 m.op, .int .i64 m.fo, .string m.key, .int .i64 m.bk, .slice m.ea m.el m.ec, .slice m.da m.dl m.dc, .slice m.ma m.ml m.mc])] W fun e w' => Yes P e ∧ Off (fun _ => False) W w') ∧ Hid (∀ W, Off (fun _ => False) V W → Calls Try.prog 13 #[(.agg #[.int .i64 m.k, .int .i64 m.fr, .int .i64 m.tn, .int .i64 m.op, .int .i64 m.fo, .string m.key, .int .i64 m.bk, .slice m.ea m.el m.ec, .slice m.da m.dl m.dc, .slice m.ma m.ml m.mc])] W fun e w' => Yes P e ∧ Off (fun _ => False) W w') ∧ Hid (∀ W, Off (fun _ => False) V W → Calls Try.prog 10 #[(.agg #[.int .i64 m.k, .int .i64 m.fr, .int .i64 m.tn, .int .i64 m.op, .int .i64 m.fo, .string m.key, .int .i64 m.bk, .slice m.ea m.el m.ec, .slice m.da m.dl m.dc, .slice m.ma m.ml m.mc])] W fun e w' => ∃ (tE : Option Addr) (cE : Nat) (tD : Option Addr) (cD : Nat) (tM : Option Addr) (cM : Nat), e = .returned (.agg #[.int .i64 k, .int .i64 fr, .int .i64 tn, .int .i64 op, .int .i64 fo, .string key, .int .i64 bk, .slice tE LE cE, .slice tD LG cD, .slice tM LM cM]) ∧ (∀ U, Off (fun _ => False) w' U → Calls Try.prog 14 #[.agg #[.int .i64 k, .int .i64 fr, .int .i64 tn, .int .i64 op, .int .i64 fo, .string key, .int .i64 bk, .slice tE LE cE, .slice tD LG cD, .slice tM LM cM], (.agg #[.int .i64 m.k, .int .i64 m.fr, .int .i64 m.tn, .int .i64 m.op, .int .i64 m.fo, .string m.key, .int .i64 m.bk, .slice m.ea m.el m.ec, .slice m.da m.dl m.dc, .slice m.ma m.ml m.mc])] U fun e w' => e = .returned (.bool true) ∧ Off (fun _ => False) U w') ∧ Off (fun _ => False) W w') ∧ Hid (∀ W, Off (fun _ => False) V W → Calls Try.prog 11 #[(.agg #[.int .i64 m.k, .int .i64 m.fr, .int .i64 m.tn, .int .i64 m.op, .int .i64 m.fo, .string m.key, .int .i64 m.bk, .slice m.ea m.el m.ec, .slice m.da m.dl m.dc, .slice m.ma m.ml m.mc])] W fun e w' => e = .returned (.agg #[.int .i64 k, .int .i64 fr, .int .i64 tn, .int .i64 op, .int .i64 fo, .string key, .int .i64 bk, .slice ea LE ec, .slice da LG dc, .slice ma LM mc]) ∧ Off (fun _ => False) W w') ∧ Hid (∀ W, Off (fun _ => False) V W → Calls Try.prog 15 #[(.agg #[.int .i64 m.k, .int .i64 m.fr, .int .i64 m.tn, .int .i64 m.op, .int .i64 m.fo, .string m.key, .int .i64 m.bk, .slice m.ea m.el m.ec, .slice m.da m.dl m.dc, .slice m.ma m.ml m.mc]), (.agg #[.int .i64 n.k, .int .i64 n.fr, .int .i64 n.tn, .int .i64 n.op, .int .i64 n.fo, .string n.key, .int .i64 n.bk, .slice n.ea n.el n.ec, .slice n.da n.dl n.dc, .slice n.ma n.ml n.mc])] W fun e w' => Yes R e ∧ Off (fun _ => False) W w') ∧ Hid (∀ W, Off (fun _ => False) V W → Calls Try.prog 14 #[(.agg #[.int .i64 m.k, .int .i64 m.fr, .int .i64 m.tn, .int .i64 m.op, .int .i64 m.fo, .string m.key, .int .i64 m.bk, .slice m.ea m.el m.ec, .slice m.da m.dl m.dc, .slice m.ma m.ml m.mc]), (.agg #[.int .i64 n.k, .int .i64 n.fr, .int .i64 n.tn, .int .i64 n.op, .int .i64 n.fo, .string n.key, .int .i64 n.bk, .slice n.ea n.el n.ec, .slice n.da n.dl n.dc, .slice n.ma n.ml n.mc])] W fun e w' => Yes R e ∧ Off (fun _ => False) W w') ∧ Hid (∀ W, Off (fun _ => False) V W → Calls Try.prog 15 #[(.agg #[.int .i64 m.k, .int .i64 m.fr, .int .i64 m.tn, .int .i64 m.op, .int .i64 m.fo, .string m.key, .int .i64 m.bk, .slice m.ea m.el m.ec, .slice m.da m.dl m.dc, .slice m.ma m.ml m.mc]), .agg #[.int .i64 k, .int .i64 fr, .int .i64 tn, .int .i64 op, .int .i64 fo, .string key, .int .i64 bk, .slice ea LE ec, .slice da LG dc, .slice ma LM mc]] W fun e w' => e = .returned (.bool true) ∧ Off (fun _ => False) W w')) :
  Calls Try.prog 3 #[(.agg #[.int .i64 m.k, .int .i64 m.fr, .int .i64 m.tn, .int .i64 m.op, .int .i64 m.fo, .string m.key, .int .i64 m.bk, .slice m.ea m.el m.ec, .slice m.da m.dl m.dc, .slice m.ma m.ml m.mc]), (.agg #[.int .i64 n.k, .int .i64 n.fr, .int .i64 n.tn, .int .i64 n.op, .int .i64 n.fo, .string n.key, .int .i64 n.bk, .slice n.ea n.el n.ec, .slice n.da n.dl n.dc, .slice n.ma n.ml n.mc])] w fun e w' => e = .returned (.bool true) ∧ Off (fun _ => False) w w' := by
 have OB : Off (fun _ => False) w ((w.alloc (.cells #[.int .i64 m.k, .int .i64 m.fr, .int .i64 m.tn, .int .i64 m.op, .int .i64 m.fo, .string m.key, .int .i64 m.bk, .slice m.ea m.el m.ec, .slice m.da m.dl m.dc, .slice m.ma m.ml m.mc] 26)).alloc (.cells #[.int .i64 n.k, .int .i64 n.fr, .int .i64 n.tn, .int .i64 n.op, .int .i64 n.fo, .string n.key, .int .i64 n.bk, .slice n.ea n.el n.ec, .slice n.da n.dl n.dc, .slice n.ma n.ml n.mc] 26)) := ((Off.refl _ w).alloc _).alloc _
 have C2 : Cel w.heap.size 26 #[.int .i64 m.k, .int .i64 m.fr, .int .i64 m.tn, .int .i64 m.op, .int .i64 m.fo, .string m.key, .int .i64 m.bk, .slice m.ea m.el m.ec, .slice m.da m.dl m.dc, .slice m.ma m.ml m.mc] ((w.alloc (.cells #[.int .i64 m.k, .int .i64 m.fr, .int .i64 m.tn, .int .i64 m.op, .int .i64 m.fo, .string m.key, .int .i64 m.bk, .slice m.ea m.el m.ec, .slice m.da m.dl m.dc, .slice m.ma m.ml m.mc] 26)).alloc (.cells #[.int .i64 n.k, .int .i64 n.fr, .int .i64 n.tn, .int .i64 n.op, .int .i64 n.fo, .string n.key, .int .i64 n.bk, .slice n.ea n.el n.ec, .slice n.da n.dl n.dc, .slice n.ma n.ml n.mc] 26)) := (Cel.new w _ _).alloc _
 have C3 : Cel (w.heap.size + 1) 26 #[.int .i64 n.k, .int .i64 n.fr, .int .i64 n.tn, .int .i64 n.op, .int .i64 n.fo, .string n.key, .int .i64 n.bk, .slice n.ea n.el n.ec, .slice n.da n.dl n.dc, .slice n.ma n.ml n.mc] ((w.alloc (.cells #[.int .i64 m.k, .int .i64 m.fr, .int .i64 m.tn, .int .i64 m.op, .int .i64 m.fo, .string m.key, .int .i64 m.bk, .slice m.ea m.el m.ec, .slice m.da m.dl m.dc, .slice m.ma m.ml m.mc] 26)).alloc (.cells #[.int .i64 n.k, .int .i64 n.fr, .int .i64 n.tn, .int .i64 n.op, .int .i64 n.fo, .string n.key, .int .i64 n.bk, .slice n.ea n.el n.ec, .slice n.da n.dl n.dc, .slice n.ma n.ml n.mc] 26)) := Cel.new1 w _ _ _
 go_enter Try.func3, Try.ntmps3
 go_upto_region 1 with fail
 generalize hV9 : (w.alloc (.cells #[.int .i64 m.k, .int .i64 m.fr, .int .i64 m.tn, .int .i64 m.op, .int .i64 m.fo, .string m.key, .int .i64 m.bk, .slice m.ea m.el m.ec, .slice m.da m.dl m.dc, .slice m.ma m.ml m.mc] 26)).alloc (.cells #[.int .i64 n.k, .int .i64 n.fr, .int .i64 n.tn, .int .i64 n.op, .int .i64 n.fo, .string n.key, .int .i64 n.bk, .slice n.ea n.el n.ec, .slice n.da n.dl n.dc, .slice n.ma n.ml n.mc] 26) = V9 at OB C2 C3 ⊢
 obtain rfl : V = V9 := by rw [← hV9, hV]
 generalize w.heap.size + 1 = q3 at C3 ⊢
 generalize w.heap.size = q2 at C2 ⊢
 have HB2 : Hid _ := C2
 have HB3 : Hid _ := C3
 have HO : Hid _ := OB
 clear hV9 hV OB C2 C3
 obtain ⟨x0, x1, x2, x3, x4, x5, x6, x7, x8, x9⟩ := celw10 HB2.out
 go_wp2_with fail
 refine (HL2.out _ (Off.refl _ _)).mono ?_
 rintro e w1 ⟨⟨b, rfl, hb⟩, o1⟩
 clear x0 x1 x2 x3 x4 x5 x6 x7 x8 x9
 cases b with
 | false =>
  go_wp2_with fail
  refine (awake_any _).mono ?_
  rintro e w2 ⟨rfl, o2⟩
  go_wp2_with fail
  go_ret
  exact ⟨rfl, HO.out.trans (o1.trans o2 (fun _ _ h => h)) (fun _ _ h => h)⟩
 | true =>
  obtain ⟨y0, y1, y2, y3, y4, y5, y6, y7, y8, y9⟩ := celw10 (HB3.out.off o1 (fun h => h))
  go_wp2_with fail
  refine (HL3.out _ o1).mono ?_
  rintro e w2 ⟨⟨b, rfl, hb2⟩, o2⟩
  clear y0 y1 y2 y3 y4 y5 y6 y7 y8 y9
  have HO2 : Hid _ := o1.trans o2 (fun _ _ h => h)
  cases b with
  | false =>
   go_wp2_with fail
   refine (awake_any _).mono ?_
   rintro e w3 ⟨rfl, o3⟩
   go_wp2_with fail
   go_ret
   exact ⟨rfl, HO.out.trans (HO2.out.trans o3 (fun _ _ h => h)) (fun _ _ h => h)⟩
  | true =>
   have HLT : Hid LI := hb.1 (by simp)
   clear hb hb2 o1 o2
   obtain ⟨P, R, k, fr, tn, op, fo, key, bk, LE, LG, LM, ea, ec, da, dc, ma, mc, HM1, HM2, HPL, HZP, HS1, HS2, HS3⟩ := hall HLT.out
   go_upto_region 3 with fail
   go_cut [5, 6] from 16 to 19 (fun s5 s6 wx => ∃ (q5 q6 : Nat) (tE : Option Addr) (cE : Nat) (tD : Option Addr) (cD : Nat) (tM : Option Addr) (cM : Nat), s5 = .pointer (some ⟨q5, 0, none⟩) ∧ s6 = .pointer (some ⟨q6, 0, none⟩) ∧ Cel q5 26 #[.int .i64 k, .int .i64 fr, .int .i64 tn, .int .i64 op, .int .i64 fo, .string key, .int .i64 bk, .slice tE LE cE, .slice tD LG cD, .slice tM LM cM] wx ∧ Cel q6 26 #[.int .i64 k, .int .i64 fr, .int .i64 tn, .int .i64 op, .int .i64 fo, .string key, .int .i64 bk, .slice ea LE ec, .slice da LG dc, .slice ma LM mc] wx ∧ Off (fun _ => False) V wx)
   case first =>
    refine wp_region_held_drew (S := Off (fun _ => False) V) (by kernel_rfl) HO2.out.drew (fun hS => ?_)
    generalize w2.drew = W0 at hS ⊢
    refine take_at (i := 0) 16 (v := (.agg #[.int .i64 m.k, .int .i64 m.fr, .int .i64 m.tn, .int .i64 m.op, .int .i64 m.fo, .string m.key, .int .i64 m.bk, .slice m.ea m.el m.ec, .slice m.da m.dl m.dc, .slice m.ma m.ml m.mc])) rfl rfl (by kernel_rfl) (by kernel_rfl) (by kernel_rfl) (fun _ _ _ h => h) (Or.inl ⟨by rfl, fun w' hw' => by obtain ⟨x0, x1, x2, x3, x4, x5, x6, x7, x8, x9⟩ := celw10 (HB2.out.off hw' (fun h => h)); go_simp⟩) hS ?_
    simp only [Act.put, lsA, lsZ, lsS]
    refine take_at (i := 2) 18 (v := (.agg #[.int .i64 m.k, .int .i64 m.fr, .int .i64 m.tn, .int .i64 m.op, .int .i64 m.fo, .string m.key, .int .i64 m.bk, .slice m.ea m.el m.ec, .slice m.da m.dl m.dc, .slice m.ma m.ml m.mc])) rfl rfl (by kernel_rfl) (by kernel_rfl) (by kernel_rfl) (fun _ _ _ h => h) (Or.inl ⟨by rfl, fun w' hw' => by obtain ⟨x0, x1, x2, x3, x4, x5, x6, x7, x8, x9⟩ := celw10 (HB2.out.off hw' (fun h => h)); go_simp⟩) hS ?_
    simp only [Act.put, lsA, lsZ, lsS]
    refine wpAnyH_ready (rs := [1, 4, 5]) (by kernel_rfl) (by simp) ?_
    refine AllReadyH.cons rfl (fun K' hK' => ?_) (AllReadyH.cons rfl (fun K' hK' => ?_) (AllReadyH.cons rfl (fun K' hK' => ?_) AllReadyH.nil))
    ·go_simp
     refine (HPL.out _ hS).mono ?_
     rintro e v ⟨tE, cE, tD, cD, tM, cM, rfl, -, o⟩
     refine hK'.out _ _ (hS.trans o (fun _ _ h => h)) (fun hS => ?_)
     clear hK' K'
     clear o
     refine wpAnyH_ready (rs := [3, 4, 5]) (by kernel_rfl) (by simp) ?_
     refine AllReadyH.cons rfl (fun K' hK' => ?_) (AllReadyH.cons rfl (fun K' hK' => ?_) (AllReadyH.cons rfl (fun K' hK' => ?_) AllReadyH.nil))
     ·go_simp
      refine (HZP.out _ hS).mono ?_
      rintro e v ⟨rfl, o⟩
      refine hK'.out _ _ (hS.trans o (fun _ _ h => h)) (fun hS => ?_)
      clear hK' K'
      clear o
      refine wpAnyH_ready (rs := [4, 5]) (by kernel_rfl) (by simp) ?_
      refine AllReadyH.cons rfl (fun K' hK' => ?_) (AllReadyH.cons rfl (fun K' hK' => ?_) AllReadyH.nil)
      ·go_simp
       have hS1 := hS.size
       refine hK'.out _ _ (hS.alloc _) (fun hS => ?_)
       clear hK' K'
       have Dq5 := Cel.new v 26 #[.int .i64 0, .int .i64 0, .int .i64 0, .int .i64 0, .int .i64 0, .string ⟨#[]⟩, .int .i64 0, .slice none 0 0, .slice none 0 0, .slice none 0 0]
       have ON := (Off.refl (fun _ => False) v).alloc (.cells #[.int .i64 0, .int .i64 0, .int .i64 0, .int .i64 0, .int .i64 0, .string ⟨#[]⟩, .int .i64 0, .slice none 0 0, .slice none 0 0, .slice none 0 0] 26)
       obtain ⟨q5, hq5⟩ : ∃ q, q = v.heap.size := ⟨_, rfl⟩
       rw [← hq5] at Dq5 ⊢
       have Hq5 : Hid (V.heap.size ≤ q5) := by show _ ≤ _; omega
       generalize hv9 : v.alloc (.cells #[.int .i64 0, .int .i64 0, .int .i64 0, .int .i64 0, .int .i64 0, .string ⟨#[]⟩, .int .i64 0, .slice none 0 0, .slice none 0 0, .slice none 0 0] 26) = vq5 at Dq5 ON hS ⊢
       clear hv9 hq5 ON hS1
       refine wpAnyH_ready (rs := [5]) (by kernel_rfl) (by simp) ?_
       refine AllReadyH.cons rfl (fun K' hK' => ?_) AllReadyH.nil
       go_simp
       have hS1 := hS.size
       refine hK'.out _ _ (hS.alloc _) (fun hS => ?_)
       clear hK' K'
       have Dq6 := Cel.new vq5 26 #[.int .i64 0, .int .i64 0, .int .i64 0, .int .i64 0, .int .i64 0, .string ⟨#[]⟩, .int .i64 0, .slice none 0 0, .slice none 0 0, .slice none 0 0]
       have ON := (Off.refl (fun _ => False) vq5).alloc (.cells #[.int .i64 0, .int .i64 0, .int .i64 0, .int .i64 0, .int .i64 0, .string ⟨#[]⟩, .int .i64 0, .slice none 0 0, .slice none 0 0, .slice none 0 0] 26)
       obtain ⟨q6, hq6⟩ : ∃ q, q = vq5.heap.size := ⟨_, rfl⟩
       rw [← hq6] at Dq6 ⊢
       have Hq6 : Hid (V.heap.size ≤ q6) := by show _ ≤ _; omega
       generalize hv9 : vq5.alloc (.cells #[.int .i64 0, .int .i64 0, .int .i64 0, .int .i64 0, .int .i64 0, .string ⟨#[]⟩, .int .i64 0, .slice none 0 0, .slice none 0 0, .slice none 0 0] 26) = vq6 at Dq6 ON hS ⊢
       have HNE : Hid (q5 ≠ q6) := by have := Dq5.lt; show _ ≠ _; omega
       replace Dq5 := Dq5.off ON (fun h => h)
       clear hv9 hq6 ON hS1
       have HNE5 : Hid (q5 ≠ q6) := by first | exact HNE | exact fun e => HNE.out e.symm
       obtain ⟨x0, x1, x2, x3, x4, x5, x6, x7, x8, x9⟩ := celw10 Dq5
       have fz := Dq5.free
       refine wpAnyH_ready (rs := [6]) (by kernel_rfl) (by simp) ?_
       refine AllReadyH.cons rfl (fun K' hK' => ?_) AllReadyH.nil
       go_simp
       have hS5 := off_wrw (g := q5) (us := [.int .i64 k, .int .i64 fr, .int .i64 tn, .int .i64 op, .int .i64 fo, .string key, .int .i64 bk, .slice tE LE cE, .slice tD LG cD, .slice tM LM cM]) (o := 0) hS (.inr Hq5.out)
       refine hK'.out _ _ hS5 (fun hS => ?_)
       clear hK' K' hS5
       replace Dq6 := Dq6.off (off_wrw (D := fun c => c = q5) (g := q5) (us := [.int .i64 k, .int .i64 fr, .int .i64 tn, .int .i64 op, .int .i64 fo, .string key, .int .i64 bk, .slice tE LE cE, .slice tD LG cD, .slice tM LM cM]) (o := 0) (Off.refl _ _) (.inl rfl)) (fun e => HNE5.out e.symm)
       replace Dq5 := Dq5.wrwAll (vs := [.int .i64 k, .int .i64 fr, .int .i64 tn, .int .i64 op, .int .i64 fo, .string key, .int .i64 bk, .slice tE LE cE, .slice tD LG cD, .slice tM LM cM]) rfl
       clear fz x0 x1 x2 x3 x4 x5 x6 x7 x8 x9
       obtain ⟨va, hva⟩ : ∃ va, wrw q5 0 [.int .i64 k, .int .i64 fr, .int .i64 tn, .int .i64 op, .int .i64 fo, .string key, .int .i64 bk, .slice tE LE cE, .slice tD LG cD, .slice tM LM cM] vq6 = va := ⟨_, rfl⟩
       rw [hva] at Dq5 Dq6
       have hS9 : Off (fun _ => False) V va := by rw [← hva]; exact hS
       change wpAnyH _ _ _ _ _ _ _ _ (wrw q5 0 [.int .i64 k, .int .i64 fr, .int .i64 tn, .int .i64 op, .int .i64 fo, .string key, .int .i64 bk, .slice tE LE cE, .slice tD LG cD, .slice tM LM cM] vq6)
       rw [hva]
       clear hva hS
       have hS := hS9
       clear hS9
       obtain ⟨x0, x1, x2, x3, x4, x5, x6, x7, x8, x9⟩ := celw10 Dq6
       have fz := Dq6.free
       refine wpAnyH_ready (rs := [7]) (by kernel_rfl) (by simp) ?_
       refine AllReadyH.cons rfl (fun K' hK' => ?_) AllReadyH.nil
       go_simp
       have hS5 := off_wrw (g := q6) (us := [.int .i64 k, .int .i64 fr, .int .i64 tn, .int .i64 op, .int .i64 fo, .string key, .int .i64 bk, .slice ea LE ec, .slice da LG dc, .slice ma LM mc]) (o := 0) hS (.inr Hq6.out)
       refine hK'.out _ _ hS5 (fun hS => ?_)
       clear hK' K' hS5
       replace Dq5 := Dq5.off (off_wrw (D := fun c => c = q6) (g := q6) (us := [.int .i64 k, .int .i64 fr, .int .i64 tn, .int .i64 op, .int .i64 fo, .string key, .int .i64 bk, .slice ea LE ec, .slice da LG dc, .slice ma LM mc]) (o := 0) (Off.refl _ _) (.inl rfl)) (fun e => HNE5.out e)
       replace Dq6 := Dq6.wrwAll (vs := [.int .i64 k, .int .i64 fr, .int .i64 tn, .int .i64 op, .int .i64 fo, .string key, .int .i64 bk, .slice ea LE ec, .slice da LG dc, .slice ma LM mc]) rfl
       clear fz x0 x1 x2 x3 x4 x5 x6 x7 x8 x9
       refine wpAnyH_done (by kernel_rfl) ?_ _
       have HF5 : Hid _ := Dq5
       have HF6 : Hid _ := Dq6
       have HSF : Hid _ := hS
       clear hS Dq5 Dq6
       go_wp2_with fail
       go_meet
       case rel => exact ⟨q5, q6, tE, cE, tD, cD, tM, cM, rfl, rfl, HF5.out, HF6.out, HSF.out⟩
      ·go_simp
       have hS1 := hS.size
       refine hK'.out _ _ (hS.alloc _) (fun hS => ?_)
       clear hK' K'
       have Dq6 := Cel.new v 26 #[.int .i64 0, .int .i64 0, .int .i64 0, .int .i64 0, .int .i64 0, .string ⟨#[]⟩, .int .i64 0, .slice none 0 0, .slice none 0 0, .slice none 0 0]
       have ON := (Off.refl (fun _ => False) v).alloc (.cells #[.int .i64 0, .int .i64 0, .int .i64 0, .int .i64 0, .int .i64 0, .string ⟨#[]⟩, .int .i64 0, .slice none 0 0, .slice none 0 0, .slice none 0 0] 26)
       obtain ⟨q6, hq6⟩ : ∃ q, q = v.heap.size := ⟨_, rfl⟩
       rw [← hq6] at Dq6 ⊢
       have Hq6 : Hid (V.heap.size ≤ q6) := by show _ ≤ _; omega
       generalize hv9 : v.alloc (.cells #[.int .i64 0, .int .i64 0, .int .i64 0, .int .i64 0, .int .i64 0, .string ⟨#[]⟩, .int .i64 0, .slice none 0 0, .slice none 0 0, .slice none 0 0] 26) = vq6 at Dq6 ON hS ⊢
       clear hv9 hq6 ON hS1
       refine wpAnyH_ready (rs := [4]) (by kernel_rfl) (by simp) ?_
       refine AllReadyH.cons rfl (fun K' hK' => ?_) AllReadyH.nil
       go_simp
       have hS1 := hS.size
       refine hK'.out _ _ (hS.alloc _) (fun hS => ?_)
       clear hK' K'
       have Dq5 := Cel.new vq6 26 #[.int .i64 0, .int .i64 0, .int .i64 0, .int .i64 0, .int .i64 0, .string ⟨#[]⟩, .int .i64 0, .slice none 0 0, .slice none 0 0, .slice none 0 0]
       have ON := (Off.refl (fun _ => False) vq6).alloc (.cells #[.int .i64 0, .int .i64 0, .int .i64 0, .int .i64 0, .int .i64 0, .string ⟨#[]⟩, .int .i64 0, .slice none 0 0, .slice none 0 0, .slice none 0 0] 26)
       obtain ⟨q5, hq5⟩ : ∃ q, q = vq6.heap.size := ⟨_, rfl⟩
       rw [← hq5] at Dq5 ⊢
       have Hq5 : Hid (V.heap.size ≤ q5) := by show _ ≤ _; omega
       generalize hv9 : vq6.alloc (.cells #[.int .i64 0, .int .i64 0, .int .i64 0, .int .i64 0, .int .i64 0, .string ⟨#[]⟩, .int .i64 0, .slice none 0 0, .slice none 0 0, .slice none 0 0] 26) = vq5 at Dq5 ON hS ⊢
       have HNE : Hid (q6 ≠ q5) := by have := Dq6.lt; show _ ≠ _; omega
       replace Dq6 := Dq6.off ON (fun h => h)
       clear hv9 hq5 ON hS1
       have HNE5 : Hid (q5 ≠ q6) := by first | exact HNE | exact fun e => HNE.out e.symm
       obtain ⟨x0, x1, x2, x3, x4, x5, x6, x7, x8, x9⟩ := celw10 Dq5
       have fz := Dq5.free
       refine wpAnyH_ready (rs := [6]) (by kernel_rfl) (by simp) ?_
       refine AllReadyH.cons rfl (fun K' hK' => ?_) AllReadyH.nil
       go_simp
       have hS5 := off_wrw (g := q5) (us := [.int .i64 k, .int .i64 fr, .int .i64 tn, .int .i64 op, .int .i64 fo, .string key, .int .i64 bk, .slice tE LE cE, .slice tD LG cD, .slice tM LM cM]) (o := 0) hS (.inr Hq5.out)
       refine hK'.out _ _ hS5 (fun hS => ?_)
       clear hK' K' hS5
       replace Dq6 := Dq6.off (off_wrw (D := fun c => c = q5) (g := q5) (us := [.int .i64 k, .int .i64 fr, .int .i64 tn, .int .i64 op, .int .i64 fo, .string key, .int .i64 bk, .slice tE LE cE, .slice tD LG cD, .slice tM LM cM]) (o := 0) (Off.refl _ _) (.inl rfl)) (fun e => HNE5.out e.symm)
       replace Dq5 := Dq5.wrwAll (vs := [.int .i64 k, .int .i64 fr, .int .i64 tn, .int .i64 op, .int .i64 fo, .string key, .int .i64 bk, .slice tE LE cE, .slice tD LG cD, .slice tM LM cM]) rfl
       clear fz x0 x1 x2 x3 x4 x5 x6 x7 x8 x9
       obtain ⟨va, hva⟩ : ∃ va, wrw q5 0 [.int .i64 k, .int .i64 fr, .int .i64 tn, .int .i64 op, .int .i64 fo, .string key, .int .i64 bk, .slice tE LE cE, .slice tD LG cD, .slice tM LM cM] vq5 = va := ⟨_, rfl⟩
       rw [hva] at Dq5 Dq6
       have hS9 : Off (fun _ => False) V va := by rw [← hva]; exact hS
       change wpAnyH _ _ _ _ _ _ _ _ (wrw q5 0 [.int .i64 k, .int .i64 fr, .int .i64 tn, .int .i64 op, .int .i64 fo, .string key, .int .i64 bk, .slice tE LE cE, .slice tD LG cD, .slice tM LM cM] vq5)
       rw [hva]
       clear hva hS
       have hS := hS9
       clear hS9
       obtain ⟨x0, x1, x2, x3, x4, x5, x6, x7, x8, x9⟩ := celw10 Dq6
       have fz := Dq6.free
       refine wpAnyH_ready (rs := [7]) (by kernel_rfl) (by simp) ?_
       refine AllReadyH.cons rfl (fun K' hK' => ?_) AllReadyH.nil
       go_simp
       have hS5 := off_wrw (g := q6) (us := [.int .i64 k, .int .i64 fr, .int .i64 tn, .int .i64 op, .int .i64 fo, .string key, .int .i64 bk, .slice ea LE ec, .slice da LG dc, .slice ma LM mc]) (o := 0) hS (.inr Hq6.out)
       refine hK'.out _ _ hS5 (fun hS => ?_)
       clear hK' K' hS5
       replace Dq5 := Dq5.off (off_wrw (D := fun c => c = q6) (g := q6) (us := [.int .i64 k, .int .i64 fr, .int .i64 tn, .int .i64 op, .int .i64 fo, .string key, .int .i64 bk, .slice ea LE ec, .slice da LG dc, .slice ma LM mc]) (o := 0) (Off.refl _ _) (.inl rfl)) (fun e => HNE5.out e)
       replace Dq6 := Dq6.wrwAll (vs := [.int .i64 k, .int .i64 fr, .int .i64 tn, .int .i64 op, .int .i64 fo, .string key, .int .i64 bk, .slice ea LE ec, .slice da LG dc, .slice ma LM mc]) rfl
       clear fz x0 x1 x2 x3 x4 x5 x6 x7 x8 x9
       refine wpAnyH_done (by kernel_rfl) ?_ _
       have HF5 : Hid _ := Dq5
       have HF6 : Hid _ := Dq6
       have HSF : Hid _ := hS
       clear hS Dq5 Dq6
       go_wp2_with fail
       go_meet
       case rel => exact ⟨q5, q6, tE, cE, tD, cD, tM, cM, rfl, rfl, HF5.out, HF6.out, HSF.out⟩
     ·go_simp
      have hS1 := hS.size
      refine hK'.out _ _ (hS.alloc _) (fun hS => ?_)
      clear hK' K'
      have Dq5 := Cel.new v 26 #[.int .i64 0, .int .i64 0, .int .i64 0, .int .i64 0, .int .i64 0, .string ⟨#[]⟩, .int .i64 0, .slice none 0 0, .slice none 0 0, .slice none 0 0]
      have ON := (Off.refl (fun _ => False) v).alloc (.cells #[.int .i64 0, .int .i64 0, .int .i64 0, .int .i64 0, .int .i64 0, .string ⟨#[]⟩, .int .i64 0, .slice none 0 0, .slice none 0 0, .slice none 0 0] 26)
      obtain ⟨q5, hq5⟩ : ∃ q, q = v.heap.size := ⟨_, rfl⟩
      rw [← hq5] at Dq5 ⊢
      have Hq5 : Hid (V.heap.size ≤ q5) := by show _ ≤ _; omega
      generalize hv9 : v.alloc (.cells #[.int .i64 0, .int .i64 0, .int .i64 0, .int .i64 0, .int .i64 0, .string ⟨#[]⟩, .int .i64 0, .slice none 0 0, .slice none 0 0, .slice none 0 0] 26) = vq5 at Dq5 ON hS ⊢
      clear hv9 hq5 ON hS1
      refine wpAnyH_ready (rs := [3, 5]) (by kernel_rfl) (by simp) ?_
      refine AllReadyH.cons rfl (fun K' hK' => ?_) (AllReadyH.cons rfl (fun K' hK' => ?_) AllReadyH.nil)
      ·go_simp
       refine (HZP.out _ hS).mono ?_
       rintro e v ⟨rfl, o⟩
       refine hK'.out _ _ (hS.trans o (fun _ _ h => h)) (fun hS => ?_)
       clear hK' K'
       replace Dq5 := Dq5.off o (fun h => h)
       clear o
       refine wpAnyH_ready (rs := [5]) (by kernel_rfl) (by simp) ?_
       refine AllReadyH.cons rfl (fun K' hK' => ?_) AllReadyH.nil
       go_simp
       have hS1 := hS.size
       refine hK'.out _ _ (hS.alloc _) (fun hS => ?_)
       clear hK' K'
       have Dq6 := Cel.new v 26 #[.int .i64 0, .int .i64 0, .int .i64 0, .int .i64 0, .int .i64 0, .string ⟨#[]⟩, .int .i64 0, .slice none 0 0, .slice none 0 0, .slice none 0 0]
       have ON := (Off.refl (fun _ => False) v).alloc (.cells #[.int .i64 0, .int .i64 0, .int .i64 0, .int .i64 0, .int .i64 0, .string ⟨#[]⟩, .int .i64 0, .slice none 0 0, .slice none 0 0, .slice none 0 0] 26)
       obtain ⟨q6, hq6⟩ : ∃ q, q = v.heap.size := ⟨_, rfl⟩
       rw [← hq6] at Dq6 ⊢
       have Hq6 : Hid (V.heap.size ≤ q6) := by show _ ≤ _; omega
       generalize hv9 : v.alloc (.cells #[.int .i64 0, .int .i64 0, .int .i64 0, .int .i64 0, .int .i64 0, .string ⟨#[]⟩, .int .i64 0, .slice none 0 0, .slice none 0 0, .slice none 0 0] 26) = vq6 at Dq6 ON hS ⊢
       have HNE : Hid (q5 ≠ q6) := by have := Dq5.lt; show _ ≠ _; omega
       replace Dq5 := Dq5.off ON (fun h => h)
       clear hv9 hq6 ON hS1
       have HNE5 : Hid (q5 ≠ q6) := by first | exact HNE | exact fun e => HNE.out e.symm
       obtain ⟨x0, x1, x2, x3, x4, x5, x6, x7, x8, x9⟩ := celw10 Dq5
       have fz := Dq5.free
       refine wpAnyH_ready (rs := [6]) (by kernel_rfl) (by simp) ?_
       refine AllReadyH.cons rfl (fun K' hK' => ?_) AllReadyH.nil
       go_simp
       have hS5 := off_wrw (g := q5) (us := [.int .i64 k, .int .i64 fr, .int .i64 tn, .int .i64 op, .int .i64 fo, .string key, .int .i64 bk, .slice tE LE cE, .slice tD LG cD, .slice tM LM cM]) (o := 0) hS (.inr Hq5.out)
       refine hK'.out _ _ hS5 (fun hS => ?_)
       clear hK' K' hS5
       replace Dq6 := Dq6.off (off_wrw (D := fun c => c = q5) (g := q5) (us := [.int .i64 k, .int .i64 fr, .int .i64 tn, .int .i64 op, .int .i64 fo, .string key, .int .i64 bk, .slice tE LE cE, .slice tD LG cD, .slice tM LM cM]) (o := 0) (Off.refl _ _) (.inl rfl)) (fun e => HNE5.out e.symm)
       replace Dq5 := Dq5.wrwAll (vs := [.int .i64 k, .int .i64 fr, .int .i64 tn, .int .i64 op, .int .i64 fo, .string key, .int .i64 bk, .slice tE LE cE, .slice tD LG cD, .slice tM LM cM]) rfl
       clear fz x0 x1 x2 x3 x4 x5 x6 x7 x8 x9
       obtain ⟨va, hva⟩ : ∃ va, wrw q5 0 [.int .i64 k, .int .i64 fr, .int .i64 tn, .int .i64 op, .int .i64 fo, .string key, .int .i64 bk, .slice tE LE cE, .slice tD LG cD, .slice tM LM cM] vq6 = va := ⟨_, rfl⟩
       rw [hva] at Dq5 Dq6
       have hS9 : Off (fun _ => False) V va := by rw [← hva]; exact hS
       change wpAnyH _ _ _ _ _ _ _ _ (wrw q5 0 [.int .i64 k, .int .i64 fr, .int .i64 tn, .int .i64 op, .int .i64 fo, .string key, .int .i64 bk, .slice tE LE cE, .slice tD LG cD, .slice tM LM cM] vq6)
       rw [hva]
       clear hva hS
       have hS := hS9
       clear hS9
       obtain ⟨x0, x1, x2, x3, x4, x5, x6, x7, x8, x9⟩ := celw10 Dq6
       have fz := Dq6.free
       refine wpAnyH_ready (rs := [7]) (by kernel_rfl) (by simp) ?_
       refine AllReadyH.cons rfl (fun K' hK' => ?_) AllReadyH.nil
       go_simp
       have hS5 := off_wrw (g := q6) (us := [.int .i64 k, .int .i64 fr, .int .i64 tn, .int .i64 op, .int .i64 fo, .string key, .int .i64 bk, .slice ea LE ec, .slice da LG dc, .slice ma LM mc]) (o := 0) hS (.inr Hq6.out)
       refine hK'.out _ _ hS5 (fun hS => ?_)
       clear hK' K' hS5
       replace Dq5 := Dq5.off (off_wrw (D := fun c => c = q6) (g := q6) (us := [.int .i64 k, .int .i64 fr, .int .i64 tn, .int .i64 op, .int .i64 fo, .string key, .int .i64 bk, .slice ea LE ec, .slice da LG dc, .slice ma LM mc]) (o := 0) (Off.refl _ _) (.inl rfl)) (fun e => HNE5.out e)
       replace Dq6 := Dq6.wrwAll (vs := [.int .i64 k, .int .i64 fr, .int .i64 tn, .int .i64 op, .int .i64 fo, .string key, .int .i64 bk, .slice ea LE ec, .slice da LG dc, .slice ma LM mc]) rfl
       clear fz x0 x1 x2 x3 x4 x5 x6 x7 x8 x9
       refine wpAnyH_done (by kernel_rfl) ?_ _
       have HF5 : Hid _ := Dq5
       have HF6 : Hid _ := Dq6
       have HSF : Hid _ := hS
       clear hS Dq5 Dq6
       go_wp2_with fail
       go_meet
       case rel => exact ⟨q5, q6, tE, cE, tD, cD, tM, cM, rfl, rfl, HF5.out, HF6.out, HSF.out⟩
      ·go_simp
       have hS1 := hS.size
       refine hK'.out _ _ (hS.alloc _) (fun hS => ?_)
       clear hK' K'
       have Dq6 := Cel.new vq5 26 #[.int .i64 0, .int .i64 0, .int .i64 0, .int .i64 0, .int .i64 0, .string ⟨#[]⟩, .int .i64 0, .slice none 0 0, .slice none 0 0, .slice none 0 0]
       have ON := (Off.refl (fun _ => False) vq5).alloc (.cells #[.int .i64 0, .int .i64 0, .int .i64 0, .int .i64 0, .int .i64 0, .string ⟨#[]⟩, .int .i64 0, .slice none 0 0, .slice none 0 0, .slice none 0 0] 26)
       obtain ⟨q6, hq6⟩ : ∃ q, q = vq5.heap.size := ⟨_, rfl⟩
       rw [← hq6] at Dq6 ⊢
       have Hq6 : Hid (V.heap.size ≤ q6) := by show _ ≤ _; omega
       generalize hv9 : vq5.alloc (.cells #[.int .i64 0, .int .i64 0, .int .i64 0, .int .i64 0, .int .i64 0, .string ⟨#[]⟩, .int .i64 0, .slice none 0 0, .slice none 0 0, .slice none 0 0] 26) = vq6 at Dq6 ON hS ⊢
       have HNE : Hid (q5 ≠ q6) := by have := Dq5.lt; show _ ≠ _; omega
       replace Dq5 := Dq5.off ON (fun h => h)
       clear hv9 hq6 ON hS1
       refine wpAnyH_ready (rs := [3]) (by kernel_rfl) (by simp) ?_
       refine AllReadyH.cons rfl (fun K' hK' => ?_) AllReadyH.nil
       go_simp
       refine (HZP.out _ hS).mono ?_
       rintro e v ⟨rfl, o⟩
       refine hK'.out _ _ (hS.trans o (fun _ _ h => h)) (fun hS => ?_)
       clear hK' K'
       replace Dq5 := Dq5.off o (fun h => h)
       replace Dq6 := Dq6.off o (fun h => h)
       clear o
       have HNE5 : Hid (q5 ≠ q6) := by first | exact HNE | exact fun e => HNE.out e.symm
       obtain ⟨x0, x1, x2, x3, x4, x5, x6, x7, x8, x9⟩ := celw10 Dq5
       have fz := Dq5.free
       refine wpAnyH_ready (rs := [6]) (by kernel_rfl) (by simp) ?_
       refine AllReadyH.cons rfl (fun K' hK' => ?_) AllReadyH.nil
       go_simp
       have hS5 := off_wrw (g := q5) (us := [.int .i64 k, .int .i64 fr, .int .i64 tn, .int .i64 op, .int .i64 fo, .string key, .int .i64 bk, .slice tE LE cE, .slice tD LG cD, .slice tM LM cM]) (o := 0) hS (.inr Hq5.out)
       refine hK'.out _ _ hS5 (fun hS => ?_)
       clear hK' K' hS5
       replace Dq6 := Dq6.off (off_wrw (D := fun c => c = q5) (g := q5) (us := [.int .i64 k, .int .i64 fr, .int .i64 tn, .int .i64 op, .int .i64 fo, .string key, .int .i64 bk, .slice tE LE cE, .slice tD LG cD, .slice tM LM cM]) (o := 0) (Off.refl _ _) (.inl rfl)) (fun e => HNE5.out e.symm)
       replace Dq5 := Dq5.wrwAll (vs := [.int .i64 k, .int .i64 fr, .int .i64 tn, .int .i64 op, .int .i64 fo, .string key, .int .i64 bk, .slice tE LE cE, .slice tD LG cD, .slice tM LM cM]) rfl
       clear fz x0 x1 x2 x3 x4 x5 x6 x7 x8 x9
       obtain ⟨va, hva⟩ : ∃ va, wrw q5 0 [.int .i64 k, .int .i64 fr, .int .i64 tn, .int .i64 op, .int .i64 fo, .string key, .int .i64 bk, .slice tE LE cE, .slice tD LG cD, .slice tM LM cM] v = va := ⟨_, rfl⟩
       rw [hva] at Dq5 Dq6
       have hS9 : Off (fun _ => False) V va := by rw [← hva]; exact hS
       change wpAnyH _ _ _ _ _ _ _ _ (wrw q5 0 [.int .i64 k, .int .i64 fr, .int .i64 tn, .int .i64 op, .int .i64 fo, .string key, .int .i64 bk, .slice tE LE cE, .slice tD LG cD, .slice tM LM cM] v)
       rw [hva]
       clear hva hS
       have hS := hS9
       clear hS9
       obtain ⟨x0, x1, x2, x3, x4, x5, x6, x7, x8, x9⟩ := celw10 Dq6
       have fz := Dq6.free
       refine wpAnyH_ready (rs := [7]) (by kernel_rfl) (by simp) ?_
       refine AllReadyH.cons rfl (fun K' hK' => ?_) AllReadyH.nil
       go_simp
       have hS5 := off_wrw (g := q6) (us := [.int .i64 k, .int .i64 fr, .int .i64 tn, .int .i64 op, .int .i64 fo, .string key, .int .i64 bk, .slice ea LE ec, .slice da LG dc, .slice ma LM mc]) (o := 0) hS (.inr Hq6.out)
       refine hK'.out _ _ hS5 (fun hS => ?_)
       clear hK' K' hS5
       replace Dq5 := Dq5.off (off_wrw (D := fun c => c = q6) (g := q6) (us := [.int .i64 k, .int .i64 fr, .int .i64 tn, .int .i64 op, .int .i64 fo, .string key, .int .i64 bk, .slice ea LE ec, .slice da LG dc, .slice ma LM mc]) (o := 0) (Off.refl _ _) (.inl rfl)) (fun e => HNE5.out e)
       replace Dq6 := Dq6.wrwAll (vs := [.int .i64 k, .int .i64 fr, .int .i64 tn, .int .i64 op, .int .i64 fo, .string key, .int .i64 bk, .slice ea LE ec, .slice da LG dc, .slice ma LM mc]) rfl
       clear fz x0 x1 x2 x3 x4 x5 x6 x7 x8 x9
       refine wpAnyH_done (by kernel_rfl) ?_ _
       have HF5 : Hid _ := Dq5
       have HF6 : Hid _ := Dq6
       have HSF : Hid _ := hS
       clear hS Dq5 Dq6
       go_wp2_with fail
       go_meet
       case rel => exact ⟨q5, q6, tE, cE, tD, cD, tM, cM, rfl, rfl, HF5.out, HF6.out, HSF.out⟩
     ·go_simp
      have hS1 := hS.size
      refine hK'.out _ _ (hS.alloc _) (fun hS => ?_)
      clear hK' K'
      have Dq6 := Cel.new v 26 #[.int .i64 0, .int .i64 0, .int .i64 0, .int .i64 0, .int .i64 0, .string ⟨#[]⟩, .int .i64 0, .slice none 0 0, .slice none 0 0, .slice none 0 0]
      have ON := (Off.refl (fun _ => False) v).alloc (.cells #[.int .i64 0, .int .i64 0, .int .i64 0, .int .i64 0, .int .i64 0, .string ⟨#[]⟩, .int .i64 0, .slice none 0 0, .slice none 0 0, .slice none 0 0] 26)
      obtain ⟨q6, hq6⟩ : ∃ q, q = v.heap.size := ⟨_, rfl⟩
      rw [← hq6] at Dq6 ⊢
      have Hq6 : Hid (V.heap.size ≤ q6) := by show _ ≤ _; omega
      generalize hv9 : v.alloc (.cells #[.int .i64 0, .int .i64 0, .int .i64 0, .int .i64 0, .int .i64 0, .string ⟨#[]⟩, .int .i64 0, .slice none 0 0, .slice none 0 0, .slice none 0 0] 26) = vq6 at Dq6 ON hS ⊢
      clear hv9 hq6 ON hS1
      refine wpAnyH_ready (rs := [3, 4]) (by kernel_rfl) (by simp) ?_
      refine AllReadyH.cons rfl (fun K' hK' => ?_) (AllReadyH.cons rfl (fun K' hK' => ?_) AllReadyH.nil)
      ·go_simp
       refine (HZP.out _ hS).mono ?_
       rintro e v ⟨rfl, o⟩
       refine hK'.out _ _ (hS.trans o (fun _ _ h => h)) (fun hS => ?_)
       clear hK' K'
       replace Dq6 := Dq6.off o (fun h => h)
       clear o
       refine wpAnyH_ready (rs := [4]) (by kernel_rfl) (by simp) ?_
       refine AllReadyH.cons rfl (fun K' hK' => ?_) AllReadyH.nil
       go_simp
       have hS1 := hS.size
       refine hK'.out _ _ (hS.alloc _) (fun hS => ?_)
       clear hK' K'
       have Dq5 := Cel.new v 26 #[.int .i64 0, .int .i64 0, .int .i64 0, .int .i64 0, .int .i64 0, .string ⟨#[]⟩, .int .i64 0, .slice none 0 0, .slice none 0 0, .slice none 0 0]
       have ON := (Off.refl (fun _ => False) v).alloc (.cells #[.int .i64 0, .int .i64 0, .int .i64 0, .int .i64 0, .int .i64 0, .string ⟨#[]⟩, .int .i64 0, .slice none 0 0, .slice none 0 0, .slice none 0 0] 26)
       obtain ⟨q5, hq5⟩ : ∃ q, q = v.heap.size := ⟨_, rfl⟩
       rw [← hq5] at Dq5 ⊢
       have Hq5 : Hid (V.heap.size ≤ q5) := by show _ ≤ _; omega
       generalize hv9 : v.alloc (.cells #[.int .i64 0, .int .i64 0, .int .i64 0, .int .i64 0, .int .i64 0, .string ⟨#[]⟩, .int .i64 0, .slice none 0 0, .slice none 0 0, .slice none 0 0] 26) = vq5 at Dq5 ON hS ⊢
       have HNE : Hid (q6 ≠ q5) := by have := Dq6.lt; show _ ≠ _; omega
       replace Dq6 := Dq6.off ON (fun h => h)
       clear hv9 hq5 ON hS1
       have HNE5 : Hid (q5 ≠ q6) := by first | exact HNE | exact fun e => HNE.out e.symm
       obtain ⟨x0, x1, x2, x3, x4, x5, x6, x7, x8, x9⟩ := celw10 Dq5
       have fz := Dq5.free
       refine wpAnyH_ready (rs := [6]) (by kernel_rfl) (by simp) ?_
       refine AllReadyH.cons rfl (fun K' hK' => ?_) AllReadyH.nil
       go_simp
       have hS5 := off_wrw (g := q5) (us := [.int .i64 k, .int .i64 fr, .int .i64 tn, .int .i64 op, .int .i64 fo, .string key, .int .i64 bk, .slice tE LE cE, .slice tD LG cD, .slice tM LM cM]) (o := 0) hS (.inr Hq5.out)
       refine hK'.out _ _ hS5 (fun hS => ?_)
       clear hK' K' hS5
       replace Dq6 := Dq6.off (off_wrw (D := fun c => c = q5) (g := q5) (us := [.int .i64 k, .int .i64 fr, .int .i64 tn, .int .i64 op, .int .i64 fo, .string key, .int .i64 bk, .slice tE LE cE, .slice tD LG cD, .slice tM LM cM]) (o := 0) (Off.refl _ _) (.inl rfl)) (fun e => HNE5.out e.symm)
       replace Dq5 := Dq5.wrwAll (vs := [.int .i64 k, .int .i64 fr, .int .i64 tn, .int .i64 op, .int .i64 fo, .string key, .int .i64 bk, .slice tE LE cE, .slice tD LG cD, .slice tM LM cM]) rfl
       clear fz x0 x1 x2 x3 x4 x5 x6 x7 x8 x9
       obtain ⟨va, hva⟩ : ∃ va, wrw q5 0 [.int .i64 k, .int .i64 fr, .int .i64 tn, .int .i64 op, .int .i64 fo, .string key, .int .i64 bk, .slice tE LE cE, .slice tD LG cD, .slice tM LM cM] vq5 = va := ⟨_, rfl⟩
       rw [hva] at Dq5 Dq6
       have hS9 : Off (fun _ => False) V va := by rw [← hva]; exact hS
       change wpAnyH _ _ _ _ _ _ _ _ (wrw q5 0 [.int .i64 k, .int .i64 fr, .int .i64 tn, .int .i64 op, .int .i64 fo, .string key, .int .i64 bk, .slice tE LE cE, .slice tD LG cD, .slice tM LM cM] vq5)
       rw [hva]
       clear hva hS
       have hS := hS9
       clear hS9
       obtain ⟨x0, x1, x2, x3, x4, x5, x6, x7, x8, x9⟩ := celw10 Dq6
       have fz := Dq6.free
       refine wpAnyH_ready (rs := [7]) (by kernel_rfl) (by simp) ?_
       refine AllReadyH.cons rfl (fun K' hK' => ?_) AllReadyH.nil
       go_simp
       have hS5 := off_wrw (g := q6) (us := [.int .i64 k, .int .i64 fr, .int .i64 tn, .int .i64 op, .int .i64 fo, .string key, .int .i64 bk, .slice ea LE ec, .slice da LG dc, .slice ma LM mc]) (o := 0) hS (.inr Hq6.out)
       refine hK'.out _ _ hS5 (fun hS => ?_)
       clear hK' K' hS5
       replace Dq5 := Dq5.off (off_wrw (D := fun c => c = q6) (g := q6) (us := [.int .i64 k, .int .i64 fr, .int .i64 tn, .int .i64 op, .int .i64 fo, .string key, .int .i64 bk, .slice ea LE ec, .slice da LG dc, .slice ma LM mc]) (o := 0) (Off.refl _ _) (.inl rfl)) (fun e => HNE5.out e)
       replace Dq6 := Dq6.wrwAll (vs := [.int .i64 k, .int .i64 fr, .int .i64 tn, .int .i64 op, .int .i64 fo, .string key, .int .i64 bk, .slice ea LE ec, .slice da LG dc, .slice ma LM mc]) rfl
       clear fz x0 x1 x2 x3 x4 x5 x6 x7 x8 x9
       refine wpAnyH_done (by kernel_rfl) ?_ _
       have HF5 : Hid _ := Dq5
       have HF6 : Hid _ := Dq6
       have HSF : Hid _ := hS
       clear hS Dq5 Dq6
       go_wp2_with fail
       go_meet
       case rel => exact ⟨q5, q6, tE, cE, tD, cD, tM, cM, rfl, rfl, HF5.out, HF6.out, HSF.out⟩
      ·go_simp
       have hS1 := hS.size
       refine hK'.out _ _ (hS.alloc _) (fun hS => ?_)
       clear hK' K'
       have Dq5 := Cel.new vq6 26 #[.int .i64 0, .int .i64 0, .int .i64 0, .int .i64 0, .int .i64 0, .string ⟨#[]⟩, .int .i64 0, .slice none 0 0, .slice none 0 0, .slice none 0 0]
       have ON := (Off.refl (fun _ => False) vq6).alloc (.cells #[.int .i64 0, .int .i64 0, .int .i64 0, .int .i64 0, .int .i64 0, .string ⟨#[]⟩, .int .i64 0, .slice none 0 0, .slice none 0 0, .slice none 0 0] 26)
       obtain ⟨q5, hq5⟩ : ∃ q, q = vq6.heap.size := ⟨_, rfl⟩
       rw [← hq5] at Dq5 ⊢
       have Hq5 : Hid (V.heap.size ≤ q5) := by show _ ≤ _; omega
       generalize hv9 : vq6.alloc (.cells #[.int .i64 0, .int .i64 0, .int .i64 0, .int .i64 0, .int .i64 0, .string ⟨#[]⟩, .int .i64 0, .slice none 0 0, .slice none 0 0, .slice none 0 0] 26) = vq5 at Dq5 ON hS ⊢
       have HNE : Hid (q6 ≠ q5) := by have := Dq6.lt; show _ ≠ _; omega
       replace Dq6 := Dq6.off ON (fun h => h)
       clear hv9 hq5 ON hS1
       refine wpAnyH_ready (rs := [3]) (by kernel_rfl) (by simp) ?_
       refine AllReadyH.cons rfl (fun K' hK' => ?_) AllReadyH.nil
       go_simp
       refine (HZP.out _ hS).mono ?_
       rintro e v ⟨rfl, o⟩
       refine hK'.out _ _ (hS.trans o (fun _ _ h => h)) (fun hS => ?_)
       clear hK' K'
       replace Dq6 := Dq6.off o (fun h => h)
       replace Dq5 := Dq5.off o (fun h => h)
       clear o
       have HNE5 : Hid (q5 ≠ q6) := by first | exact HNE | exact fun e => HNE.out e.symm
       obtain ⟨x0, x1, x2, x3, x4, x5, x6, x7, x8, x9⟩ := celw10 Dq5
       have fz := Dq5.free
       refine wpAnyH_ready (rs := [6]) (by kernel_rfl) (by simp) ?_
       refine AllReadyH.cons rfl (fun K' hK' => ?_) AllReadyH.nil
       go_simp
       have hS5 := off_wrw (g := q5) (us := [.int .i64 k, .int .i64 fr, .int .i64 tn, .int .i64 op, .int .i64 fo, .string key, .int .i64 bk, .slice tE LE cE, .slice tD LG cD, .slice tM LM cM]) (o := 0) hS (.inr Hq5.out)
       refine hK'.out _ _ hS5 (fun hS => ?_)
       clear hK' K' hS5
       replace Dq6 := Dq6.off (off_wrw (D := fun c => c = q5) (g := q5) (us := [.int .i64 k, .int .i64 fr, .int .i64 tn, .int .i64 op, .int .i64 fo, .string key, .int .i64 bk, .slice tE LE cE, .slice tD LG cD, .slice tM LM cM]) (o := 0) (Off.refl _ _) (.inl rfl)) (fun e => HNE5.out e.symm)
       replace Dq5 := Dq5.wrwAll (vs := [.int .i64 k, .int .i64 fr, .int .i64 tn, .int .i64 op, .int .i64 fo, .string key, .int .i64 bk, .slice tE LE cE, .slice tD LG cD, .slice tM LM cM]) rfl
       clear fz x0 x1 x2 x3 x4 x5 x6 x7 x8 x9
       obtain ⟨va, hva⟩ : ∃ va, wrw q5 0 [.int .i64 k, .int .i64 fr, .int .i64 tn, .int .i64 op, .int .i64 fo, .string key, .int .i64 bk, .slice tE LE cE, .slice tD LG cD, .slice tM LM cM] v = va := ⟨_, rfl⟩
       rw [hva] at Dq5 Dq6
       have hS9 : Off (fun _ => False) V va := by rw [← hva]; exact hS
       change wpAnyH _ _ _ _ _ _ _ _ (wrw q5 0 [.int .i64 k, .int .i64 fr, .int .i64 tn, .int .i64 op, .int .i64 fo, .string key, .int .i64 bk, .slice tE LE cE, .slice tD LG cD, .slice tM LM cM] v)
       rw [hva]
       clear hva hS
       have hS := hS9
       clear hS9
       obtain ⟨x0, x1, x2, x3, x4, x5, x6, x7, x8, x9⟩ := celw10 Dq6
       have fz := Dq6.free
       refine wpAnyH_ready (rs := [7]) (by kernel_rfl) (by simp) ?_
       refine AllReadyH.cons rfl (fun K' hK' => ?_) AllReadyH.nil
       go_simp
       have hS5 := off_wrw (g := q6) (us := [.int .i64 k, .int .i64 fr, .int .i64 tn, .int .i64 op, .int .i64 fo, .string key, .int .i64 bk, .slice ea LE ec, .slice da LG dc, .slice ma LM mc]) (o := 0) hS (.inr Hq6.out)
       refine hK'.out _ _ hS5 (fun hS => ?_)
       clear hK' K' hS5
       replace Dq5 := Dq5.off (off_wrw (D := fun c => c = q6) (g := q6) (us := [.int .i64 k, .int .i64 fr, .int .i64 tn, .int .i64 op, .int .i64 fo, .string key, .int .i64 bk, .slice ea LE ec, .slice da LG dc, .slice ma LM mc]) (o := 0) (Off.refl _ _) (.inl rfl)) (fun e => HNE5.out e)
       replace Dq6 := Dq6.wrwAll (vs := [.int .i64 k, .int .i64 fr, .int .i64 tn, .int .i64 op, .int .i64 fo, .string key, .int .i64 bk, .slice ea LE ec, .slice da LG dc, .slice ma LM mc]) rfl
       clear fz x0 x1 x2 x3 x4 x5 x6 x7 x8 x9
       refine wpAnyH_done (by kernel_rfl) ?_ _
       have HF5 : Hid _ := Dq5
       have HF6 : Hid _ := Dq6
       have HSF : Hid _ := hS
       clear hS Dq5 Dq6
       go_wp2_with fail
       go_meet
       case rel => exact ⟨q5, q6, tE, cE, tD, cD, tM, cM, rfl, rfl, HF5.out, HF6.out, HSF.out⟩
    ·go_simp
     have hS1 := hS.size
     refine hK'.out _ _ (hS.alloc _) (fun hS => ?_)
     clear hK' K'
     have Dq5 := Cel.new W0 26 #[.int .i64 0, .int .i64 0, .int .i64 0, .int .i64 0, .int .i64 0, .string ⟨#[]⟩, .int .i64 0, .slice none 0 0, .slice none 0 0, .slice none 0 0]
     have ON := (Off.refl (fun _ => False) W0).alloc (.cells #[.int .i64 0, .int .i64 0, .int .i64 0, .int .i64 0, .int .i64 0, .string ⟨#[]⟩, .int .i64 0, .slice none 0 0, .slice none 0 0, .slice none 0 0] 26)
     obtain ⟨q5, hq5⟩ : ∃ q, q = W0.heap.size := ⟨_, rfl⟩
     rw [← hq5] at Dq5 ⊢
     have Hq5 : Hid (V.heap.size ≤ q5) := by show _ ≤ _; omega
     generalize hv9 : W0.alloc (.cells #[.int .i64 0, .int .i64 0, .int .i64 0, .int .i64 0, .int .i64 0, .string ⟨#[]⟩, .int .i64 0, .slice none 0 0, .slice none 0 0, .slice none 0 0] 26) = vq5 at Dq5 ON hS ⊢
     clear hv9 hq5 ON hS1
     refine wpAnyH_ready (rs := [1, 5]) (by kernel_rfl) (by simp) ?_
     refine AllReadyH.cons rfl (fun K' hK' => ?_) (AllReadyH.cons rfl (fun K' hK' => ?_) AllReadyH.nil)
     ·go_simp
      refine (HPL.out _ hS).mono ?_
      rintro e v ⟨tE, cE, tD, cD, tM, cM, rfl, -, o⟩
      refine hK'.out _ _ (hS.trans o (fun _ _ h => h)) (fun hS => ?_)
      clear hK' K'
      replace Dq5 := Dq5.off o (fun h => h)
      clear o
      refine wpAnyH_ready (rs := [3, 5]) (by kernel_rfl) (by simp) ?_
      refine AllReadyH.cons rfl (fun K' hK' => ?_) (AllReadyH.cons rfl (fun K' hK' => ?_) AllReadyH.nil)
      ·go_simp
       refine (HZP.out _ hS).mono ?_
       rintro e v ⟨rfl, o⟩
       refine hK'.out _ _ (hS.trans o (fun _ _ h => h)) (fun hS => ?_)
       clear hK' K'
       replace Dq5 := Dq5.off o (fun h => h)
       clear o
       refine wpAnyH_ready (rs := [5]) (by kernel_rfl) (by simp) ?_
       refine AllReadyH.cons rfl (fun K' hK' => ?_) AllReadyH.nil
       go_simp
       have hS1 := hS.size
       refine hK'.out _ _ (hS.alloc _) (fun hS => ?_)
       clear hK' K'
       have Dq6 := Cel.new v 26 #[.int .i64 0, .int .i64 0, .int .i64 0, .int .i64 0, .int .i64 0, .string ⟨#[]⟩, .int .i64 0, .slice none 0 0, .slice none 0 0, .slice none 0 0]
       have ON := (Off.refl (fun _ => False) v).alloc (.cells #[.int .i64 0, .int .i64 0, .int .i64 0, .int .i64 0, .int .i64 0, .string ⟨#[]⟩, .int .i64 0, .slice none 0 0, .slice none 0 0, .slice none 0 0] 26)
       obtain ⟨q6, hq6⟩ : ∃ q, q = v.heap.size := ⟨_, rfl⟩
       rw [← hq6] at Dq6 ⊢
       have Hq6 : Hid (V.heap.size ≤ q6) := by show _ ≤ _; omega
       generalize hv9 : v.alloc (.cells #[.int .i64 0, .int .i64 0, .int .i64 0, .int .i64 0, .int .i64 0, .string ⟨#[]⟩, .int .i64 0, .slice none 0 0, .slice none 0 0, .slice none 0 0] 26) = vq6 at Dq6 ON hS ⊢
       have HNE : Hid (q5 ≠ q6) := by have := Dq5.lt; show _ ≠ _; omega
       replace Dq5 := Dq5.off ON (fun h => h)
       clear hv9 hq6 ON hS1
       have HNE5 : Hid (q5 ≠ q6) := by first | exact HNE | exact fun e => HNE.out e.symm
       obtain ⟨x0, x1, x2, x3, x4, x5, x6, x7, x8, x9⟩ := celw10 Dq5
       have fz := Dq5.free
       refine wpAnyH_ready (rs := [6]) (by kernel_rfl) (by simp) ?_
       refine AllReadyH.cons rfl (fun K' hK' => ?_) AllReadyH.nil
       go_simp
       have hS5 := off_wrw (g := q5) (us := [.int .i64 k, .int .i64 fr, .int .i64 tn, .int .i64 op, .int .i64 fo, .string key, .int .i64 bk, .slice tE LE cE, .slice tD LG cD, .slice tM LM cM]) (o := 0) hS (.inr Hq5.out)
       refine hK'.out _ _ hS5 (fun hS => ?_)
       clear hK' K' hS5
       replace Dq6 := Dq6.off (off_wrw (D := fun c => c = q5) (g := q5) (us := [.int .i64 k, .int .i64 fr, .int .i64 tn, .int .i64 op, .int .i64 fo, .string key, .int .i64 bk, .slice tE LE cE, .slice tD LG cD, .slice tM LM cM]) (o := 0) (Off.refl _ _) (.inl rfl)) (fun e => HNE5.out e.symm)
       replace Dq5 := Dq5.wrwAll (vs := [.int .i64 k, .int .i64 fr, .int .i64 tn, .int .i64 op, .int .i64 fo, .string key, .int .i64 bk, .slice tE LE cE, .slice tD LG cD, .slice tM LM cM]) rfl
       clear fz x0 x1 x2 x3 x4 x5 x6 x7 x8 x9
       obtain ⟨va, hva⟩ : ∃ va, wrw q5 0 [.int .i64 k, .int .i64 fr, .int .i64 tn, .int .i64 op, .int .i64 fo, .string key, .int .i64 bk, .slice tE LE cE, .slice tD LG cD, .slice tM LM cM] vq6 = va := ⟨_, rfl⟩
       rw [hva] at Dq5 Dq6
       have hS9 : Off (fun _ => False) V va := by rw [← hva]; exact hS
       change wpAnyH _ _ _ _ _ _ _ _ (wrw q5 0 [.int .i64 k, .int .i64 fr, .int .i64 tn, .int .i64 op, .int .i64 fo, .string key, .int .i64 bk, .slice tE LE cE, .slice tD LG cD, .slice tM LM cM] vq6)
       rw [hva]
       clear hva hS
       have hS := hS9
       clear hS9
       obtain ⟨x0, x1, x2, x3, x4, x5, x6, x7, x8, x9⟩ := celw10 Dq6
       have fz := Dq6.free
       refine wpAnyH_ready (rs := [7]) (by kernel_rfl) (by simp) ?_
       refine AllReadyH.cons rfl (fun K' hK' => ?_) AllReadyH.nil
       go_simp
       have hS5 := off_wrw (g := q6) (us := [.int .i64 k, .int .i64 fr, .int .i64 tn, .int .i64 op, .int .i64 fo, .string key, .int .i64 bk, .slice ea LE ec, .slice da LG dc, .slice ma LM mc]) (o := 0) hS (.inr Hq6.out)
       refine hK'.out _ _ hS5 (fun hS => ?_)
       clear hK' K' hS5
       replace Dq5 := Dq5.off (off_wrw (D := fun c => c = q6) (g := q6) (us := [.int .i64 k, .int .i64 fr, .int .i64 tn, .int .i64 op, .int .i64 fo, .string key, .int .i64 bk, .slice ea LE ec, .slice da LG dc, .slice ma LM mc]) (o := 0) (Off.refl _ _) (.inl rfl)) (fun e => HNE5.out e)
       replace Dq6 := Dq6.wrwAll (vs := [.int .i64 k, .int .i64 fr, .int .i64 tn, .int .i64 op, .int .i64 fo, .string key, .int .i64 bk, .slice ea LE ec, .slice da LG dc, .slice ma LM mc]) rfl
       clear fz x0 x1 x2 x3 x4 x5 x6 x7 x8 x9
       refine wpAnyH_done (by kernel_rfl) ?_ _
       have HF5 : Hid _ := Dq5
       have HF6 : Hid _ := Dq6
       have HSF : Hid _ := hS
       clear hS Dq5 Dq6
       go_wp2_with fail
       go_meet
       case rel => exact ⟨q5, q6, tE, cE, tD, cD, tM, cM, rfl, rfl, HF5.out, HF6.out, HSF.out⟩
      ·go_simp
       have hS1 := hS.size
       refine hK'.out _ _ (hS.alloc _) (fun hS => ?_)
       clear hK' K'
       have Dq6 := Cel.new v 26 #[.int .i64 0, .int .i64 0, .int .i64 0, .int .i64 0, .int .i64 0, .string ⟨#[]⟩, .int .i64 0, .slice none 0 0, .slice none 0 0, .slice none 0 0]
       have ON := (Off.refl (fun _ => False) v).alloc (.cells #[.int .i64 0, .int .i64 0, .int .i64 0, .int .i64 0, .int .i64 0, .string ⟨#[]⟩, .int .i64 0, .slice none 0 0, .slice none 0 0, .slice none 0 0] 26)
       obtain ⟨q6, hq6⟩ : ∃ q, q = v.heap.size := ⟨_, rfl⟩
       rw [← hq6] at Dq6 ⊢
       have Hq6 : Hid (V.heap.size ≤ q6) := by show _ ≤ _; omega
       generalize hv9 : v.alloc (.cells #[.int .i64 0, .int .i64 0, .int .i64 0, .int .i64 0, .int .i64 0, .string ⟨#[]⟩, .int .i64 0, .slice none 0 0, .slice none 0 0, .slice none 0 0] 26) = vq6 at Dq6 ON hS ⊢
       have HNE : Hid (q5 ≠ q6) := by have := Dq5.lt; show _ ≠ _; omega
       replace Dq5 := Dq5.off ON (fun h => h)
       clear hv9 hq6 ON hS1
       refine wpAnyH_ready (rs := [3]) (by kernel_rfl) (by simp) ?_
       refine AllReadyH.cons rfl (fun K' hK' => ?_) AllReadyH.nil
       go_simp
       refine (HZP.out _ hS).mono ?_
       rintro e v ⟨rfl, o⟩
       refine hK'.out _ _ (hS.trans o (fun _ _ h => h)) (fun hS => ?_)
       clear hK' K'
       replace Dq5 := Dq5.off o (fun h => h)
       replace Dq6 := Dq6.off o (fun h => h)
       clear o
       have HNE5 : Hid (q5 ≠ q6) := by first | exact HNE | exact fun e => HNE.out e.symm
       obtain ⟨x0, x1, x2, x3, x4, x5, x6, x7, x8, x9⟩ := celw10 Dq5
       have fz := Dq5.free
       refine wpAnyH_ready (rs := [6]) (by kernel_rfl) (by simp) ?_
       refine AllReadyH.cons rfl (fun K' hK' => ?_) AllReadyH.nil
       go_simp
       have hS5 := off_wrw (g := q5) (us := [.int .i64 k, .int .i64 fr, .int .i64 tn, .int .i64 op, .int .i64 fo, .string key, .int .i64 bk, .slice tE LE cE, .slice tD LG cD, .slice tM LM cM]) (o := 0) hS (.inr Hq5.out)
       refine hK'.out _ _ hS5 (fun hS => ?_)
       clear hK' K' hS5
       replace Dq6 := Dq6.off (off_wrw (D := fun c => c = q5) (g := q5) (us := [.int .i64 k, .int .i64 fr, .int .i64 tn, .int .i64 op, .int .i64 fo, .string key, .int .i64 bk, .slice tE LE cE, .slice tD LG cD, .slice tM LM cM]) (o := 0) (Off.refl _ _) (.inl rfl)) (fun e => HNE5.out e.symm)
       replace Dq5 := Dq5.wrwAll (vs := [.int .i64 k, .int .i64 fr, .int .i64 tn, .int .i64 op, .int .i64 fo, .string key, .int .i64 bk, .slice tE LE cE, .slice tD LG cD, .slice tM LM cM]) rfl
       clear fz x0 x1 x2 x3 x4 x5 x6 x7 x8 x9
       obtain ⟨va, hva⟩ : ∃ va, wrw q5 0 [.int .i64 k, .int .i64 fr, .int .i64 tn, .int .i64 op, .int .i64 fo, .string key, .int .i64 bk, .slice tE LE cE, .slice tD LG cD, .slice tM LM cM] v = va := ⟨_, rfl⟩
       rw [hva] at Dq5 Dq6
       have hS9 : Off (fun _ => False) V va := by rw [← hva]; exact hS
       change wpAnyH _ _ _ _ _ _ _ _ (wrw q5 0 [.int .i64 k, .int .i64 fr, .int .i64 tn, .int .i64 op, .int .i64 fo, .string key, .int .i64 bk, .slice tE LE cE, .slice tD LG cD, .slice tM LM cM] v)
       rw [hva]
       clear hva hS
       have hS := hS9
       clear hS9
       obtain ⟨x0, x1, x2, x3, x4, x5, x6, x7, x8, x9⟩ := celw10 Dq6
       have fz := Dq6.free
       refine wpAnyH_ready (rs := [7]) (by kernel_rfl) (by simp) ?_
       refine AllReadyH.cons rfl (fun K' hK' => ?_) AllReadyH.nil
       go_simp
       have hS5 := off_wrw (g := q6) (us := [.int .i64 k, .int .i64 fr, .int .i64 tn, .int .i64 op, .int .i64 fo, .string key, .int .i64 bk, .slice ea LE ec, .slice da LG dc, .slice ma LM mc]) (o := 0) hS (.inr Hq6.out)
       refine hK'.out _ _ hS5 (fun hS => ?_)
       clear hK' K' hS5
       replace Dq5 := Dq5.off (off_wrw (D := fun c => c = q6) (g := q6) (us := [.int .i64 k, .int .i64 fr, .int .i64 tn, .int .i64 op, .int .i64 fo, .string key, .int .i64 bk, .slice ea LE ec, .slice da LG dc, .slice ma LM mc]) (o := 0) (Off.refl _ _) (.inl rfl)) (fun e => HNE5.out e)
       replace Dq6 := Dq6.wrwAll (vs := [.int .i64 k, .int .i64 fr, .int .i64 tn, .int .i64 op, .int .i64 fo, .string key, .int .i64 bk, .slice ea LE ec, .slice da LG dc, .slice ma LM mc]) rfl
       clear fz x0 x1 x2 x3 x4 x5 x6 x7 x8 x9
       refine wpAnyH_done (by kernel_rfl) ?_ _
       have HF5 : Hid _ := Dq5
       have HF6 : Hid _ := Dq6
       have HSF : Hid _ := hS
       clear hS Dq5 Dq6
       go_wp2_with fail
       go_meet
       case rel => exact ⟨q5, q6, tE, cE, tD, cD, tM, cM, rfl, rfl, HF5.out, HF6.out, HSF.out⟩
     ·go_simp
      have hS1 := hS.size
      refine hK'.out _ _ (hS.alloc _) (fun hS => ?_)
      clear hK' K'
      have Dq6 := Cel.new vq5 26 #[.int .i64 0, .int .i64 0, .int .i64 0, .int .i64 0, .int .i64 0, .string ⟨#[]⟩, .int .i64 0, .slice none 0 0, .slice none 0 0, .slice none 0 0]
      have ON := (Off.refl (fun _ => False) vq5).alloc (.cells #[.int .i64 0, .int .i64 0, .int .i64 0, .int .i64 0, .int .i64 0, .string ⟨#[]⟩, .int .i64 0, .slice none 0 0, .slice none 0 0, .slice none 0 0] 26)
      obtain ⟨q6, hq6⟩ : ∃ q, q = vq5.heap.size := ⟨_, rfl⟩
      rw [← hq6] at Dq6 ⊢
      have Hq6 : Hid (V.heap.size ≤ q6) := by show _ ≤ _; omega
      generalize hv9 : vq5.alloc (.cells #[.int .i64 0, .int .i64 0, .int .i64 0, .int .i64 0, .int .i64 0, .string ⟨#[]⟩, .int .i64 0, .slice none 0 0, .slice none 0 0, .slice none 0 0] 26) = vq6 at Dq6 ON hS ⊢
      have HNE : Hid (q5 ≠ q6) := by have := Dq5.lt; show _ ≠ _; omega
      replace Dq5 := Dq5.off ON (fun h => h)
      clear hv9 hq6 ON hS1
      refine wpAnyH_ready (rs := [1]) (by kernel_rfl) (by simp) ?_
      refine AllReadyH.cons rfl (fun K' hK' => ?_) AllReadyH.nil
      go_simp
      refine (HPL.out _ hS).mono ?_
      rintro e v ⟨tE, cE, tD, cD, tM, cM, rfl, -, o⟩
      refine hK'.out _ _ (hS.trans o (fun _ _ h => h)) (fun hS => ?_)
      clear hK' K'
      replace Dq5 := Dq5.off o (fun h => h)
      replace Dq6 := Dq6.off o (fun h => h)
      clear o
      refine wpAnyH_ready (rs := [3]) (by kernel_rfl) (by simp) ?_
      refine AllReadyH.cons rfl (fun K' hK' => ?_) AllReadyH.nil
      go_simp
      refine (HZP.out _ hS).mono ?_
      rintro e v ⟨rfl, o⟩
      refine hK'.out _ _ (hS.trans o (fun _ _ h => h)) (fun hS => ?_)
      clear hK' K'
      replace Dq5 := Dq5.off o (fun h => h)
      replace Dq6 := Dq6.off o (fun h => h)
      clear o
      have HNE5 : Hid (q5 ≠ q6) := by first | exact HNE | exact fun e => HNE.out e.symm
      obtain ⟨x0, x1, x2, x3, x4, x5, x6, x7, x8, x9⟩ := celw10 Dq5
      have fz := Dq5.free
      refine wpAnyH_ready (rs := [6]) (by kernel_rfl) (by simp) ?_
      refine AllReadyH.cons rfl (fun K' hK' => ?_) AllReadyH.nil
      go_simp
      have hS5 := off_wrw (g := q5) (us := [.int .i64 k, .int .i64 fr, .int .i64 tn, .int .i64 op, .int .i64 fo, .string key, .int .i64 bk, .slice tE LE cE, .slice tD LG cD, .slice tM LM cM]) (o := 0) hS (.inr Hq5.out)
      refine hK'.out _ _ hS5 (fun hS => ?_)
      clear hK' K' hS5
      replace Dq6 := Dq6.off (off_wrw (D := fun c => c = q5) (g := q5) (us := [.int .i64 k, .int .i64 fr, .int .i64 tn, .int .i64 op, .int .i64 fo, .string key, .int .i64 bk, .slice tE LE cE, .slice tD LG cD, .slice tM LM cM]) (o := 0) (Off.refl _ _) (.inl rfl)) (fun e => HNE5.out e.symm)
      replace Dq5 := Dq5.wrwAll (vs := [.int .i64 k, .int .i64 fr, .int .i64 tn, .int .i64 op, .int .i64 fo, .string key, .int .i64 bk, .slice tE LE cE, .slice tD LG cD, .slice tM LM cM]) rfl
      clear fz x0 x1 x2 x3 x4 x5 x6 x7 x8 x9
      obtain ⟨va, hva⟩ : ∃ va, wrw q5 0 [.int .i64 k, .int .i64 fr, .int .i64 tn, .int .i64 op, .int .i64 fo, .string key, .int .i64 bk, .slice tE LE cE, .slice tD LG cD, .slice tM LM cM] v = va := ⟨_, rfl⟩
      rw [hva] at Dq5 Dq6
      have hS9 : Off (fun _ => False) V va := by rw [← hva]; exact hS
      change wpAnyH _ _ _ _ _ _ _ _ (wrw q5 0 [.int .i64 k, .int .i64 fr, .int .i64 tn, .int .i64 op, .int .i64 fo, .string key, .int .i64 bk, .slice tE LE cE, .slice tD LG cD, .slice tM LM cM] v)
      rw [hva]
      clear hva hS
      have hS := hS9
      clear hS9
      obtain ⟨x0, x1, x2, x3, x4, x5, x6, x7, x8, x9⟩ := celw10 Dq6
      have fz := Dq6.free
      refine wpAnyH_ready (rs := [7]) (by kernel_rfl) (by simp) ?_
      refine AllReadyH.cons rfl (fun K' hK' => ?_) AllReadyH.nil
      go_simp
      have hS5 := off_wrw (g := q6) (us := [.int .i64 k, .int .i64 fr, .int .i64 tn, .int .i64 op, .int .i64 fo, .string key, .int .i64 bk, .slice ea LE ec, .slice da LG dc, .slice ma LM mc]) (o := 0) hS (.inr Hq6.out)
      refine hK'.out _ _ hS5 (fun hS => ?_)
      clear hK' K' hS5
      replace Dq5 := Dq5.off (off_wrw (D := fun c => c = q6) (g := q6) (us := [.int .i64 k, .int .i64 fr, .int .i64 tn, .int .i64 op, .int .i64 fo, .string key, .int .i64 bk, .slice ea LE ec, .slice da LG dc, .slice ma LM mc]) (o := 0) (Off.refl _ _) (.inl rfl)) (fun e => HNE5.out e)
      replace Dq6 := Dq6.wrwAll (vs := [.int .i64 k, .int .i64 fr, .int .i64 tn, .int .i64 op, .int .i64 fo, .string key, .int .i64 bk, .slice ea LE ec, .slice da LG dc, .slice ma LM mc]) rfl
      clear fz x0 x1 x2 x3 x4 x5 x6 x7 x8 x9
      refine wpAnyH_done (by kernel_rfl) ?_ _
      have HF5 : Hid _ := Dq5
      have HF6 : Hid _ := Dq6
      have HSF : Hid _ := hS
      clear hS Dq5 Dq6
      go_wp2_with fail
      go_meet
      case rel => exact ⟨q5, q6, tE, cE, tD, cD, tM, cM, rfl, rfl, HF5.out, HF6.out, HSF.out⟩
    ·go_simp
     have hS1 := hS.size
     refine hK'.out _ _ (hS.alloc _) (fun hS => ?_)
     clear hK' K'
     have Dq6 := Cel.new W0 26 #[.int .i64 0, .int .i64 0, .int .i64 0, .int .i64 0, .int .i64 0, .string ⟨#[]⟩, .int .i64 0, .slice none 0 0, .slice none 0 0, .slice none 0 0]
     have ON := (Off.refl (fun _ => False) W0).alloc (.cells #[.int .i64 0, .int .i64 0, .int .i64 0, .int .i64 0, .int .i64 0, .string ⟨#[]⟩, .int .i64 0, .slice none 0 0, .slice none 0 0, .slice none 0 0] 26)
     obtain ⟨q6, hq6⟩ : ∃ q, q = W0.heap.size := ⟨_, rfl⟩
     rw [← hq6] at Dq6 ⊢
     have Hq6 : Hid (V.heap.size ≤ q6) := by show _ ≤ _; omega
     generalize hv9 : W0.alloc (.cells #[.int .i64 0, .int .i64 0, .int .i64 0, .int .i64 0, .int .i64 0, .string ⟨#[]⟩, .int .i64 0, .slice none 0 0, .slice none 0 0, .slice none 0 0] 26) = vq6 at Dq6 ON hS ⊢
     clear hv9 hq6 ON hS1
     refine wpAnyH_ready (rs := [1, 4]) (by kernel_rfl) (by simp) ?_
     refine AllReadyH.cons rfl (fun K' hK' => ?_) (AllReadyH.cons rfl (fun K' hK' => ?_) AllReadyH.nil)
     ·go_simp
      refine (HPL.out _ hS).mono ?_
      rintro e v ⟨tE, cE, tD, cD, tM, cM, rfl, -, o⟩
      refine hK'.out _ _ (hS.trans o (fun _ _ h => h)) (fun hS => ?_)
      clear hK' K'
      replace Dq6 := Dq6.off o (fun h => h)
      clear o
      refine wpAnyH_ready (rs := [3, 4]) (by kernel_rfl) (by simp) ?_
      refine AllReadyH.cons rfl (fun K' hK' => ?_) (AllReadyH.cons rfl (fun K' hK' => ?_) AllReadyH.nil)
      ·go_simp
       refine (HZP.out _ hS).mono ?_
       rintro e v ⟨rfl, o⟩
       refine hK'.out _ _ (hS.trans o (fun _ _ h => h)) (fun hS => ?_)
       clear hK' K'
       replace Dq6 := Dq6.off o (fun h => h)
       clear o
       refine wpAnyH_ready (rs := [4]) (by kernel_rfl) (by simp) ?_
       refine AllReadyH.cons rfl (fun K' hK' => ?_) AllReadyH.nil
       go_simp
       have hS1 := hS.size
       refine hK'.out _ _ (hS.alloc _) (fun hS => ?_)
       clear hK' K'
       have Dq5 := Cel.new v 26 #[.int .i64 0, .int .i64 0, .int .i64 0, .int .i64 0, .int .i64 0, .string ⟨#[]⟩, .int .i64 0, .slice none 0 0, .slice none 0 0, .slice none 0 0]
       have ON := (Off.refl (fun _ => False) v).alloc (.cells #[.int .i64 0, .int .i64 0, .int .i64 0, .int .i64 0, .int .i64 0, .string ⟨#[]⟩, .int .i64 0, .slice none 0 0, .slice none 0 0, .slice none 0 0] 26)
       obtain ⟨q5, hq5⟩ : ∃ q, q = v.heap.size := ⟨_, rfl⟩
       rw [← hq5] at Dq5 ⊢
       have Hq5 : Hid (V.heap.size ≤ q5) := by show _ ≤ _; omega
       generalize hv9 : v.alloc (.cells #[.int .i64 0, .int .i64 0, .int .i64 0, .int .i64 0, .int .i64 0, .string ⟨#[]⟩, .int .i64 0, .slice none 0 0, .slice none 0 0, .slice none 0 0] 26) = vq5 at Dq5 ON hS ⊢
       have HNE : Hid (q6 ≠ q5) := by have := Dq6.lt; show _ ≠ _; omega
       replace Dq6 := Dq6.off ON (fun h => h)
       clear hv9 hq5 ON hS1
       have HNE5 : Hid (q5 ≠ q6) := by first | exact HNE | exact fun e => HNE.out e.symm
       obtain ⟨x0, x1, x2, x3, x4, x5, x6, x7, x8, x9⟩ := celw10 Dq5
       have fz := Dq5.free
       refine wpAnyH_ready (rs := [6]) (by kernel_rfl) (by simp) ?_
       refine AllReadyH.cons rfl (fun K' hK' => ?_) AllReadyH.nil
       go_simp
       have hS5 := off_wrw (g := q5) (us := [.int .i64 k, .int .i64 fr, .int .i64 tn, .int .i64 op, .int .i64 fo, .string key, .int .i64 bk, .slice tE LE cE, .slice tD LG cD, .slice tM LM cM]) (o := 0) hS (.inr Hq5.out)
       refine hK'.out _ _ hS5 (fun hS => ?_)
       clear hK' K' hS5
       replace Dq6 := Dq6.off (off_wrw (D := fun c => c = q5) (g := q5) (us := [.int .i64 k, .int .i64 fr, .int .i64 tn, .int .i64 op, .int .i64 fo, .string key, .int .i64 bk, .slice tE LE cE, .slice tD LG cD, .slice tM LM cM]) (o := 0) (Off.refl _ _) (.inl rfl)) (fun e => HNE5.out e.symm)
       replace Dq5 := Dq5.wrwAll (vs := [.int .i64 k, .int .i64 fr, .int .i64 tn, .int .i64 op, .int .i64 fo, .string key, .int .i64 bk, .slice tE LE cE, .slice tD LG cD, .slice tM LM cM]) rfl
       clear fz x0 x1 x2 x3 x4 x5 x6 x7 x8 x9
       obtain ⟨va, hva⟩ : ∃ va, wrw q5 0 [.int .i64 k, .int .i64 fr, .int .i64 tn, .int .i64 op, .int .i64 fo, .string key, .int .i64 bk, .slice tE LE cE, .slice tD LG cD, .slice tM LM cM] vq5 = va := ⟨_, rfl⟩
       rw [hva] at Dq5 Dq6
       have hS9 : Off (fun _ => False) V va := by rw [← hva]; exact hS
       change wpAnyH _ _ _ _ _ _ _ _ (wrw q5 0 [.int .i64 k, .int .i64 fr, .int .i64 tn, .int .i64 op, .int .i64 fo, .string key, .int .i64 bk, .slice tE LE cE, .slice tD LG cD, .slice tM LM cM] vq5)
       rw [hva]
       clear hva hS
       have hS := hS9
       clear hS9
       obtain ⟨x0, x1, x2, x3, x4, x5, x6, x7, x8, x9⟩ := celw10 Dq6
       have fz := Dq6.free
       refine wpAnyH_ready (rs := [7]) (by kernel_rfl) (by simp) ?_
       refine AllReadyH.cons rfl (fun K' hK' => ?_) AllReadyH.nil
       go_simp
       have hS5 := off_wrw (g := q6) (us := [.int .i64 k, .int .i64 fr, .int .i64 tn, .int .i64 op, .int .i64 fo, .string key, .int .i64 bk, .slice ea LE ec, .slice da LG dc, .slice ma LM mc]) (o := 0) hS (.inr Hq6.out)
       refine hK'.out _ _ hS5 (fun hS => ?_)
       clear hK' K' hS5
       replace Dq5 := Dq5.off (off_wrw (D := fun c => c = q6) (g := q6) (us := [.int .i64 k, .int .i64 fr, .int .i64 tn, .int .i64 op, .int .i64 fo, .string key, .int .i64 bk, .slice ea LE ec, .slice da LG dc, .slice ma LM mc]) (o := 0) (Off.refl _ _) (.inl rfl)) (fun e => HNE5.out e)
       replace Dq6 := Dq6.wrwAll (vs := [.int .i64 k, .int .i64 fr, .int .i64 tn, .int .i64 op, .int .i64 fo, .string key, .int .i64 bk, .slice ea LE ec, .slice da LG dc, .slice ma LM mc]) rfl
       clear fz x0 x1 x2 x3 x4 x5 x6 x7 x8 x9
       refine wpAnyH_done (by kernel_rfl) ?_ _
       have HF5 : Hid _ := Dq5
       have HF6 : Hid _ := Dq6
       have HSF : Hid _ := hS
       clear hS Dq5 Dq6
       go_wp2_with fail
       go_meet
       case rel => exact ⟨q5, q6, tE, cE, tD, cD, tM, cM, rfl, rfl, HF5.out, HF6.out, HSF.out⟩
      ·go_simp
       have hS1 := hS.size
       refine hK'.out _ _ (hS.alloc _) (fun hS => ?_)
       clear hK' K'
       have Dq5 := Cel.new v 26 #[.int .i64 0, .int .i64 0, .int .i64 0, .int .i64 0, .int .i64 0, .string ⟨#[]⟩, .int .i64 0, .slice none 0 0, .slice none 0 0, .slice none 0 0]
       have ON := (Off.refl (fun _ => False) v).alloc (.cells #[.int .i64 0, .int .i64 0, .int .i64 0, .int .i64 0, .int .i64 0, .string ⟨#[]⟩, .int .i64 0, .slice none 0 0, .slice none 0 0, .slice none 0 0] 26)
       obtain ⟨q5, hq5⟩ : ∃ q, q = v.heap.size := ⟨_, rfl⟩
       rw [← hq5] at Dq5 ⊢
       have Hq5 : Hid (V.heap.size ≤ q5) := by show _ ≤ _; omega
       generalize hv9 : v.alloc (.cells #[.int .i64 0, .int .i64 0, .int .i64 0, .int .i64 0, .int .i64 0, .string ⟨#[]⟩, .int .i64 0, .slice none 0 0, .slice none 0 0, .slice none 0 0] 26) = vq5 at Dq5 ON hS ⊢
       have HNE : Hid (q6 ≠ q5) := by have := Dq6.lt; show _ ≠ _; omega
       replace Dq6 := Dq6.off ON (fun h => h)
       clear hv9 hq5 ON hS1
       refine wpAnyH_ready (rs := [3]) (by kernel_rfl) (by simp) ?_
       refine AllReadyH.cons rfl (fun K' hK' => ?_) AllReadyH.nil
       go_simp
       refine (HZP.out _ hS).mono ?_
       rintro e v ⟨rfl, o⟩
       refine hK'.out _ _ (hS.trans o (fun _ _ h => h)) (fun hS => ?_)
       clear hK' K'
       replace Dq6 := Dq6.off o (fun h => h)
       replace Dq5 := Dq5.off o (fun h => h)
       clear o
       have HNE5 : Hid (q5 ≠ q6) := by first | exact HNE | exact fun e => HNE.out e.symm
       obtain ⟨x0, x1, x2, x3, x4, x5, x6, x7, x8, x9⟩ := celw10 Dq5
       have fz := Dq5.free
       refine wpAnyH_ready (rs := [6]) (by kernel_rfl) (by simp) ?_
       refine AllReadyH.cons rfl (fun K' hK' => ?_) AllReadyH.nil
       go_simp
       have hS5 := off_wrw (g := q5) (us := [.int .i64 k, .int .i64 fr, .int .i64 tn, .int .i64 op, .int .i64 fo, .string key, .int .i64 bk, .slice tE LE cE, .slice tD LG cD, .slice tM LM cM]) (o := 0) hS (.inr Hq5.out)
       refine hK'.out _ _ hS5 (fun hS => ?_)
       clear hK' K' hS5
       replace Dq6 := Dq6.off (off_wrw (D := fun c => c = q5) (g := q5) (us := [.int .i64 k, .int .i64 fr, .int .i64 tn, .int .i64 op, .int .i64 fo, .string key, .int .i64 bk, .slice tE LE cE, .slice tD LG cD, .slice tM LM cM]) (o := 0) (Off.refl _ _) (.inl rfl)) (fun e => HNE5.out e.symm)
       replace Dq5 := Dq5.wrwAll (vs := [.int .i64 k, .int .i64 fr, .int .i64 tn, .int .i64 op, .int .i64 fo, .string key, .int .i64 bk, .slice tE LE cE, .slice tD LG cD, .slice tM LM cM]) rfl
       clear fz x0 x1 x2 x3 x4 x5 x6 x7 x8 x9
       obtain ⟨va, hva⟩ : ∃ va, wrw q5 0 [.int .i64 k, .int .i64 fr, .int .i64 tn, .int .i64 op, .int .i64 fo, .string key, .int .i64 bk, .slice tE LE cE, .slice tD LG cD, .slice tM LM cM] v = va := ⟨_, rfl⟩
       rw [hva] at Dq5 Dq6
       have hS9 : Off (fun _ => False) V va := by rw [← hva]; exact hS
       change wpAnyH _ _ _ _ _ _ _ _ (wrw q5 0 [.int .i64 k, .int .i64 fr, .int .i64 tn, .int .i64 op, .int .i64 fo, .string key, .int .i64 bk, .slice tE LE cE, .slice tD LG cD, .slice tM LM cM] v)
       rw [hva]
       clear hva hS
       have hS := hS9
       clear hS9
       obtain ⟨x0, x1, x2, x3, x4, x5, x6, x7, x8, x9⟩ := celw10 Dq6
       have fz := Dq6.free
       refine wpAnyH_ready (rs := [7]) (by kernel_rfl) (by simp) ?_
       refine AllReadyH.cons rfl (fun K' hK' => ?_) AllReadyH.nil
       go_simp
       have hS5 := off_wrw (g := q6) (us := [.int .i64 k, .int .i64 fr, .int .i64 tn, .int .i64 op, .int .i64 fo, .string key, .int .i64 bk, .slice ea LE ec, .slice da LG dc, .slice ma LM mc]) (o := 0) hS (.inr Hq6.out)
       refine hK'.out _ _ hS5 (fun hS => ?_)
       clear hK' K' hS5
       replace Dq5 := Dq5.off (off_wrw (D := fun c => c = q6) (g := q6) (us := [.int .i64 k, .int .i64 fr, .int .i64 tn, .int .i64 op, .int .i64 fo, .string key, .int .i64 bk, .slice ea LE ec, .slice da LG dc, .slice ma LM mc]) (o := 0) (Off.refl _ _) (.inl rfl)) (fun e => HNE5.out e)
       replace Dq6 := Dq6.wrwAll (vs := [.int .i64 k, .int .i64 fr, .int .i64 tn, .int .i64 op, .int .i64 fo, .string key, .int .i64 bk, .slice ea LE ec, .slice da LG dc, .slice ma LM mc]) rfl
       clear fz x0 x1 x2 x3 x4 x5 x6 x7 x8 x9
       refine wpAnyH_done (by kernel_rfl) ?_ _
       have HF5 : Hid _ := Dq5
       have HF6 : Hid _ := Dq6
       have HSF : Hid _ := hS
       clear hS Dq5 Dq6
       go_wp2_with fail
       go_meet
       case rel => exact ⟨q5, q6, tE, cE, tD, cD, tM, cM, rfl, rfl, HF5.out, HF6.out, HSF.out⟩
     ·go_simp
      have hS1 := hS.size
      refine hK'.out _ _ (hS.alloc _) (fun hS => ?_)
      clear hK' K'
      have Dq5 := Cel.new vq6 26 #[.int .i64 0, .int .i64 0, .int .i64 0, .int .i64 0, .int .i64 0, .string ⟨#[]⟩, .int .i64 0, .slice none 0 0, .slice none 0 0, .slice none 0 0]
      have ON := (Off.refl (fun _ => False) vq6).alloc (.cells #[.int .i64 0, .int .i64 0, .int .i64 0, .int .i64 0, .int .i64 0, .string ⟨#[]⟩, .int .i64 0, .slice none 0 0, .slice none 0 0, .slice none 0 0] 26)
      obtain ⟨q5, hq5⟩ : ∃ q, q = vq6.heap.size := ⟨_, rfl⟩
      rw [← hq5] at Dq5 ⊢
      have Hq5 : Hid (V.heap.size ≤ q5) := by show _ ≤ _; omega
      generalize hv9 : vq6.alloc (.cells #[.int .i64 0, .int .i64 0, .int .i64 0, .int .i64 0, .int .i64 0, .string ⟨#[]⟩, .int .i64 0, .slice none 0 0, .slice none 0 0, .slice none 0 0] 26) = vq5 at Dq5 ON hS ⊢
      have HNE : Hid (q6 ≠ q5) := by have := Dq6.lt; show _ ≠ _; omega
      replace Dq6 := Dq6.off ON (fun h => h)
      clear hv9 hq5 ON hS1
      refine wpAnyH_ready (rs := [1]) (by kernel_rfl) (by simp) ?_
      refine AllReadyH.cons rfl (fun K' hK' => ?_) AllReadyH.nil
      go_simp
      refine (HPL.out _ hS).mono ?_
      rintro e v ⟨tE, cE, tD, cD, tM, cM, rfl, -, o⟩
      refine hK'.out _ _ (hS.trans o (fun _ _ h => h)) (fun hS => ?_)
      clear hK' K'
      replace Dq6 := Dq6.off o (fun h => h)
      replace Dq5 := Dq5.off o (fun h => h)
      clear o
      refine wpAnyH_ready (rs := [3]) (by kernel_rfl) (by simp) ?_
      refine AllReadyH.cons rfl (fun K' hK' => ?_) AllReadyH.nil
      go_simp
      refine (HZP.out _ hS).mono ?_
      rintro e v ⟨rfl, o⟩
      refine hK'.out _ _ (hS.trans o (fun _ _ h => h)) (fun hS => ?_)
      clear hK' K'
      replace Dq6 := Dq6.off o (fun h => h)
      replace Dq5 := Dq5.off o (fun h => h)
      clear o
      have HNE5 : Hid (q5 ≠ q6) := by first | exact HNE | exact fun e => HNE.out e.symm
      obtain ⟨x0, x1, x2, x3, x4, x5, x6, x7, x8, x9⟩ := celw10 Dq5
      have fz := Dq5.free
      refine wpAnyH_ready (rs := [6]) (by kernel_rfl) (by simp) ?_
      refine AllReadyH.cons rfl (fun K' hK' => ?_) AllReadyH.nil
      go_simp
      have hS5 := off_wrw (g := q5) (us := [.int .i64 k, .int .i64 fr, .int .i64 tn, .int .i64 op, .int .i64 fo, .string key, .int .i64 bk, .slice tE LE cE, .slice tD LG cD, .slice tM LM cM]) (o := 0) hS (.inr Hq5.out)
      refine hK'.out _ _ hS5 (fun hS => ?_)
      clear hK' K' hS5
      replace Dq6 := Dq6.off (off_wrw (D := fun c => c = q5) (g := q5) (us := [.int .i64 k, .int .i64 fr, .int .i64 tn, .int .i64 op, .int .i64 fo, .string key, .int .i64 bk, .slice tE LE cE, .slice tD LG cD, .slice tM LM cM]) (o := 0) (Off.refl _ _) (.inl rfl)) (fun e => HNE5.out e.symm)
      replace Dq5 := Dq5.wrwAll (vs := [.int .i64 k, .int .i64 fr, .int .i64 tn, .int .i64 op, .int .i64 fo, .string key, .int .i64 bk, .slice tE LE cE, .slice tD LG cD, .slice tM LM cM]) rfl
      clear fz x0 x1 x2 x3 x4 x5 x6 x7 x8 x9
      obtain ⟨va, hva⟩ : ∃ va, wrw q5 0 [.int .i64 k, .int .i64 fr, .int .i64 tn, .int .i64 op, .int .i64 fo, .string key, .int .i64 bk, .slice tE LE cE, .slice tD LG cD, .slice tM LM cM] v = va := ⟨_, rfl⟩
      rw [hva] at Dq5 Dq6
      have hS9 : Off (fun _ => False) V va := by rw [← hva]; exact hS
      change wpAnyH _ _ _ _ _ _ _ _ (wrw q5 0 [.int .i64 k, .int .i64 fr, .int .i64 tn, .int .i64 op, .int .i64 fo, .string key, .int .i64 bk, .slice tE LE cE, .slice tD LG cD, .slice tM LM cM] v)
      rw [hva]
      clear hva hS
      have hS := hS9
      clear hS9
      obtain ⟨x0, x1, x2, x3, x4, x5, x6, x7, x8, x9⟩ := celw10 Dq6
      have fz := Dq6.free
      refine wpAnyH_ready (rs := [7]) (by kernel_rfl) (by simp) ?_
      refine AllReadyH.cons rfl (fun K' hK' => ?_) AllReadyH.nil
      go_simp
      have hS5 := off_wrw (g := q6) (us := [.int .i64 k, .int .i64 fr, .int .i64 tn, .int .i64 op, .int .i64 fo, .string key, .int .i64 bk, .slice ea LE ec, .slice da LG dc, .slice ma LM mc]) (o := 0) hS (.inr Hq6.out)
      refine hK'.out _ _ hS5 (fun hS => ?_)
      clear hK' K' hS5
      replace Dq5 := Dq5.off (off_wrw (D := fun c => c = q6) (g := q6) (us := [.int .i64 k, .int .i64 fr, .int .i64 tn, .int .i64 op, .int .i64 fo, .string key, .int .i64 bk, .slice ea LE ec, .slice da LG dc, .slice ma LM mc]) (o := 0) (Off.refl _ _) (.inl rfl)) (fun e => HNE5.out e)
      replace Dq6 := Dq6.wrwAll (vs := [.int .i64 k, .int .i64 fr, .int .i64 tn, .int .i64 op, .int .i64 fo, .string key, .int .i64 bk, .slice ea LE ec, .slice da LG dc, .slice ma LM mc]) rfl
      clear fz x0 x1 x2 x3 x4 x5 x6 x7 x8 x9
      refine wpAnyH_done (by kernel_rfl) ?_ _
      have HF5 : Hid _ := Dq5
      have HF6 : Hid _ := Dq6
      have HSF : Hid _ := hS
      clear hS Dq5 Dq6
      go_wp2_with fail
      go_meet
      case rel => exact ⟨q5, q6, tE, cE, tD, cD, tM, cM, rfl, rfl, HF5.out, HF6.out, HSF.out⟩
   case rest =>
    obtain ⟨q5, q6, tE, cE, tD, cD, tM, cM, rfl, rfl, c5, c6, oc⟩ := hcut
    obtain ⟨x0, x1, x2, x3, x4, x5, x6, x7, x8, x9⟩ := celw10 c5
    obtain ⟨y0, y1, y2, y3, y4, y5, y6, y7, y8, y9⟩ := celw10 c6
    have HOC : Hid _ := oc
    clear c5 c6 oc
    go_upto_region 4 with fail
    refine wp_region_lit ?_
    refine wpl_t 20 (v := .pointer (some ⟨q5, 0, none⟩)) (by kernel_rfl) rfl (by go_simp) ?_
    simp only [Act.put, lsA, lsZ, lsS]
    refine wpl_t 21 (v := .int .i64 k) (by kernel_rfl) rfl (by go_simp) ?_
    simp only [Act.put, lsA, lsZ, lsS]
    refine wpl_t 22 (v := .pointer (some ⟨q6, 0, none⟩)) (by kernel_rfl) rfl (by go_simp) ?_
    simp only [Act.put, lsA, lsZ, lsS]
    refine wpl_t 23 (v := .int .i64 k) (by kernel_rfl) rfl (by go_simp) ?_
    simp only [Act.put, lsA, lsZ, lsS]
    refine wpl_t 24 (v := .bool false) (by kernel_rfl) rfl (by go_simp) ?_
    simp only [Act.put, lsA, lsZ, lsS]
    refine wpl_t 25 (v := .bool false) (by kernel_rfl) rfl (by go_simp) ?_
    simp only [Act.put, lsA, lsZ, lsS]
    refine wpl_t 26 (v := .pointer (some ⟨q5, 1, none⟩)) (by kernel_rfl) rfl (by go_simp) ?_
    simp only [Act.put, lsA, lsZ, lsS]
    refine wpl_t 27 (v := .int .i64 fr) (by kernel_rfl) rfl (by go_simp) ?_
    simp only [Act.put, lsA, lsZ, lsS]
    refine wpl_t 28 (v := .pointer (some ⟨q6, 1, none⟩)) (by kernel_rfl) rfl (by go_simp) ?_
    simp only [Act.put, lsA, lsZ, lsS]
    refine wpl_t 29 (v := .int .i64 fr) (by kernel_rfl) rfl (by go_simp) ?_
    simp only [Act.put, lsA, lsZ, lsS]
    refine wpl_t 30 (v := .bool false) (by kernel_rfl) rfl (by go_simp) ?_
    simp only [Act.put, lsA, lsZ, lsS]
    refine wpl_t 31 (v := .bool false) (by kernel_rfl) rfl (by go_simp) ?_
    simp only [Act.put, lsA, lsZ, lsS]
    refine wpl_t 32 (v := .bool false) (by kernel_rfl) rfl (by go_simp) ?_
    simp only [Act.put, lsA, lsZ, lsS]
    refine wpl_t 33 (v := .pointer (some ⟨q5, 2, none⟩)) (by kernel_rfl) rfl (by go_simp) ?_
    simp only [Act.put, lsA, lsZ, lsS]
    refine wpl_t 34 (v := .int .i64 tn) (by kernel_rfl) rfl (by go_simp) ?_
    simp only [Act.put, lsA, lsZ, lsS]
    refine wpl_t 35 (v := .pointer (some ⟨q6, 2, none⟩)) (by kernel_rfl) rfl (by go_simp) ?_
    simp only [Act.put, lsA, lsZ, lsS]
    refine wpl_t 36 (v := .int .i64 tn) (by kernel_rfl) rfl (by go_simp) ?_
    simp only [Act.put, lsA, lsZ, lsS]
    refine wpl_t 37 (v := .bool false) (by kernel_rfl) rfl (by go_simp) ?_
    simp only [Act.put, lsA, lsZ, lsS]
    refine wpl_t 38 (v := .bool false) (by kernel_rfl) rfl (by go_simp) ?_
    simp only [Act.put, lsA, lsZ, lsS]
    refine wpl_t 39 (v := .bool false) (by kernel_rfl) rfl (by go_simp) ?_
    simp only [Act.put, lsA, lsZ, lsS]
    refine wpl_t 40 (v := .pointer (some ⟨q5, 3, none⟩)) (by kernel_rfl) rfl (by go_simp) ?_
    simp only [Act.put, lsA, lsZ, lsS]
    refine wpl_t 41 (v := .int .i64 op) (by kernel_rfl) rfl (by go_simp) ?_
    simp only [Act.put, lsA, lsZ, lsS]
    refine wpl_t 42 (v := .pointer (some ⟨q6, 3, none⟩)) (by kernel_rfl) rfl (by go_simp) ?_
    simp only [Act.put, lsA, lsZ, lsS]
    refine wpl_t 43 (v := .int .i64 op) (by kernel_rfl) rfl (by go_simp) ?_
    simp only [Act.put, lsA, lsZ, lsS]
    refine wpl_t 44 (v := .bool false) (by kernel_rfl) rfl (by go_simp) ?_
    simp only [Act.put, lsA, lsZ, lsS]
    refine wpl_t 45 (v := .bool false) (by kernel_rfl) rfl (by go_simp) ?_
    simp only [Act.put, lsA, lsZ, lsS]
    refine wpl_t 46 (v := .bool false) (by kernel_rfl) rfl (by go_simp) ?_
    simp only [Act.put, lsA, lsZ, lsS]
    refine wpl_t 47 (v := .pointer (some ⟨q5, 4, none⟩)) (by kernel_rfl) rfl (by go_simp) ?_
    simp only [Act.put, lsA, lsZ, lsS]
    refine wpl_t 48 (v := .int .i64 fo) (by kernel_rfl) rfl (by go_simp) ?_
    simp only [Act.put, lsA, lsZ, lsS]
    refine wpl_t 49 (v := .pointer (some ⟨q6, 4, none⟩)) (by kernel_rfl) rfl (by go_simp) ?_
    simp only [Act.put, lsA, lsZ, lsS]
    refine wpl_t 50 (v := .int .i64 fo) (by kernel_rfl) rfl (by go_simp) ?_
    simp only [Act.put, lsA, lsZ, lsS]
    refine wpl_t 51 (v := .bool false) (by kernel_rfl) rfl (by go_simp) ?_
    simp only [Act.put, lsA, lsZ, lsS]
    refine wpl_t 52 (v := .bool false) (by kernel_rfl) rfl (by go_simp) ?_
    simp only [Act.put, lsA, lsZ, lsS]
    refine wpl_t 53 (v := .bool false) (by kernel_rfl) rfl (by go_simp) ?_
    simp only [Act.put, lsA, lsZ, lsS]
    refine wpl_t 54 (v := .pointer (some ⟨q5, 5, none⟩)) (by kernel_rfl) rfl (by go_simp) ?_
    simp only [Act.put, lsA, lsZ, lsS]
    refine wpl_t 55 (v := .string key) (by kernel_rfl) rfl (by go_simp) ?_
    simp only [Act.put, lsA, lsZ, lsS]
    refine wpl_t 56 (v := .pointer (some ⟨q6, 5, none⟩)) (by kernel_rfl) rfl (by go_simp) ?_
    simp only [Act.put, lsA, lsZ, lsS]
    refine wpl_t 57 (v := .string key) (by kernel_rfl) rfl (by go_simp) ?_
    simp only [Act.put, lsA, lsZ, lsS]
    refine wpl_t 58 (v := .bool false) (by kernel_rfl) rfl (by go_simp) ?_
    simp only [Act.put, lsA, lsZ, lsS]
    refine wpl_t 59 (v := .bool false) (by kernel_rfl) rfl (by go_simp) ?_
    simp only [Act.put, lsA, lsZ, lsS]
    refine wpl_t 60 (v := .bool false) (by kernel_rfl) rfl (by go_simp) ?_
    simp only [Act.put, lsA, lsZ, lsS]
    refine wpl_t 61 (v := .pointer (some ⟨q5, 6, none⟩)) (by kernel_rfl) rfl (by go_simp) ?_
    simp only [Act.put, lsA, lsZ, lsS]
    refine wpl_t 62 (v := .int .i64 bk) (by kernel_rfl) rfl (by go_simp) ?_
    simp only [Act.put, lsA, lsZ, lsS]
    refine wpl_t 63 (v := .pointer (some ⟨q6, 6, none⟩)) (by kernel_rfl) rfl (by go_simp) ?_
    simp only [Act.put, lsA, lsZ, lsS]
    refine wpl_t 64 (v := .int .i64 bk) (by kernel_rfl) rfl (by go_simp) ?_
    simp only [Act.put, lsA, lsZ, lsS]
    refine wpl_t 65 (v := .bool false) (by kernel_rfl) rfl (by go_simp) ?_
    simp only [Act.put, lsA, lsZ, lsS]
    refine wpl_t 66 (v := .bool false) (by kernel_rfl) rfl (by go_simp) ?_
    simp only [Act.put, lsA, lsZ, lsS]
    refine wpl_t 67 (v := .bool false) (by kernel_rfl) rfl (by go_simp) ?_
    simp only [Act.put, lsA, lsZ, lsS]
    refine wpl_t 68 (v := .pointer (some ⟨q5, 7, none⟩)) (by kernel_rfl) rfl (by go_simp) ?_
    simp only [Act.put, lsA, lsZ, lsS]
    refine wpl_t 69 (v := .slice tE LE cE) (by kernel_rfl) rfl (by go_simp) ?_
    simp only [Act.put, lsA, lsZ, lsS]
    refine wpl_t 70 (v := .int .i64 (LE : Int)) (by kernel_rfl) rfl (by go_simp) ?_
    simp only [Act.put, lsA, lsZ, lsS]
    refine wpl_t 71 (v := .pointer (some ⟨q6, 7, none⟩)) (by kernel_rfl) rfl (by go_simp) ?_
    simp only [Act.put, lsA, lsZ, lsS]
    refine wpl_t 72 (v := .slice ea LE ec) (by kernel_rfl) rfl (by go_simp) ?_
    simp only [Act.put, lsA, lsZ, lsS]
    refine wpl_t 73 (v := .int .i64 (LE : Int)) (by kernel_rfl) rfl (by go_simp) ?_
    simp only [Act.put, lsA, lsZ, lsS]
    refine wpl_t 74 (v := .bool false) (by kernel_rfl) rfl (by go_simp) ?_
    simp only [Act.put, lsA, lsZ, lsS]
    refine wpl_t 75 (v := .bool false) (by kernel_rfl) rfl (by go_simp) ?_
    simp only [Act.put, lsA, lsZ, lsS]
    refine wpl_t 76 (v := .bool false) (by kernel_rfl) rfl (by go_simp) ?_
    simp only [Act.put, lsA, lsZ, lsS]
    refine wpl_t 77 (v := .pointer (some ⟨q5, 8, none⟩)) (by kernel_rfl) rfl (by go_simp) ?_
    simp only [Act.put, lsA, lsZ, lsS]
    refine wpl_t 78 (v := .slice tD LG cD) (by kernel_rfl) rfl (by go_simp) ?_
    simp only [Act.put, lsA, lsZ, lsS]
    refine wpl_t 79 (v := .int .i64 (LG : Int)) (by kernel_rfl) rfl (by go_simp) ?_
    simp only [Act.put, lsA, lsZ, lsS]
    refine wpl_t 80 (v := .pointer (some ⟨q6, 8, none⟩)) (by kernel_rfl) rfl (by go_simp) ?_
    simp only [Act.put, lsA, lsZ, lsS]
    refine wpl_t 81 (v := .slice da LG dc) (by kernel_rfl) rfl (by go_simp) ?_
    simp only [Act.put, lsA, lsZ, lsS]
    refine wpl_t 82 (v := .int .i64 (LG : Int)) (by kernel_rfl) rfl (by go_simp) ?_
    simp only [Act.put, lsA, lsZ, lsS]
    refine wpl_t 83 (v := .bool false) (by kernel_rfl) rfl (by go_simp) ?_
    simp only [Act.put, lsA, lsZ, lsS]
    refine wpl_t 84 (v := .bool false) (by kernel_rfl) rfl (by go_simp) ?_
    simp only [Act.put, lsA, lsZ, lsS]
    refine wpl_t 85 (v := .bool false) (by kernel_rfl) rfl (by go_simp) ?_
    simp only [Act.put, lsA, lsZ, lsS]
    refine wpl_t 86 (v := .pointer (some ⟨q5, 9, none⟩)) (by kernel_rfl) rfl (by go_simp) ?_
    simp only [Act.put, lsA, lsZ, lsS]
    refine wpl_t 87 (v := .slice tM LM cM) (by kernel_rfl) rfl (by go_simp) ?_
    simp only [Act.put, lsA, lsZ, lsS]
    refine wpl_t 88 (v := .int .i64 (LM : Int)) (by kernel_rfl) rfl (by go_simp) ?_
    simp only [Act.put, lsA, lsZ, lsS]
    refine wpl_t 89 (v := .pointer (some ⟨q6, 9, none⟩)) (by kernel_rfl) rfl (by go_simp) ?_
    simp only [Act.put, lsA, lsZ, lsS]
    refine wpl_t 90 (v := .slice ma LM mc) (by kernel_rfl) rfl (by go_simp) ?_
    simp only [Act.put, lsA, lsZ, lsS]
    refine wpl_t 91 (v := .int .i64 (LM : Int)) (by kernel_rfl) rfl (by go_simp) ?_
    simp only [Act.put, lsA, lsZ, lsS]
    refine wpl_t 92 (v := .bool false) (by kernel_rfl) rfl (by go_simp) ?_
    simp only [Act.put, lsA, lsZ, lsS]
    refine wpl_t 93 (v := .bool false) (by kernel_rfl) rfl (by go_simp) ?_
    simp only [Act.put, lsA, lsZ, lsS]
    unfold wpList
    clear x0 x1 x2 x3 x4 x5 x6 x7 x8 x9 y0 y1 y2 y3 y4 y5 y6 y7 y8 y9
    go_upto_region 6 with fail
    refine wp_region_held_drew (S := Off (fun _ => False) V) (by kernel_rfl) HOC.out.drew (fun hS => ?_)
    refine take_at (i := 0) 94 (v := (.agg #[.int .i64 m.k, .int .i64 m.fr, .int .i64 m.tn, .int .i64 m.op, .int .i64 m.fo, .string m.key, .int .i64 m.bk, .slice m.ea m.el m.ec, .slice m.da m.dl m.dc, .slice m.ma m.ml m.mc])) rfl rfl (by kernel_rfl) (by kernel_rfl) (by kernel_rfl) (fun _ _ _ h => h) (Or.inl ⟨by rfl, fun w' hw' => by obtain ⟨x0, x1, x2, x3, x4, x5, x6, x7, x8, x9⟩ := celw10 (HB2.out.off hw' (fun h => h)); go_simp⟩) hS ?_
    simp only [Act.put, lsA, lsZ, lsS]
    refine take_at (i := 2) 96 (v := (.agg #[.int .i64 m.k, .int .i64 m.fr, .int .i64 m.tn, .int .i64 m.op, .int .i64 m.fo, .string m.key, .int .i64 m.bk, .slice m.ea m.el m.ec, .slice m.da m.dl m.dc, .slice m.ma m.ml m.mc])) rfl rfl (by kernel_rfl) (by kernel_rfl) (by kernel_rfl) (fun _ _ _ h => h) (Or.inl ⟨by rfl, fun w' hw' => by obtain ⟨x0, x1, x2, x3, x4, x5, x6, x7, x8, x9⟩ := celw10 (HB2.out.off hw' (fun h => h)); go_simp⟩) hS ?_
    simp only [Act.put, lsA, lsZ, lsS]
    refine wpAnyH_ready (rs := [1]) (by kernel_rfl) (by simp) ?_
    refine AllReadyH.cons rfl (fun K' hK' => ?_) AllReadyH.nil
    go_simp
    refine (HM1.out _ hS).mono ?_
    rintro e v ⟨⟨b1, rfl, hb1⟩, o⟩
    have HB1 : Hid (b1 = true ↔ P) := hb1
    clear hb1
    refine hK'.out _ _ (hS.trans o (fun _ _ h => h)) (fun hS => ?_)
    clear hK' K' o
    refine wpAnyH_ready (rs := [3]) (by kernel_rfl) (by simp) ?_
    refine AllReadyH.cons rfl (fun K' hK' => ?_) AllReadyH.nil
    go_simp
    refine (HM2.out _ hS).mono ?_
    rintro e v ⟨⟨b2, rfl, hb2⟩, o⟩
    have HE12 : Hid ((b1 == b2) = true) := by show _ = _; rw [beq_iff_eq, Bool.eq_iff_iff, HB1.out, hb2]
    clear hb2
    refine hK'.out _ _ (hS.trans o (fun _ _ h => h)) (fun hS => ?_)
    clear hK' K' o
    refine take_at (i := 4) 98 (v := .bool true) rfl rfl (by kernel_rfl) (by kernel_rfl) (by kernel_rfl) (fun _ _ _ h => h) (Or.inl ⟨by rfl, fun w' hw' => by have hh : (b1 == b2) = true := HE12.out; go_simp⟩) hS ?_
    simp only [Act.put, lsA, lsZ, lsS]
    refine take_at (i := 5) 99 (v := .bool true) rfl rfl (by kernel_rfl) (by kernel_rfl) (by kernel_rfl) (fun _ _ _ h => h) (Or.inl ⟨by rfl, fun w' hw' => by go_simp⟩) hS ?_
    simp only [Act.put, lsA, lsZ, lsS]
    refine take_at (i := 6) 100 (v := (.agg #[.int .i64 m.k, .int .i64 m.fr, .int .i64 m.tn, .int .i64 m.op, .int .i64 m.fo, .string m.key, .int .i64 m.bk, .slice m.ea m.el m.ec, .slice m.da m.dl m.dc, .slice m.ma m.ml m.mc])) rfl rfl (by kernel_rfl) (by kernel_rfl) (by kernel_rfl) (fun _ _ _ h => h) (Or.inl ⟨by rfl, fun w' hw' => by obtain ⟨x0, x1, x2, x3, x4, x5, x6, x7, x8, x9⟩ := celw10 (HB2.out.off hw' (fun h => h)); go_simp⟩) hS ?_
    simp only [Act.put, lsA, lsZ, lsS]
    refine take_at (i := 8) 102 (v := (.agg #[.int .i64 m.k, .int .i64 m.fr, .int .i64 m.tn, .int .i64 m.op, .int .i64 m.fo, .string m.key, .int .i64 m.bk, .slice m.ea m.el m.ec, .slice m.da m.dl m.dc, .slice m.ma m.ml m.mc])) rfl rfl (by kernel_rfl) (by kernel_rfl) (by kernel_rfl) (fun _ _ _ h => h) (Or.inl ⟨by rfl, fun w' hw' => by obtain ⟨x0, x1, x2, x3, x4, x5, x6, x7, x8, x9⟩ := celw10 (HB2.out.off hw' (fun h => h)); go_simp⟩) hS ?_
    simp only [Act.put, lsA, lsZ, lsS]
    refine wpAnyH_ready (rs := [7]) (by kernel_rfl) (by simp) ?_
    refine AllReadyH.cons rfl (fun K' hK' => ?_) AllReadyH.nil
    go_simp
    refine (HPL.out _ hS).mono ?_
    rintro e v ⟨pE, pcE, pD, pcD, pM, pcM, rfl, hpm, o⟩
    have HPM : Hid (∀ W, Off (fun _ => False) v W → Calls Try.prog 14 #[.agg #[.int .i64 k, .int .i64 fr, .int .i64 tn, .int .i64 op, .int .i64 fo, .string key, .int .i64 bk, .slice pE LE pcE, .slice pD LG pcD, .slice pM LM pcM], (.agg #[.int .i64 m.k, .int .i64 m.fr, .int .i64 m.tn, .int .i64 m.op, .int .i64 m.fo, .string m.key, .int .i64 m.bk, .slice m.ea m.el m.ec, .slice m.da m.dl m.dc, .slice m.ma m.ml m.mc])] W fun e w' => e = .returned (.bool true) ∧ Off (fun _ => False) W w') := hpm
    have HO9 : Hid (Off (fun _ => False) v v) := Off.refl _ v
    clear hpm
    refine hK'.out _ _ (hS.trans o (fun _ _ h => h)) (fun hS => ?_)
    clear hK' K' o
    refine wpAnyH_ready (rs := [9]) (by kernel_rfl) (by simp) ?_
    refine AllReadyH.cons rfl (fun K' hK' => ?_) AllReadyH.nil
    go_simp
    have HQ9 := HPM.out _ (Off.refl _ _)
    refine (HQ9).mono ?_
    clear HQ9
    rintro e v ⟨rfl, o⟩
    refine hK'.out _ _ (hS.trans o (fun _ _ h => h)) (fun hS => ?_)
    clear hK' K' o
    refine take_at (i := 10) 104 (v := .bool true) rfl rfl (by kernel_rfl) (by kernel_rfl) (by kernel_rfl) (fun _ _ _ h => h) (Or.inl ⟨by rfl, fun w' hw' => by go_simp⟩) hS ?_
    simp only [Act.put, lsA, lsZ, lsS]
    refine take_at (i := 11) 105 (v := .bool true) rfl rfl (by kernel_rfl) (by kernel_rfl) (by kernel_rfl) (fun _ _ _ h => h) (Or.inl ⟨by rfl, fun w' hw' => by go_simp⟩) hS ?_
    simp only [Act.put, lsA, lsZ, lsS]
    refine take_at (i := 12) 106 (v := (.agg #[.int .i64 m.k, .int .i64 m.fr, .int .i64 m.tn, .int .i64 m.op, .int .i64 m.fo, .string m.key, .int .i64 m.bk, .slice m.ea m.el m.ec, .slice m.da m.dl m.dc, .slice m.ma m.ml m.mc])) rfl rfl (by kernel_rfl) (by kernel_rfl) (by kernel_rfl) (fun _ _ _ h => h) (Or.inl ⟨by rfl, fun w' hw' => by obtain ⟨x0, x1, x2, x3, x4, x5, x6, x7, x8, x9⟩ := celw10 (HB2.out.off hw' (fun h => h)); go_simp⟩) hS ?_
    simp only [Act.put, lsA, lsZ, lsS]
    refine take_at (i := 13) 107 (v := (.agg #[.int .i64 n.k, .int .i64 n.fr, .int .i64 n.tn, .int .i64 n.op, .int .i64 n.fo, .string n.key, .int .i64 n.bk, .slice n.ea n.el n.ec, .slice n.da n.dl n.dc, .slice n.ma n.ml n.mc])) rfl rfl (by kernel_rfl) (by kernel_rfl) (by kernel_rfl) (fun _ _ _ h => h) (Or.inl ⟨by rfl, fun w' hw' => by obtain ⟨x0, x1, x2, x3, x4, x5, x6, x7, x8, x9⟩ := celw10 (HB3.out.off hw' (fun h => h)); go_simp⟩) hS ?_
    simp only [Act.put, lsA, lsZ, lsS]
    refine take_at (i := 15) 109 (v := (.agg #[.int .i64 m.k, .int .i64 m.fr, .int .i64 m.tn, .int .i64 m.op, .int .i64 m.fo, .string m.key, .int .i64 m.bk, .slice m.ea m.el m.ec, .slice m.da m.dl m.dc, .slice m.ma m.ml m.mc])) rfl rfl (by kernel_rfl) (by kernel_rfl) (by kernel_rfl) (fun _ _ _ h => h) (Or.inl ⟨by rfl, fun w' hw' => by obtain ⟨x0, x1, x2, x3, x4, x5, x6, x7, x8, x9⟩ := celw10 (HB2.out.off hw' (fun h => h)); go_simp⟩) hS ?_
    simp only [Act.put, lsA, lsZ, lsS]
    refine take_at (i := 16) 110 (v := (.agg #[.int .i64 n.k, .int .i64 n.fr, .int .i64 n.tn, .int .i64 n.op, .int .i64 n.fo, .string n.key, .int .i64 n.bk, .slice n.ea n.el n.ec, .slice n.da n.dl n.dc, .slice n.ma n.ml n.mc])) rfl rfl (by kernel_rfl) (by kernel_rfl) (by kernel_rfl) (fun _ _ _ h => h) (Or.inl ⟨by rfl, fun w' hw' => by obtain ⟨x0, x1, x2, x3, x4, x5, x6, x7, x8, x9⟩ := celw10 (HB3.out.off hw' (fun h => h)); go_simp⟩) hS ?_
    simp only [Act.put, lsA, lsZ, lsS]
    refine wpAnyH_ready (rs := [14]) (by kernel_rfl) (by simp) ?_
    refine AllReadyH.cons rfl (fun K' hK' => ?_) AllReadyH.nil
    go_simp
    refine (HS1.out _ hS).mono ?_
    rintro e v ⟨⟨b3, rfl, hb3⟩, o⟩
    have HB3b : Hid (b3 = true ↔ R) := hb3
    clear hb3
    refine hK'.out _ _ (hS.trans o (fun _ _ h => h)) (fun hS => ?_)
    clear hK' K' o
    refine wpAnyH_ready (rs := [17]) (by kernel_rfl) (by simp) ?_
    refine AllReadyH.cons rfl (fun K' hK' => ?_) AllReadyH.nil
    go_simp
    refine (HS2.out _ hS).mono ?_
    rintro e v ⟨⟨b4, rfl, hb4⟩, o⟩
    have HE34 : Hid ((b3 == b4) = true) := by show _ = _; rw [beq_iff_eq, Bool.eq_iff_iff, HB3b.out, hb4]
    clear hb4
    refine hK'.out _ _ (hS.trans o (fun _ _ h => h)) (fun hS => ?_)
    clear hK' K' o
    refine take_at (i := 18) 112 (v := .bool true) rfl rfl (by kernel_rfl) (by kernel_rfl) (by kernel_rfl) (fun _ _ _ h => h) (Or.inl ⟨by rfl, fun w' hw' => by have hh : (b3 == b4) = true := HE34.out; go_simp⟩) hS ?_
    simp only [Act.put, lsA, lsZ, lsS]
    refine take_at (i := 19) 113 (v := .bool true) rfl rfl (by kernel_rfl) (by kernel_rfl) (by kernel_rfl) (fun _ _ _ h => h) (Or.inl ⟨by rfl, fun w' hw' => by go_simp⟩) hS ?_
    simp only [Act.put, lsA, lsZ, lsS]
    refine take_at (i := 20) 114 (v := .bool true) rfl rfl (by kernel_rfl) (by kernel_rfl) (by kernel_rfl) (fun _ _ _ h => h) (Or.inl ⟨by rfl, fun w' hw' => by go_simp⟩) hS ?_
    simp only [Act.put, lsA, lsZ, lsS]
    refine take_at (i := 21) 115 (v := (.agg #[.int .i64 m.k, .int .i64 m.fr, .int .i64 m.tn, .int .i64 m.op, .int .i64 m.fo, .string m.key, .int .i64 m.bk, .slice m.ea m.el m.ec, .slice m.da m.dl m.dc, .slice m.ma m.ml m.mc])) rfl rfl (by kernel_rfl) (by kernel_rfl) (by kernel_rfl) (fun _ _ _ h => h) (Or.inl ⟨by rfl, fun w' hw' => by obtain ⟨x0, x1, x2, x3, x4, x5, x6, x7, x8, x9⟩ := celw10 (HB2.out.off hw' (fun h => h)); go_simp⟩) hS ?_
    simp only [Act.put, lsA, lsZ, lsS]
    refine take_at (i := 22) 116 (v := (.agg #[.int .i64 m.k, .int .i64 m.fr, .int .i64 m.tn, .int .i64 m.op, .int .i64 m.fo, .string m.key, .int .i64 m.bk, .slice m.ea m.el m.ec, .slice m.da m.dl m.dc, .slice m.ma m.ml m.mc])) rfl rfl (by kernel_rfl) (by kernel_rfl) (by kernel_rfl) (fun _ _ _ h => h) (Or.inl ⟨by rfl, fun w' hw' => by obtain ⟨x0, x1, x2, x3, x4, x5, x6, x7, x8, x9⟩ := celw10 (HB2.out.off hw' (fun h => h)); go_simp⟩) hS ?_
    simp only [Act.put, lsA, lsZ, lsS]
    refine wpAnyH_ready (rs := [23]) (by kernel_rfl) (by simp) ?_
    refine AllReadyH.cons rfl (fun K' hK' => ?_) AllReadyH.nil
    go_simp
    refine (HZP.out _ hS).mono ?_
    rintro e v ⟨rfl, o⟩
    refine hK'.out _ _ (hS.trans o (fun _ _ h => h)) (fun hS => ?_)
    clear hK' K' o
    refine wpAnyH_ready (rs := [24]) (by kernel_rfl) (by simp) ?_
    refine AllReadyH.cons rfl (fun K' hK' => ?_) AllReadyH.nil
    go_simp
    refine (HS3.out _ hS).mono ?_
    rintro e v ⟨rfl, o⟩
    refine hK'.out _ _ (hS.trans o (fun _ _ h => h)) (fun hS => ?_)
    clear hK' K' o
    refine take_at (i := 25) 119 (v := .bool true) rfl rfl (by kernel_rfl) (by kernel_rfl) (by kernel_rfl) (fun _ _ _ h => h) (Or.inl ⟨by rfl, fun w' hw' => by go_simp⟩) hS ?_
    simp only [Act.put, lsA, lsZ, lsS]
    refine take_at (i := 26) 120 (v := .bool true) rfl rfl (by kernel_rfl) (by kernel_rfl) (by kernel_rfl) (fun _ _ _ h => h) (Or.inl ⟨by rfl, fun w' hw' => by go_simp⟩) hS ?_
    simp only [Act.put, lsA, lsZ, lsS]
    refine wpAnyH_ready (rs := [27]) (by kernel_rfl) (by simp) ?_
    refine AllReadyH.cons rfl (fun K' hK' => ?_) AllReadyH.nil
    go_simp
    refine (awake_any _).mono ?_
    rintro e v ⟨rfl, o⟩
    refine hK'.out _ _ (hS.trans o (fun _ _ h => h)) (fun hS => ?_)
    clear hK' K' o
    refine take_at (i := 28) 122 (v := .bool true) rfl rfl (by kernel_rfl) (by kernel_rfl) (by kernel_rfl) (fun _ _ _ h => h) (Or.inl ⟨by rfl, fun w' hw' => by go_simp⟩) hS ?_
    simp only [Act.put, lsA, lsZ, lsS]
    refine take_at (i := 29) 4 (v := .bool true) rfl rfl (by kernel_rfl) (by kernel_rfl) (by kernel_rfl) (fun _ _ _ h => h) (Or.inl ⟨by rfl, fun w' hw' => by go_simp⟩) hS ?_
    simp only [Act.put, lsA, lsZ, lsS]
    refine wpAnyH_done (by kernel_rfl) ?_ _
    have HSF : Hid _ := hS
    clear hS
    go_wp2_with fail
    go_ret
    exact ⟨rfl, HO.out.trans HSF.out (fun _ _ h => h)⟩
theorem may_walk (m : Mg) (es : List E) (gs : List G) (ms : List (Int × Int)) (n : Mg) (e2 : List E) (g2 : List G) (m2 : List (Int × Int)) (w : World) (h : MsgAt w m es gs ms) (h2 : MsgAt w n e2 g2 m2) :
  Calls Try.prog 3 #[(.agg #[.int .i64 m.k, .int .i64 m.fr, .int .i64 m.tn, .int .i64 m.op, .int .i64 m.fo, .string m.key, .int .i64 m.bk, .slice m.ea m.el m.ec, .slice m.da m.dl m.dc, .slice m.ma m.ml m.mc]), (.agg #[.int .i64 n.k, .int .i64 n.fr, .int .i64 n.tn, .int .i64 n.op, .int .i64 n.fo, .string n.key, .int .i64 n.bk, .slice n.ea n.el n.ec, .slice n.da n.dl n.dc, .slice n.ma n.ml n.mc])] w fun e w' => e = .returned (.bool true) ∧ Off (fun _ => False) w w' := by
 obtain ⟨V, hV⟩ : ∃ V, V = (w.alloc (.cells #[.int .i64 m.k, .int .i64 m.fr, .int .i64 m.tn, .int .i64 m.op, .int .i64 m.fo, .string m.key, .int .i64 m.bk, .slice m.ea m.el m.ec, .slice m.da m.dl m.dc, .slice m.ma m.ml m.mc] 26)).alloc (.cells #[.int .i64 n.k, .int .i64 n.fr, .int .i64 n.tn, .int .i64 n.op, .int .i64 n.fo, .string n.key, .int .i64 n.bk, .slice n.ea n.el n.ec, .slice n.da n.dl n.dc, .slice n.ma n.ml n.mc] 26) := ⟨_, rfl⟩
 have O : Off (fun _ => False) w V := by rw [hV]; exact ((Off.refl _ w).alloc _).alloc _
 have hm := h.off O
 have hn := h2.off O
 refine may_core m n w V (Light es gs ms) (Light e2 g2 m2) hV (fun W o => light_any m es gs ms W (hm.off o)) (fun W o => light_any n e2 g2 m2 W (hn.off o)) (fun hl => ?_)
 obtain ⟨s, hs⟩ : ∃ s, s = msk m.k := ⟨_, rfl⟩
 have hX := hm.plain s
 have hln := light_len s hl
 have a1 := hX.el
 have a2 := hX.dl
 have a3 := hX.ml
 refine ⟨MayM (mdM m es gs ms), nfM m es gs ms = nfM n e2 g2 m2, (plM s m).k, (plM s m).fr, (plM s m).tn, (plM s m).op, (plM s m).fo, (plM s m).key, (plM s m).bk, (cond s.es es []).length, (cond s.gs gs []).length, (cond s.ms ms []).length, (plM s m).ea, (plM s m).ec, (plM s m).da, (plM s m).dc, (plM s m).ma, (plM s m).mc,
  fun W o => xmay_any m es gs ms W (hm.off o), fun W o => zmay_any m es gs ms W (hm.off o), fun W o => ?_, fun W o => ?_, fun W o => xsame_any m n es e2 gs g2 ms m2 W (hm.off o) (hn.off o), fun W o => ?_, fun W o => ?_⟩
 ·refine (xPlain_core m (plM s m) _ _ _ W (hX.off o) (fun U => by rw [hs]; exact xbare_any m U) hln).mono ?_
  rintro e w1 ⟨tE, cE, ks, tD, cD, hds, tM, cM, he, hc, o1⟩
  have l1 := map_length_eq hc.es
  have l2 := map_length_eq hc.gs
  rw [l1, l2] at he
  refine ⟨tE, cE, tD, cD, tM, cM, he, fun U ou => ?_, o1⟩
  obtain ⟨c1, c2, c3⟩ := hc.at_ U (ou.mono (fun _ _ h => h.elim))
  have hP : MsgAt U (⟨(plM s m).k, (plM s m).fr, (plM s m).tn, (plM s m).op, (plM s m).fo, (plM s m).key, (plM s m).bk, tE, (cond s.es es []).length, cE, tD, (cond s.gs gs []).length, cD, tM, (cond s.ms ms []).length, cM⟩ : Mg) ks hds (cond s.ms ms []) := ⟨c1, l1.symm, c2, l2.symm, c3, rfl⟩
  refine (same_any _ m _ es _ gs _ ms U hP (hm.off ((o.trans o1 (fun _ _ h => h)).trans ou (fun _ _ h => h)))).mono ?_
  rintro e w2 ⟨b, he, hb, o2⟩
  have := hb.2 (plain_nf s m _ es ks gs hds ms _ hs.symm rfl rfl rfl rfl rfl rfl rfl hc.es hc.gs rfl)
  subst this
  exact ⟨he, o2⟩
 ·refine (plain_any m W).mono ?_
  rintro e w1 ⟨he, o1⟩
  rw [← hs, a1, a2, a3] at he
  exact ⟨he, o1⟩
 ·refine (same_any m n es e2 gs g2 ms m2 W (hm.off o) (hn.off o)).mono ?_
  rintro e w1 ⟨b, he, hb, o1⟩
  exact ⟨⟨b, he, hb⟩, o1⟩
 ·have hP : MsgAt W (⟨(plM s m).k, (plM s m).fr, (plM s m).tn, (plM s m).op, (plM s m).fo, (plM s m).key, (plM s m).bk, (plM s m).ea, (cond s.es es []).length, (plM s m).ec, (plM s m).da, (cond s.gs gs []).length, (plM s m).dc, (plM s m).ma, (cond s.ms ms []).length, (plM s m).mc⟩ : Mg) (cond s.es es []) (cond s.gs gs []) (cond s.ms ms []) := ⟨(hX.off o).ens, rfl, (hX.off o).dgs, rfl, (hX.off o).mbs, rfl⟩
  refine (xsame_any m _ es _ gs _ ms _ W (hm.off o) hP).mono ?_
  rintro e w1 ⟨⟨b, he, hb⟩, o1⟩
  have := hb.2 (plain_nf s m (⟨(plM s m).k, (plM s m).fr, (plM s m).tn, (plM s m).op, (plM s m).fo, (plM s m).key, (plM s m).bk, (plM s m).ea, (cond s.es es []).length, (plM s m).ec, (plM s m).da, (cond s.gs gs []).length, (plM s m).dc, (plM s m).ma, (cond s.ms ms []).length, (plM s m).mc⟩ : Mg) es _ gs _ ms _ hs.symm rfl rfl rfl rfl rfl rfl rfl rfl rfl rfl).symm
  subst this
  exact ⟨he, o1⟩
end Go.Proofs.Ytmbphlkohlggfaa
