/- Items of several texts. -/
import Derived.Test.YthjbnpaghiojlaaGreatQLpt
namespace Go.Proofs.YthjbnpaghiojlaaGreat
open Go.RowKit
def joinB (most : Nat) (rs : List (List Nat)) (s : PS) (k : K) : Bool := decide (joinC s k = 0) && (chE most rs s ⟨1, 0, k⟩ == 0)
def unhC (most : Nat) (rs : List (List Nat)) (s : PS) (node : Int) (key : ByteArray) (f : Nat → Int) (l : List A) : Bool := unhB s node key f l && (chE most rs s ⟨3, node, ⟨key, zer, []⟩⟩ == 0)
def reaC (most : Nat) (rs : List (List Nat)) (s : PS) (key : ByteArray) : Bool := reaB s key && (chE most rs s ⟨4, 0, ⟨key, zer, []⟩⟩ == 0)
theorem lisnode_any (n : Int) (w : World) : Calls Tryz.prog 76 #[.int .i64 n] w fun e w' => e = .returned (.bool (nodeOk n)) ∧ w' = w := by
 by_cases h1 : 0 ≤ n
 ·have e1 : decide (0 ≤ n) = true := decide_eq_true h1
  by_cases h2 : n < 8
  ·have e2 : decide (n < 8) = true := decide_eq_true h2
   go_enter Tryz.func76, Tryz.ntmps76
   go_wp2_with fail
   go_ret
   exact ⟨by simp [nodeOk, e1, e2], rfl⟩
  ·have e2 : decide (n < 8) = false := decide_eq_false h2
   go_enter Tryz.func76, Tryz.ntmps76
   go_wp2_with fail
   go_ret
   exact ⟨by simp [nodeOk, e2], rfl⟩
 ·have e1 : decide (0 ≤ n) = false := decide_eq_false h1
  go_enter Tryz.func76, Tryz.ntmps76
  go_wp2_with fail
  go_ret
  exact ⟨by simp [nodeOk, e1], rfl⟩
theorem may_okK {x : E} {w : World} (hn : Nrm x.f) (hr : Row w x.a x.cap x.l) (hm : (keyB x.key && mayS x.f (cont x.l)) = true) : OkK x.abs := by
 rw [Bool.and_eq_true] at hm
 exact ⟨hm.1, may_iff.1 hm.2, hn, hr.rng⟩
set_option maxRecDepth 100000 in
set_option maxHeartbeats 2000000 in
theorem ljoin_any {D S : Nat → Prop} {p lb b most : Nat} {rs : List (List Nat)} {s : PS} {w : World} (h : Hol D S p lb b most rs s w) (x : E) (hr : Row w x.a x.cap x.l) (hn : Nrm x.f) (htr : Ter (fun c => ¬ D c ∧ ¬ S c) x.a x.l) (hks : x.key.size ≤ 9223372036854775807) :
  Calls Tryz.prog 23 #[.pointer (some ⟨p, 0, none⟩), (.agg #[.string x.key, .int .i64 (x.f 0), .int .i64 (x.f 1), .int .i64 (x.f 2), .int .i64 (x.f 3), .int .i64 (x.f 4), .int .i64 (x.f 5), .int .i64 (x.f 6), .int .i64 (x.f 7), .slice x.a x.l.length x.cap])] w fun e w' => e = .returned (.tuple #[.bool (joinB most rs s x.abs), .int .i64 (joinA most rs s x.abs).er]) ∧ ∃ D' S', Hol D' S' p lb b most (joinA most rs s x.abs).rs (joinA most rs s x.abs).s w' ∧ Mov D S D' S' w w' := by
 have hq := eql_sto
 obtain ⟨tp, tb, hp, T0, H0, t, xs, c0, tab, ht, -⟩ := h.cor.is
 have hf : ∀ e ∈ t, e.l.length ≤ 1000 := okT_few h.cor.ok.tab ht
 obtain ⟨W, hW⟩ : ∃ W, W = (w.alloc (.cells #[.string x.key, .int .i64 (x.f 0), .int .i64 (x.f 1), .int .i64 (x.f 2), .int .i64 (x.f 3), .int .i64 (x.f 4), .int .i64 (x.f 5), .int .i64 (x.f 6), .int .i64 (x.f 7), .slice x.a x.l.length x.cap] 68)) := ⟨_, rfl⟩
 have O : Off (fun _ => False) w W := by rw [hW]; exact (Off.refl _ w).alloc _
 have C : Cel w.heap.size 68 #[.string x.key, .int .i64 (x.f 0), .int .i64 (x.f 1), .int .i64 (x.f 2), .int .i64 (x.f 3), .int .i64 (x.f 4), .int .i64 (x.f 5), .int .i64 (x.f 6), .int .i64 (x.f 7), .slice x.a x.l.length x.cap] W := by rw [hW]; exact Cel.new w _ _
 have HGET : Hid (∀ v, Off (fun _ => False) W v → Calls Tryz.prog 63 #[.pointer (some ⟨tp, 0, none⟩), .string x.key] v fun e w' => ∃ (f : Nat → Int) (a : Option Addr) (c : Nat) (l : List V), e = .returned (.tuple #[.agg #[.int .i64 (f 0), .int .i64 (f 1), .int .i64 (f 2), .int .i64 (f 3), .int .i64 (f 4), .int .i64 (f 5), .int .i64 (f 6), .int .i64 (f 7), .slice a l.length c], .bool (fndG K.key x.key s.1).isSome]) ∧ f = (getK s.1 x.key).f ∧ cont l = (getK s.1 x.key).l ∧ Row w' a c l ∧ Far v.heap.size a l ∧ Off (fun _ => False) v w') := fun v ov => kget_any ((tab.free O).free ov) ht hf x.key hks
 have HH0 : Hid _ := h
 have HR0 : Hid _ := hr
 have HTR : Hid _ := htr
 have HN : Hid _ := hn
 have HW : Hid _ := hW
 have HC : Hid _ := C
 have HO : Hid _ := O
 have HP : Hid _ := c0.off O (fun h => h)
 obtain ⟨u0, u1, u2, u3, u4, u5, u6, u7, u8, u9⟩ := cel10 C
 clear h tab ht hf hW C O c0 hr htr hn
 go_enter Tryz.func23, Tryz.ntmps23
 go_upto_region 1 with fail
 rw [show (w.alloc (.cells #[.string x.key, .int .i64 (x.f 0), .int .i64 (x.f 1), .int .i64 (x.f 2), .int .i64 (x.f 3), .int .i64 (x.f 4), .int .i64 (x.f 5), .int .i64 (x.f 6), .int .i64 (x.f 7), .slice x.a x.l.length x.cap] 68)) = W from HW.out.symm]
 go_wp2_with fail
 clear u0 u1 u2 u3 u4 u5 u6 u7 u8 u9
 refine (smayentry_any x.key x.f x.a x.cap x.l _ (HR0.out.off HO.out)).mono ?_
 cases hm : (keyB x.key && mayS x.f (cont x.l))
 ·rintro e W1 ⟨rfl, o1⟩
  have HM : Hid _ := hm
  have HOX : Hid _ := HO.out.trans o1 (fun _ _ h => h)
  clear hm o1
  go_wp2_with fail
  go_ret2
  have hc : joinC s x.abs = 1 := by unfold joinC; rw [if_pos (show (keyB x.abs.key && mayS x.abs.f x.abs.l) = false from HM.out)]
  have ha : joinA most rs s x.abs = ⟨1, rs, s⟩ := by unfold joinA; rw [hc]; rfl
  have hb : joinB most rs s x.abs = false := by unfold joinB; rw [hc]; rfl
  rw [ha, hb]
  exact ⟨rfl, D, S, HH0.out.free HOX.out, ⟨HOX.out.mono (fun _ _ h => h.elim), fun _ h => .inl h, fun _ h => .inl h⟩⟩
 ·rintro e W1 ⟨rfl, o1⟩
  have HM : Hid _ := hm
  replace HC : Hid (Cel w.heap.size 68 #[.string x.key, .int .i64 (x.f 0), .int .i64 (x.f 1), .int .i64 (x.f 2), .int .i64 (x.f 3), .int .i64 (x.f 4), .int .i64 (x.f 5), .int .i64 (x.f 6), .int .i64 (x.f 7), .slice x.a x.l.length x.cap] W1) := HC.out.off o1 (fun h => h)
  replace HP : Hid (Cel p 101 #[.pointer (some ⟨lb, 0, none⟩), .pointer (some ⟨tp, 0, none⟩), .pointer (some ⟨hp, 0, none⟩)] W1) := HP.out.off o1 (fun h => h)
  replace HO : Hid (Off (fun _ => False) w W1) := HO.out.trans o1 (fun _ _ h => h)
  replace HGET : Hid (∀ v, Off (fun _ => False) W1 v → Calls Tryz.prog 63 #[.pointer (some ⟨tp, 0, none⟩), .string x.key] v fun e w' => ∃ (f : Nat → Int) (a : Option Addr) (c : Nat) (l : List V), e = .returned (.tuple #[.agg #[.int .i64 (f 0), .int .i64 (f 1), .int .i64 (f 2), .int .i64 (f 3), .int .i64 (f 4), .int .i64 (f 5), .int .i64 (f 6), .int .i64 (f 7), .slice a l.length c], .bool (fndG K.key x.key s.1).isSome]) ∧ f = (getK s.1 x.key).f ∧ cont l = (getK s.1 x.key).l ∧ Row w' a c l ∧ Far v.heap.size a l ∧ Off (fun _ => False) v w') := fun v ov => HGET.out v (o1.trans ov (fun _ _ h => h))
  clear hm o1 HW
  clear W
  obtain ⟨W, hWW⟩ : ∃ W, W = W1 := ⟨_, rfl⟩
  rw [← hWW] at HC HP HO HGET ⊢
  clear hWW
  have HSZ : Hid (W.heap.size ≤ W.drew.heap.size) := Nat.le_refl _
  go_wp2_with fail
  refine wp_region_held_drew (S := fun w' => Off (fun _ => False) W w') (by kernel_rfl) ((Off.refl _ W).drew) (fun hS => ?_)
  refine take_at (i := 0) 16 (v := .pointer (some ⟨p, 0, none⟩)) rfl rfl (by kernel_rfl) (by kernel_rfl) (by kernel_rfl) (fun _ _ _ h => h) (Or.inl ⟨by rfl, fun w' hw' => by go_simp⟩) hS ?_
  simp only [Act.put, lsA, lsZ, lsS]
  refine take_at (i := 1) 17 (v := .pointer (some ⟨p, 0, none⟩)) rfl rfl (by kernel_rfl) (by kernel_rfl) (by kernel_rfl) (fun _ _ _ h => h) (Or.inl ⟨by rfl, fun w' hw' => by go_simp⟩) hS ?_
  simp only [Act.put, lsA, lsZ, lsS]
  refine take_at (i := 2) 18 (v := .pointer (some ⟨p, 1, none⟩)) rfl rfl (by kernel_rfl) (by kernel_rfl) (by kernel_rfl) (fun _ _ _ h => h) (Or.inl ⟨by rfl, fun w' hw' => by go_simp⟩) hS ?_
  simp only [Act.put, lsA, lsZ, lsS]
  refine take_at (i := 3) 19 (v := .pointer (some ⟨tp, 0, none⟩)) rfl rfl (by kernel_rfl) (by kernel_rfl) (by kernel_rfl) (fun _ _ _ h => h) (Or.inl ⟨by rfl, fun w' hw' => by have e := (HP.out.off hw' (fun h => h)).cell 1; simp only [List.getElem?_toArray, List.getElem?_cons_zero, List.getElem?_cons_succ] at e; go_simp⟩) hS ?_
  simp only [Act.put, lsA, lsZ, lsS]
  refine take_at (i := 4) 20 (v := .pointer (some ⟨w.heap.size, 0, none⟩)) rfl rfl (by kernel_rfl) (by kernel_rfl) (by kernel_rfl) (fun _ _ _ h => h) (Or.inl ⟨by rfl, fun w' hw' => by go_simp⟩) hS ?_
  simp only [Act.put, lsA, lsZ, lsS]
  refine take_at (i := 5) 21 (v := .string x.key) rfl rfl (by kernel_rfl) (by kernel_rfl) (by kernel_rfl) (fun _ _ _ h => h) (Or.inl ⟨by rfl, fun w' hw' => by obtain ⟨u0, u1, u2, u3, u4, u5, u6, u7, u8, u9⟩ := cel10 (HC.out.off hw' (fun h => h)); go_simp⟩) hS ?_
  simp only [Act.put, lsA, lsZ, lsS]
  refine wpAnyH_ready (rs := [6, 10]) (by kernel_rfl) (by simp) ?_
  refine AllReadyH.cons rfl (fun K' hK' => ?_) (AllReadyH.cons rfl (fun K' hK' => ?_) AllReadyH.nil)
  ·go_simp
   refine Calls.mono (HGET.out _ hS) ?_
   rintro e w1 ⟨f, a, c, l, rfl, hf, hl, row, far, o1⟩
   refine hK'.out _ _ (hS.trans o1 (fun _ _ h => h)) (fun hS => ?_)
   clear hK' K'
   have HF : Hid _ := hf
   have HL : Hid _ := hl
   have HR1 : Hid _ := row
   have HFA : Hid _ := far
   have HO1 : Hid _ := o1
   obtain ⟨th, hth⟩ : ∃ th, th = (fndG K.key x.key s.1).isSome := ⟨_, rfl⟩
   rw [← hth]
   have HTH : Hid _ := hth
   clear hf hl row far o1 hth
   refine take_at (i := 7) 15 (v := .tuple #[.agg #[(.int .i64 (f 0)), (.int .i64 (f 1)), (.int .i64 (f 2)), (.int .i64 (f 3)), (.int .i64 (f 4)), (.int .i64 (f 5)), (.int .i64 (f 6)), (.int .i64 (f 7)), (.slice a l.length c)], .bool th]) rfl rfl (by kernel_rfl) (by kernel_rfl) (by kernel_rfl) (fun _ _ _ h => h) (Or.inl ⟨by rfl, fun w' hw' => by go_simp⟩) hS ?_
   simp only [Act.put, lsA, lsZ, lsS]
   refine take_at (i := 8) 23 (v := .agg #[(.int .i64 (f 0)), (.int .i64 (f 1)), (.int .i64 (f 2)), (.int .i64 (f 3)), (.int .i64 (f 4)), (.int .i64 (f 5)), (.int .i64 (f 6)), (.int .i64 (f 7)), (.slice a l.length c)]) rfl rfl (by kernel_rfl) (by kernel_rfl) (by kernel_rfl) (fun _ _ _ h => h) (Or.inl ⟨by rfl, fun w' hw' => by go_simp⟩) hS ?_
   simp only [Act.put, lsA, lsZ, lsS]
   refine take_at (i := 9) 24 (v := .bool th) rfl rfl (by kernel_rfl) (by kernel_rfl) (by kernel_rfl) (fun _ _ _ h => h) (Or.inl ⟨by rfl, fun w' hw' => by go_simp⟩) hS ?_
   simp only [Act.put, lsA, lsZ, lsS]
   refine wpAnyH_ready (rs := [10]) (by kernel_rfl) (by simp) ?_
   refine AllReadyH.cons rfl (fun K' hK' => ?_) AllReadyH.nil
   go_simp
   refine hK'.out _ _ (hS.alloc _) (fun hS => ?_)
   clear hK' K'
   have DQ : Cel w1.heap.size 47 #[.int .i64 (zer 0), .int .i64 (zer 1), .int .i64 (zer 2), .int .i64 (zer 3), .int .i64 (zer 4), .int .i64 (zer 5), .int .i64 (zer 6), .int .i64 (zer 7), .slice none 0 0] (w1.alloc (.cells #[.int .i64 0, .int .i64 0, .int .i64 0, .int .i64 0, .int .i64 0, .int .i64 0, .int .i64 0, .int .i64 0, .slice none 0 0] 47)) := Cel.new w1 _ _
   generalize hv : w1.alloc (.cells #[.int .i64 0, .int .i64 0, .int .i64 0, .int .i64 0, .int .i64 0, .int .i64 0, .int .i64 0, .int .i64 0, .slice none 0 0] 47) = v at DQ hS ⊢
   generalize hqq : w1.heap.size = q at DQ ⊢
   have HQL : Hid (W.heap.size ≤ q) := by have h1 := HO1.out.size; show _ ≤ _; rw [← hqq]; exact Nat.le_trans HSZ.out h1
   have HRQ : Hid (∀ {V : World}, Off (fun x => x = q) v V → Row V a c l) := fun {V} ob => ((HR1.out.off (by rw [← hv]; exact (Off.refl _ w1).alloc _)).offT ((HR1.out.below)) ob (fun x _ h1 h2 => by omega))
   have HDQ : Hid _ := DQ
   clear DQ hv hqq
   obtain ⟨x0, x1, x2, x3, x4, x5, x6, x7, x8⟩ := cel9 HDQ.out
   have fz := HDQ.out.free
   refine wpAnyH_ready (rs := [11]) (by kernel_rfl) (by simp) ?_
   refine AllReadyH.cons rfl (fun K' hK' => ?_) AllReadyH.nil
   go_simp
   refine hK'.out _ _ (hS.st9 (b := q) (.inr HQL.out) f (.slice a l.length c)) (fun hS => ?_)
   clear hK' K'
   have ZQ := HDQ.out.st9 f (.slice a l.length c)
   clear fz x0 x1 x2 x3 x4 x5 x6 x7 x8
   have OB := (Off.refl (fun x => x = q) v).st9 (.inl rfl) f (.slice a l.length c)
   generalize hV : (((((((((v.setCell ⟨q, 0, none⟩ (.int .i64 (f 0))).setCell ⟨q, 1, none⟩ (.int .i64 (f 1))).setCell ⟨q, 2, none⟩ (.int .i64 (f 2))).setCell ⟨q, 3, none⟩ (.int .i64 (f 3))).setCell ⟨q, 4, none⟩ (.int .i64 (f 4))).setCell ⟨q, 5, none⟩ (.int .i64 (f 5))).setCell ⟨q, 6, none⟩ (.int .i64 (f 6))).setCell ⟨q, 7, none⟩ (.int .i64 (f 7))).setCell ⟨q, 8, none⟩ (.slice a l.length c)) = V at ZQ hS OB ⊢
   clear hV
   refine take_at (i := 12) 7 (v := .bool th) rfl rfl (by kernel_rfl) (by kernel_rfl) (by kernel_rfl) (fun _ _ _ h => h) (Or.inl ⟨by rfl, fun w' hw' => by go_simp⟩) hS ?_
   simp only [Act.put, lsA, lsZ, lsS]
   refine wpAnyH_done (by kernel_rfl) ?_ _
   have HZQ : Hid _ := ZQ
   have HOV : Hid _ := hS
   have HOX : Hid _ := HO.out.trans hS (fun _ _ h => h)
   have HXE : Hid _ := HC.out.off hS (fun h => h)
   have HRV : Hid (Row V a c l) := HRQ.out OB
   clear ZQ hS OB HDQ HRQ
   cases th with
   | false =>
    by_cases hful : 256 ≤ s.1.length
    ·have HFU : Hid (256 ≤ s.1.length) := hful
     clear hful
     go_wp2_with fail
     refine (full_any (HH0.out.cor.free HOX.out)).mono ?_
     rw [decide_eq_true HFU.out]
     rintro e W3 ⟨rfl, hw⟩
     rw [hw]
     clear hw W3
     go_wp2_with fail
     go_ret2
     have hc : joinC s x.abs = 11 := by
      unfold joinC
      rw [if_neg (by rw [show (keyB x.abs.key && mayS x.abs.f x.abs.l) = true from HM.out]; simp), if_pos ⟨HTH.out.symm, HFU.out⟩]
     have ha : joinA most rs s x.abs = ⟨11, rs, s⟩ := by unfold joinA; rw [hc]; rfl
     have hb : joinB most rs s x.abs = false := by unfold joinB; rw [hc]; rfl
     rw [ha, hb]
     exact ⟨rfl, D, S, HH0.out.free HOX.out, ⟨HOX.out.mono (fun _ _ h => h.elim), fun _ h => .inl h, fun _ h => .inl h⟩⟩
    ·have HNF : Hid (decide (256 ≤ s.1.length) = false) := decide_eq_false hful
     have HC0 : Hid (joinC s x.abs = 0) := by
      show _ = _
      unfold joinC
      rw [if_neg (by rw [show (keyB x.abs.key && mayS x.abs.f x.abs.l) = true from HM.out]; simp), if_neg (fun h => hful h.2), if_neg (fun h => by rw [show (fndG K.key x.abs.key s.1).isSome = false from HTH.out.symm] at h; cases h.1)]
     clear hful
     go_wp2_with fail
     refine (full_any (HH0.out.cor.free HOX.out)).mono ?_
     rw [HNF.out]
     rintro e W3 ⟨rfl, hw⟩
     rw [hw]
     clear hw W3
     obtain ⟨u0, u1, u2, u3, u4, u5, u6, u7, u8, u9⟩ := cel10 HXE.out
     go_wp2_with fail
     clear u0 u1 u2 u3 u4 u5 u6 u7 u8 u9
     refine (joins_any x _).mono ?_
     rintro e w3 ⟨rfl, o3⟩
     have HO3 : Hid _ := HOX.out.trans o3 (fun _ _ h => h)
     clear o3
     go_wp2_with fail
     refine (changed_any 1 0 x (HH0.out.free HO3.out) (HR0.out.off HO3.out) HTR.out ⟨.inl ⟨rfl, rfl, may_okK HN.out HR0.out HM.out⟩⟩ (join_do (.inl HC0.out))).mono ?_
     rintro e w4 ⟨rfl, D', S', hol, mv⟩
     have HHOL : Hid _ := hol
     have HMV : Hid _ := mv
     clear hol mv
     obtain ⟨ce, hce⟩ : ∃ ce, ce = chE most rs s ⟨1, 0, x.abs⟩ := ⟨_, rfl⟩
     rw [← hce]
     have HCE : Hid _ := hce
     clear hce
     go_wp2_with fail
     go_ret2
     have ha : joinA most rs s x.abs = chA most rs s ⟨1, 0, x.abs⟩ := by unfold joinA; rw [if_pos HC0.out]
     have hb : joinB most rs s x.abs = (ce == 0) := by unfold joinB; rw [HC0.out, HCE.out]; rfl
     rw [ha, hb]
     refine ⟨?_, D', S', HHOL.out, Mov.after HO3.out HMV.out⟩
     show _ = Ending.returned (Value.tuple #[_, .int .i64 (chE most rs s ⟨1, 0, x.abs⟩)])
     rw [← HCE.out]
     rfl
   | true =>
    obtain ⟨y0, y1, y2, y3, y4, y5, y6, y7, y8⟩ := cel9 HZQ.out
    obtain ⟨u0, u1, u2, u3, u4, u5, u6, u7, u8, u9⟩ := cel10 HXE.out
    go_wp2_with fail
    clear y0 y1 y2 y3 y4 y5 y6 y7 y8 u0 u1 u2 u3 u4 u5 u6 u7 u8 u9
    refine (sleq_any x.f f x.a a x.cap c x.l l _ (HR0.out.off HOX.out) HRV.out).mono ?_
    rw [HF.out, HL.out]
    cases hle : leqS x.f (getK s.1 x.key).f (cont x.l) (getK s.1 x.key).l
    ·have HLE : Hid _ := hle
     clear hle
     rintro e w2 ⟨rfl, o2⟩
     have HOX2 : Hid _ := HOX.out.trans o2 (fun _ _ h => h)
     have HXE2 : Hid _ := HXE.out.off o2 (fun h => h)
     clear o2 HOX HXE
     have HC0 : Hid (joinC s x.abs = 0) := by
      show _ = _
      unfold joinC
      rw [if_neg (by rw [show (keyB x.abs.key && mayS x.abs.f x.abs.l) = true from HM.out]; simp), if_neg (fun h => by rw [show (fndG K.key x.abs.key s.1).isSome = true from HTH.out.symm] at h; cases h.1), if_neg (fun h => by rw [show leqS x.abs.f (getK s.1 x.abs.key).f x.abs.l (getK s.1 x.abs.key).l = false from HLE.out] at h; cases h.2)]
     obtain ⟨u0, u1, u2, u3, u4, u5, u6, u7, u8, u9⟩ := cel10 HXE2.out
     go_wp2_with fail
     clear u0 u1 u2 u3 u4 u5 u6 u7 u8 u9
     refine (joins_any x _).mono ?_
     rintro e w3 ⟨rfl, o3⟩
     have HO3 : Hid _ := HOX2.out.trans o3 (fun _ _ h => h)
     clear o3
     go_wp2_with fail
     refine (changed_any 1 0 x (HH0.out.free HO3.out) (HR0.out.off HO3.out) HTR.out ⟨.inl ⟨rfl, rfl, may_okK HN.out HR0.out HM.out⟩⟩ (join_do (.inl HC0.out))).mono ?_
     rintro e w4 ⟨rfl, D', S', hol, mv⟩
     have HHOL : Hid _ := hol
     have HMV : Hid _ := mv
     clear hol mv
     obtain ⟨ce, hce⟩ : ∃ ce, ce = chE most rs s ⟨1, 0, x.abs⟩ := ⟨_, rfl⟩
     rw [← hce]
     have HCE : Hid _ := hce
     clear hce
     go_wp2_with fail
     go_ret2
     have ha : joinA most rs s x.abs = chA most rs s ⟨1, 0, x.abs⟩ := by unfold joinA; rw [if_pos HC0.out]
     have hb : joinB most rs s x.abs = (ce == 0) := by unfold joinB; rw [HC0.out, HCE.out]; rfl
     rw [ha, hb]
     refine ⟨?_, D', S', HHOL.out, Mov.after HO3.out HMV.out⟩
     show _ = Ending.returned (Value.tuple #[_, .int .i64 (chE most rs s ⟨1, 0, x.abs⟩)])
     rw [← HCE.out]
     rfl
    ·have HLE : Hid _ := hle
     clear hle
     rintro e w2 ⟨rfl, o2⟩
     have HOX2 : Hid _ := HOX.out.trans o2 (fun _ _ h => h)
     clear o2 HOX
     go_wp2_with fail
     go_ret2
     have hc : joinC s x.abs = -1 := by
      unfold joinC
      rw [if_neg (by rw [show (keyB x.abs.key && mayS x.abs.f x.abs.l) = true from HM.out]; simp), if_neg (fun h => by rw [show (fndG K.key x.abs.key s.1).isSome = true from HTH.out.symm] at h; cases h.1), if_pos ⟨HTH.out.symm, HLE.out⟩]
     have ha : joinA most rs s x.abs = ⟨0, rs, s⟩ := by unfold joinA; rw [hc]; rfl
     have hb : joinB most rs s x.abs = false := by unfold joinB; rw [hc]; rfl
     rw [ha, hb]
     exact ⟨rfl, D, S, HH0.out.free HOX2.out, ⟨HOX2.out.mono (fun _ _ h => h.elim), fun _ h => .inl h, fun _ h => .inl h⟩⟩
  ·go_simp
   refine hK'.out _ _ (hS.alloc _) (fun hS => ?_)
   clear hK' K'
   have DQ : Cel W.heap.size 47 #[.int .i64 (zer 0), .int .i64 (zer 1), .int .i64 (zer 2), .int .i64 (zer 3), .int .i64 (zer 4), .int .i64 (zer 5), .int .i64 (zer 6), .int .i64 (zer 7), .slice none 0 0] (W.alloc (.cells #[.int .i64 0, .int .i64 0, .int .i64 0, .int .i64 0, .int .i64 0, .int .i64 0, .int .i64 0, .int .i64 0, .slice none 0 0] 47)).drew := (Cel.new W _ _).drew
   generalize hv : (W.alloc (.cells #[.int .i64 0, .int .i64 0, .int .i64 0, .int .i64 0, .int .i64 0, .int .i64 0, .int .i64 0, .int .i64 0, .slice none 0 0] 47)).drew = v0 at DQ hS ⊢
   generalize hqq : W.heap.size = q at DQ ⊢
   have HQL : Hid (W.heap.size ≤ q) := by show _ ≤ _; rw [← hqq]; exact Nat.le_refl _
   have HQ0 : Hid _ := DQ
   clear DQ hv hqq
   refine wpAnyH_ready (rs := [6]) (by kernel_rfl) (by simp) ?_
   refine AllReadyH.cons rfl (fun K' hK' => ?_) AllReadyH.nil
   go_simp
   refine Calls.mono (HGET.out _ hS) ?_
   rintro e w1 ⟨f, a, c, l, rfl, hf, hl, row, far, o1⟩
   refine hK'.out _ _ (hS.trans o1 (fun _ _ h => h)) (fun hS => ?_)
   clear hK' K'
   have HF : Hid _ := hf
   have HL : Hid _ := hl
   have HR1 : Hid _ := row
   have HFA : Hid _ := far
   have HO1 : Hid _ := o1
   obtain ⟨th, hth⟩ : ∃ th, th = (fndG K.key x.key s.1).isSome := ⟨_, rfl⟩
   rw [← hth]
   have HTH : Hid _ := hth
   clear hf hl row far o1 hth
   have HDQ : Hid (Cel q 47 #[.int .i64 (zer 0), .int .i64 (zer 1), .int .i64 (zer 2), .int .i64 (zer 3), .int .i64 (zer 4), .int .i64 (zer 5), .int .i64 (zer 6), .int .i64 (zer 7), .slice none 0 0] w1) := Cel.off (D := fun _ => False) HQ0.out HO1.out (fun h => h)
   have HRQ : Hid (∀ {V : World}, Off (fun x => x = q) w1 V → Row V a c l) := fun {V} ob => HR1.out.offF HFA.out ob (fun x hx e => by have h1 := HQ0.out.lt; omega)
   clear HQ0
   refine take_at (i := 7) 15 (v := .tuple #[.agg #[(.int .i64 (f 0)), (.int .i64 (f 1)), (.int .i64 (f 2)), (.int .i64 (f 3)), (.int .i64 (f 4)), (.int .i64 (f 5)), (.int .i64 (f 6)), (.int .i64 (f 7)), (.slice a l.length c)], .bool th]) rfl rfl (by kernel_rfl) (by kernel_rfl) (by kernel_rfl) (fun _ _ _ h => h) (Or.inl ⟨by rfl, fun w' hw' => by go_simp⟩) hS ?_
   simp only [Act.put, lsA, lsZ, lsS]
   refine take_at (i := 8) 23 (v := .agg #[(.int .i64 (f 0)), (.int .i64 (f 1)), (.int .i64 (f 2)), (.int .i64 (f 3)), (.int .i64 (f 4)), (.int .i64 (f 5)), (.int .i64 (f 6)), (.int .i64 (f 7)), (.slice a l.length c)]) rfl rfl (by kernel_rfl) (by kernel_rfl) (by kernel_rfl) (fun _ _ _ h => h) (Or.inl ⟨by rfl, fun w' hw' => by go_simp⟩) hS ?_
   simp only [Act.put, lsA, lsZ, lsS]
   refine take_at (i := 9) 24 (v := .bool th) rfl rfl (by kernel_rfl) (by kernel_rfl) (by kernel_rfl) (fun _ _ _ h => h) (Or.inl ⟨by rfl, fun w' hw' => by go_simp⟩) hS ?_
   simp only [Act.put, lsA, lsZ, lsS]
   obtain ⟨x0, x1, x2, x3, x4, x5, x6, x7, x8⟩ := cel9 HDQ.out
   have fz := HDQ.out.free
   refine wpAnyH_ready (rs := [11]) (by kernel_rfl) (by simp) ?_
   refine AllReadyH.cons rfl (fun K' hK' => ?_) AllReadyH.nil
   go_simp
   refine hK'.out _ _ (hS.st9 (b := q) (.inr HQL.out) f (.slice a l.length c)) (fun hS => ?_)
   clear hK' K'
   have ZQ := HDQ.out.st9 f (.slice a l.length c)
   clear fz x0 x1 x2 x3 x4 x5 x6 x7 x8
   have OB := (Off.refl (fun x => x = q) w1).st9 (.inl rfl) f (.slice a l.length c)
   generalize hV : (((((((((w1.setCell ⟨q, 0, none⟩ (.int .i64 (f 0))).setCell ⟨q, 1, none⟩ (.int .i64 (f 1))).setCell ⟨q, 2, none⟩ (.int .i64 (f 2))).setCell ⟨q, 3, none⟩ (.int .i64 (f 3))).setCell ⟨q, 4, none⟩ (.int .i64 (f 4))).setCell ⟨q, 5, none⟩ (.int .i64 (f 5))).setCell ⟨q, 6, none⟩ (.int .i64 (f 6))).setCell ⟨q, 7, none⟩ (.int .i64 (f 7))).setCell ⟨q, 8, none⟩ (.slice a l.length c)) = V at ZQ hS OB ⊢
   clear hV
   refine take_at (i := 12) 7 (v := .bool th) rfl rfl (by kernel_rfl) (by kernel_rfl) (by kernel_rfl) (fun _ _ _ h => h) (Or.inl ⟨by rfl, fun w' hw' => by go_simp⟩) hS ?_
   simp only [Act.put, lsA, lsZ, lsS]
   refine wpAnyH_done (by kernel_rfl) ?_ _
   have HZQ : Hid _ := ZQ
   have HOV : Hid _ := hS
   have HOX : Hid _ := HO.out.trans hS (fun _ _ h => h)
   have HXE : Hid _ := HC.out.off hS (fun h => h)
   have HRV : Hid (Row V a c l) := HRQ.out OB
   clear ZQ hS OB HDQ HRQ
   cases th with
   | false =>
    by_cases hful : 256 ≤ s.1.length
    ·have HFU : Hid (256 ≤ s.1.length) := hful
     clear hful
     go_wp2_with fail
     refine (full_any (HH0.out.cor.free HOX.out)).mono ?_
     rw [decide_eq_true HFU.out]
     rintro e W3 ⟨rfl, hw⟩
     rw [hw]
     clear hw W3
     go_wp2_with fail
     go_ret2
     have hc : joinC s x.abs = 11 := by
      unfold joinC
      rw [if_neg (by rw [show (keyB x.abs.key && mayS x.abs.f x.abs.l) = true from HM.out]; simp), if_pos ⟨HTH.out.symm, HFU.out⟩]
     have ha : joinA most rs s x.abs = ⟨11, rs, s⟩ := by unfold joinA; rw [hc]; rfl
     have hb : joinB most rs s x.abs = false := by unfold joinB; rw [hc]; rfl
     rw [ha, hb]
     exact ⟨rfl, D, S, HH0.out.free HOX.out, ⟨HOX.out.mono (fun _ _ h => h.elim), fun _ h => .inl h, fun _ h => .inl h⟩⟩
    ·have HNF : Hid (decide (256 ≤ s.1.length) = false) := decide_eq_false hful
     have HC0 : Hid (joinC s x.abs = 0) := by
      show _ = _
      unfold joinC
      rw [if_neg (by rw [show (keyB x.abs.key && mayS x.abs.f x.abs.l) = true from HM.out]; simp), if_neg (fun h => hful h.2), if_neg (fun h => by rw [show (fndG K.key x.abs.key s.1).isSome = false from HTH.out.symm] at h; cases h.1)]
     clear hful
     go_wp2_with fail
     refine (full_any (HH0.out.cor.free HOX.out)).mono ?_
     rw [HNF.out]
     rintro e W3 ⟨rfl, hw⟩
     rw [hw]
     clear hw W3
     obtain ⟨u0, u1, u2, u3, u4, u5, u6, u7, u8, u9⟩ := cel10 HXE.out
     go_wp2_with fail
     clear u0 u1 u2 u3 u4 u5 u6 u7 u8 u9
     refine (joins_any x _).mono ?_
     rintro e w3 ⟨rfl, o3⟩
     have HO3 : Hid _ := HOX.out.trans o3 (fun _ _ h => h)
     clear o3
     go_wp2_with fail
     refine (changed_any 1 0 x (HH0.out.free HO3.out) (HR0.out.off HO3.out) HTR.out ⟨.inl ⟨rfl, rfl, may_okK HN.out HR0.out HM.out⟩⟩ (join_do (.inl HC0.out))).mono ?_
     rintro e w4 ⟨rfl, D', S', hol, mv⟩
     have HHOL : Hid _ := hol
     have HMV : Hid _ := mv
     clear hol mv
     obtain ⟨ce, hce⟩ : ∃ ce, ce = chE most rs s ⟨1, 0, x.abs⟩ := ⟨_, rfl⟩
     rw [← hce]
     have HCE : Hid _ := hce
     clear hce
     go_wp2_with fail
     go_ret2
     have ha : joinA most rs s x.abs = chA most rs s ⟨1, 0, x.abs⟩ := by unfold joinA; rw [if_pos HC0.out]
     have hb : joinB most rs s x.abs = (ce == 0) := by unfold joinB; rw [HC0.out, HCE.out]; rfl
     rw [ha, hb]
     refine ⟨?_, D', S', HHOL.out, Mov.after HO3.out HMV.out⟩
     show _ = Ending.returned (Value.tuple #[_, .int .i64 (chE most rs s ⟨1, 0, x.abs⟩)])
     rw [← HCE.out]
     rfl
   | true =>
    obtain ⟨y0, y1, y2, y3, y4, y5, y6, y7, y8⟩ := cel9 HZQ.out
    obtain ⟨u0, u1, u2, u3, u4, u5, u6, u7, u8, u9⟩ := cel10 HXE.out
    go_wp2_with fail
    clear y0 y1 y2 y3 y4 y5 y6 y7 y8 u0 u1 u2 u3 u4 u5 u6 u7 u8 u9
    refine (sleq_any x.f f x.a a x.cap c x.l l _ (HR0.out.off HOX.out) HRV.out).mono ?_
    rw [HF.out, HL.out]
    cases hle : leqS x.f (getK s.1 x.key).f (cont x.l) (getK s.1 x.key).l
    ·have HLE : Hid _ := hle
     clear hle
     rintro e w2 ⟨rfl, o2⟩
     have HOX2 : Hid _ := HOX.out.trans o2 (fun _ _ h => h)
     have HXE2 : Hid _ := HXE.out.off o2 (fun h => h)
     clear o2 HOX HXE
     have HC0 : Hid (joinC s x.abs = 0) := by
      show _ = _
      unfold joinC
      rw [if_neg (by rw [show (keyB x.abs.key && mayS x.abs.f x.abs.l) = true from HM.out]; simp), if_neg (fun h => by rw [show (fndG K.key x.abs.key s.1).isSome = true from HTH.out.symm] at h; cases h.1), if_neg (fun h => by rw [show leqS x.abs.f (getK s.1 x.abs.key).f x.abs.l (getK s.1 x.abs.key).l = false from HLE.out] at h; cases h.2)]
     obtain ⟨u0, u1, u2, u3, u4, u5, u6, u7, u8, u9⟩ := cel10 HXE2.out
     go_wp2_with fail
     clear u0 u1 u2 u3 u4 u5 u6 u7 u8 u9
     refine (joins_any x _).mono ?_
     rintro e w3 ⟨rfl, o3⟩
     have HO3 : Hid _ := HOX2.out.trans o3 (fun _ _ h => h)
     clear o3
     go_wp2_with fail
     refine (changed_any 1 0 x (HH0.out.free HO3.out) (HR0.out.off HO3.out) HTR.out ⟨.inl ⟨rfl, rfl, may_okK HN.out HR0.out HM.out⟩⟩ (join_do (.inl HC0.out))).mono ?_
     rintro e w4 ⟨rfl, D', S', hol, mv⟩
     have HHOL : Hid _ := hol
     have HMV : Hid _ := mv
     clear hol mv
     obtain ⟨ce, hce⟩ : ∃ ce, ce = chE most rs s ⟨1, 0, x.abs⟩ := ⟨_, rfl⟩
     rw [← hce]
     have HCE : Hid _ := hce
     clear hce
     go_wp2_with fail
     go_ret2
     have ha : joinA most rs s x.abs = chA most rs s ⟨1, 0, x.abs⟩ := by unfold joinA; rw [if_pos HC0.out]
     have hb : joinB most rs s x.abs = (ce == 0) := by unfold joinB; rw [HC0.out, HCE.out]; rfl
     rw [ha, hb]
     refine ⟨?_, D', S', HHOL.out, Mov.after HO3.out HMV.out⟩
     show _ = Ending.returned (Value.tuple #[_, .int .i64 (chE most rs s ⟨1, 0, x.abs⟩)])
     rw [← HCE.out]
     rfl
    ·have HLE : Hid _ := hle
     clear hle
     rintro e w2 ⟨rfl, o2⟩
     have HOX2 : Hid _ := HOX.out.trans o2 (fun _ _ h => h)
     clear o2 HOX
     go_wp2_with fail
     go_ret2
     have hc : joinC s x.abs = -1 := by
      unfold joinC
      rw [if_neg (by rw [show (keyB x.abs.key && mayS x.abs.f x.abs.l) = true from HM.out]; simp), if_neg (fun h => by rw [show (fndG K.key x.abs.key s.1).isSome = true from HTH.out.symm] at h; cases h.1), if_pos ⟨HTH.out.symm, HLE.out⟩]
     have ha : joinA most rs s x.abs = ⟨0, rs, s⟩ := by unfold joinA; rw [hc]; rfl
     have hb : joinB most rs s x.abs = false := by unfold joinB; rw [hc]; rfl
     rw [ha, hb]
     exact ⟨rfl, D, S, HH0.out.free HOX2.out, ⟨HOX2.out.mono (fun _ _ h => h.elim), fun _ h => .inl h, fun _ h => .inl h⟩⟩
end Go.Proofs.YthjbnpaghiojlaaGreat

namespace Go.Proofs.YthjbnpaghiojlaaGreat
open Go.RowKit
set_option maxRecDepth 100000 in
set_option maxHeartbeats 2000000 in
theorem lhint_any {D S : Nat → Prop} {p lb b most : Nat} {rs : List (List Nat)} {s : PS} {w : World} (h : Hol D S p lb b most rs s w) (node : Int) (x : E) (hr : Row w x.a x.cap x.l) (hn : Nrm x.f) (htr : Ter (fun c => ¬ D c ∧ ¬ S c) x.a x.l) :
  Calls Tryz.prog 27 #[.pointer (some ⟨p, 0, none⟩), (.agg #[.int .i64 node, .string x.key, .int .i64 (x.f 0), .int .i64 (x.f 1), .int .i64 (x.f 2), .int .i64 (x.f 3), .int .i64 (x.f 4), .int .i64 (x.f 5), .int .i64 (x.f 6), .int .i64 (x.f 7), .slice x.a x.l.length x.cap])] w fun e w' => e = .returned (.int .i64 (hintA most rs s node x.abs).er) ∧ ∃ D' S', Hol D' S' p lb b most (hintA most rs s node x.abs).rs (hintA most rs s node x.abs).s w' ∧ Mov D S D' S' w w' := by
 have hq := eql_sto
 obtain ⟨W, hW⟩ : ∃ W, W = (w.alloc (.cells #[.int .i64 node, .string x.key, .int .i64 (x.f 0), .int .i64 (x.f 1), .int .i64 (x.f 2), .int .i64 (x.f 3), .int .i64 (x.f 4), .int .i64 (x.f 5), .int .i64 (x.f 6), .int .i64 (x.f 7), .slice x.a x.l.length x.cap] 75)) := ⟨_, rfl⟩
 have O : Off (fun _ => False) w W := by rw [hW]; exact (Off.refl _ w).alloc _
 have C : Cel w.heap.size 75 #[.int .i64 node, .string x.key, .int .i64 (x.f 0), .int .i64 (x.f 1), .int .i64 (x.f 2), .int .i64 (x.f 3), .int .i64 (x.f 4), .int .i64 (x.f 5), .int .i64 (x.f 6), .int .i64 (x.f 7), .slice x.a x.l.length x.cap] W := by rw [hW]; exact Cel.new w _ _
 have HH0 : Hid _ := h
 have HR0 : Hid _ := hr
 have HTR : Hid _ := htr
 have HN : Hid _ := hn
 have HW : Hid _ := hW
 have HC : Hid _ := C
 have HO : Hid _ := O
 obtain ⟨u0, u1, u2, u3, u4, u5, u6, u7, u8, u9, u10⟩ := cel11 C
 clear h hW C O hr htr hn
 go_enter Tryz.func27, Tryz.ntmps27
 go_upto_region 1 with fail
 rw [show (w.alloc (.cells #[.int .i64 node, .string x.key, .int .i64 (x.f 0), .int .i64 (x.f 1), .int .i64 (x.f 2), .int .i64 (x.f 3), .int .i64 (x.f 4), .int .i64 (x.f 5), .int .i64 (x.f 6), .int .i64 (x.f 7), .slice x.a x.l.length x.cap] 75)) = W from HW.out.symm]
 go_wp2_with fail
 refine (lisnode_any node _).mono ?_
 cases hnd : nodeOk node
 ·rintro e W1 ⟨rfl, hw⟩
  rw [hw]
  have HNF : Hid _ := hnd
  clear hw W1 hnd
  go_wp2_with fail
  go_ret
  have hc : hintC s node x.abs = 1 := by unfold hintC; rw [HNF.out]; rfl
  have ha : hintA most rs s node x.abs = ⟨1, rs, s⟩ := by unfold hintA; rw [hc]; rfl
  rw [ha]
  exact ⟨rfl, D, S, HH0.out.free HO.out, ⟨HO.out.mono (fun _ _ h => h.elim), fun _ h => .inl h, fun _ h => .inl h⟩⟩
 ·rintro e W1 ⟨rfl, hw⟩
  rw [hw]
  have HND : Hid _ := hnd
  clear hw W1 hnd
  go_wp2_with fail
  refine (smayentry_any x.key x.f x.a x.cap x.l _ (HR0.out.off HO.out)).mono ?_
  cases hm : (keyB x.key && mayS x.f (cont x.l))
  ·rintro e W1 ⟨rfl, o1⟩
   have HM : Hid _ := hm
   have HOX : Hid _ := HO.out.trans o1 (fun _ _ h => h)
   clear hm o1 u0 u1 u2 u3 u4 u5 u6 u7 u8 u9 u10
   go_wp2_with fail
   go_ret
   have hc : hintC s node x.abs = 1 := by unfold hintC; rw [HND.out, show (keyB x.abs.key && mayS x.abs.f x.abs.l) = false from HM.out]; rfl
   have ha : hintA most rs s node x.abs = ⟨1, rs, s⟩ := by unfold hintA; rw [hc]; rfl
   rw [ha]
   exact ⟨rfl, D, S, HH0.out.free HOX.out, ⟨HOX.out.mono (fun _ _ h => h.elim), fun _ h => .inl h, fun _ h => .inl h⟩⟩
  ·rintro e W1 ⟨rfl, o1⟩
   have HM : Hid _ := hm
   have HMM : Hid ((nodeOk node && (keyB x.key && mayS x.f (cont x.l))) = true) := by rw [HND.out, hm]; rfl
   replace HC : Hid (Cel w.heap.size 75 #[.int .i64 node, .string x.key, .int .i64 (x.f 0), .int .i64 (x.f 1), .int .i64 (x.f 2), .int .i64 (x.f 3), .int .i64 (x.f 4), .int .i64 (x.f 5), .int .i64 (x.f 6), .int .i64 (x.f 7), .slice x.a x.l.length x.cap] W1) := HC.out.off o1 (fun h => h)
   replace HO : Hid (Off (fun _ => False) w W1) := HO.out.trans o1 (fun _ _ h => h)
   clear hm o1 HW u0 u1 u2 u3 u4 u5 u6 u7 u8 u9 u10
   obtain ⟨u0, u1, u2, u3, u4, u5, u6, u7, u8, u9, u10⟩ := cel11 HC.out
   go_wp2_with fail
   clear u0 u1 u2 u3 u4 u5 u6 u7 u8 u9 u10
   refine (keptFor_any (HH0.out.cor.free HO.out) node x.key).mono ?_
   rintro e w1 ⟨f, a, c, l, rfl, hf, hl, row, ter, o1⟩
   have HF : Hid _ := hf
   have HL : Hid _ := hl
   obtain ⟨th, hth⟩ : ∃ th, th = (fndGH HK.nk (node, x.key) s.2).isSome := ⟨_, rfl⟩
   rw [← hth]
   have HTH : Hid _ := hth
   clear hf hl hth
   go_upto_region 4 with fail
   have CQ := Cel.new w1 47 #[.int .i64 (f 0), .int .i64 (f 1), .int .i64 (f 2), .int .i64 (f 3), .int .i64 (f 4), .int .i64 (f 5), .int .i64 (f 6), .int .i64 (f 7), .slice a l.length c]
   have OA : Off (fun _ => False) w1 (w1.alloc (.cells #[.int .i64 (f 0), .int .i64 (f 1), .int .i64 (f 2), .int .i64 (f 3), .int .i64 (f 4), .int .i64 (f 5), .int .i64 (f 6), .int .i64 (f 7), .slice a l.length c] 47)) := (Off.refl _ w1).alloc _
   generalize hv : w1.alloc (.cells #[.int .i64 (f 0), .int .i64 (f 1), .int .i64 (f 2), .int .i64 (f 3), .int .i64 (f 4), .int .i64 (f 5), .int .i64 (f 6), .int .i64 (f 7), .slice a l.length c] 47) = V at CQ OA ⊢
   generalize hqq : w1.heap.size = q at CQ ⊢
   have OV : Off (fun _ => False) W1 V := o1.trans OA (fun _ _ h => h)
   have HZQ : Hid _ := CQ
   have HRV : Hid _ := row.off OA
   have HXE : Hid _ := HC.out.off OV (fun h => h)
   have HOX : Hid _ := HO.out.trans OV (fun _ _ h => h)
   clear hv hqq CQ OA OV o1 row ter HC HO
   cases th with
   | false =>
    obtain ⟨hp, H0, xs, c2, hst, hh⟩ := (HH0.out.cor.free HOX.out).set
    have hlen : s.2.length = xs.length := by rw [← hh, absH_len]
    have HST : Hid _ := hst
    have HLEN : Hid _ := hlen
    clear hst hh hlen
    by_cases hful : 64 ≤ xs.length
    ·have e1 : decide ((64 : Int) ≤ (xs.length : Int)) = true := decide_eq_true (by omega)
     have e2 : decide (64 ≤ xs.length) = true := decide_eq_true hful
     have HFU : Hid _ := hful
     clear hful
     go_wp2_with fail
     refine (hlen_any H0 hp xs _ HST.out).mono ?_
     rintro e W3 ⟨rfl, hw⟩
     rw [hw]
     clear hw W3 c2
     go_wp2_with fail
     go_ret
     have hc : hintC s node x.abs = 11 := by
      unfold hintC
      rw [if_neg (by rw [show (nodeOk node && (keyB x.abs.key && mayS x.abs.f x.abs.l)) = true from HMM.out]; simp), if_pos ⟨HTH.out.symm, by rw [HLEN.out]; exact HFU.out⟩]
     have ha : hintA most rs s node x.abs = ⟨11, rs, s⟩ := by unfold hintA; rw [hc]; rfl
     rw [ha]
     exact ⟨rfl, D, S, HH0.out.free HOX.out, ⟨HOX.out.mono (fun _ _ h => h.elim), fun _ h => .inl h, fun _ h => .inl h⟩⟩
    ·have e1 : decide ((64 : Int) ≤ (xs.length : Int)) = false := decide_eq_false (by omega)
     have e2 : decide (64 ≤ xs.length) = false := decide_eq_false hful
     have HC0 : Hid (hintC s node x.abs = 0) := by
      show _ = _
      unfold hintC
      rw [if_neg (by rw [show (nodeOk node && (keyB x.abs.key && mayS x.abs.f x.abs.l)) = true from HMM.out]; simp), if_neg (fun h => hful (by rw [← HLEN.out]; exact h.2)), if_neg (fun h => by rw [show (fndGH HK.nk (node, x.abs.key) s.2).isSome = false from HTH.out.symm] at h; cases h.1)]
     clear hful
     go_wp2_with fail
     refine (hlen_any H0 hp xs _ HST.out).mono ?_
     rintro e W3 ⟨rfl, hw⟩
     rw [hw]
     clear hw W3 c2
     obtain ⟨u0, u1, u2, u3, u4, u5, u6, u7, u8, u9, u10⟩ := cel11 HXE.out
     go_wp2_with fail
     clear u0 u1 u2 u3 u4 u5 u6 u7 u8 u9 u10
     refine (keeps_any (⟨node, x⟩ : Go.Proofs.YthjbnpaghiojlaaGreat.H) _).mono ?_
     rintro e w3 ⟨rfl, o3⟩
     have HO3 : Hid _ := HOX.out.trans o3 (fun _ _ h => h)
     clear o3
     go_wp2_with fail
     refine (change_any 2 node x (HH0.out.free HO3.out) (HR0.out.off HO3.out) HTR.out ⟨.inr (.inl ⟨rfl, HND.out, may_okK HN.out HR0.out HM.out⟩)⟩ (hint_do (.inl HC0.out))).mono ?_
     rintro e w4 ⟨rfl, D', S', hol, mv⟩
     have HHOL : Hid _ := hol
     have HMV : Hid _ := mv
     clear hol mv
     obtain ⟨ce, hce⟩ : ∃ ce, ce = chE most rs s ⟨2, node, x.abs⟩ := ⟨_, rfl⟩
     rw [← hce]
     have HCE : Hid _ := hce
     clear hce
     go_wp2_with fail
     go_ret
     have ha : hintA most rs s node x.abs = chA most rs s ⟨2, node, x.abs⟩ := by unfold hintA; rw [if_pos HC0.out]
     rw [ha]
     refine ⟨?_, D', S', HHOL.out, Mov.after HO3.out HMV.out⟩
     show _ = Ending.returned (.int .i64 (chE most rs s ⟨2, node, x.abs⟩))
     rw [← HCE.out]
     rfl
   | true =>
    obtain ⟨y0, y1, y2, y3, y4, y5, y6, y7, y8⟩ := cel9 HZQ.out
    obtain ⟨u0, u1, u2, u3, u4, u5, u6, u7, u8, u9, u10⟩ := cel11 HXE.out
    go_wp2_with fail
    clear y0 y1 y2 y3 y4 y5 y6 y7 y8 u0 u1 u2 u3 u4 u5 u6 u7 u8 u9 u10
    refine (sleq_any x.f f x.a a x.cap c x.l l _ (HR0.out.off HOX.out) HRV.out).mono ?_
    rw [HF.out, HL.out]
    cases hle : leqS x.f (getH s.2 node x.key).f (cont x.l) (getH s.2 node x.key).l
    ·have HLE : Hid _ := hle
     clear hle
     rintro e w2 ⟨rfl, o2⟩
     have HOX2 : Hid _ := HOX.out.trans o2 (fun _ _ h => h)
     have HXE2 : Hid _ := HXE.out.off o2 (fun h => h)
     clear o2 HOX HXE
     have HC0 : Hid (hintC s node x.abs = 0) := by
      show _ = _
      unfold hintC
      rw [if_neg (by rw [show (nodeOk node && (keyB x.abs.key && mayS x.abs.f x.abs.l)) = true from HMM.out]; simp), if_neg (fun h => by rw [show (fndGH HK.nk (node, x.abs.key) s.2).isSome = true from HTH.out.symm] at h; cases h.1), if_neg (fun h => by rw [show leqS x.abs.f (getH s.2 node x.abs.key).f x.abs.l (getH s.2 node x.abs.key).l = false from HLE.out] at h; cases h.2)]
     obtain ⟨u0, u1, u2, u3, u4, u5, u6, u7, u8, u9, u10⟩ := cel11 HXE2.out
     go_wp2_with fail
     clear u0 u1 u2 u3 u4 u5 u6 u7 u8 u9 u10
     refine (keeps_any (⟨node, x⟩ : Go.Proofs.YthjbnpaghiojlaaGreat.H) _).mono ?_
     rintro e w3 ⟨rfl, o3⟩
     have HO3 : Hid _ := HOX2.out.trans o3 (fun _ _ h => h)
     clear o3
     go_wp2_with fail
     refine (change_any 2 node x (HH0.out.free HO3.out) (HR0.out.off HO3.out) HTR.out ⟨.inr (.inl ⟨rfl, HND.out, may_okK HN.out HR0.out HM.out⟩)⟩ (hint_do (.inl HC0.out))).mono ?_
     rintro e w4 ⟨rfl, D', S', hol, mv⟩
     have HHOL : Hid _ := hol
     have HMV : Hid _ := mv
     clear hol mv
     obtain ⟨ce, hce⟩ : ∃ ce, ce = chE most rs s ⟨2, node, x.abs⟩ := ⟨_, rfl⟩
     rw [← hce]
     have HCE : Hid _ := hce
     clear hce
     go_wp2_with fail
     go_ret
     have ha : hintA most rs s node x.abs = chA most rs s ⟨2, node, x.abs⟩ := by unfold hintA; rw [if_pos HC0.out]
     rw [ha]
     refine ⟨?_, D', S', HHOL.out, Mov.after HO3.out HMV.out⟩
     show _ = Ending.returned (.int .i64 (chE most rs s ⟨2, node, x.abs⟩))
     rw [← HCE.out]
     rfl
    ·have HLE : Hid _ := hle
     clear hle
     rintro e w2 ⟨rfl, o2⟩
     have HOX2 : Hid _ := HOX.out.trans o2 (fun _ _ h => h)
     clear o2 HOX
     go_wp2_with fail
     go_ret
     have hc : hintC s node x.abs = -1 := by
      unfold hintC
      rw [if_neg (by rw [show (nodeOk node && (keyB x.abs.key && mayS x.abs.f x.abs.l)) = true from HMM.out]; simp), if_neg (fun h => by rw [show (fndGH HK.nk (node, x.abs.key) s.2).isSome = true from HTH.out.symm] at h; cases h.1), if_pos ⟨HTH.out.symm, HLE.out⟩]
     have ha : hintA most rs s node x.abs = ⟨0, rs, s⟩ := by unfold hintA; rw [hc]; rfl
     rw [ha]
     exact ⟨rfl, D, S, HH0.out.free HOX2.out, ⟨HOX2.out.mono (fun _ _ h => h.elim), fun _ h => .inl h, fun _ h => .inl h⟩⟩
theorem unh_ok {s : PS} (h : OkP s) {node : Int} {key : ByteArray} (hf : (fndGH HK.nk (node, key) s.2).isSome = true) : OkR ⟨3, node, ⟨key, zer, []⟩⟩ := by
 obtain ⟨u, hu⟩ := Option.isSome_iff_exists.1 hf
 obtain ⟨hm, hk⟩ := fnd_memH HK.nk hu
 obtain ⟨k1, k2⟩ := h.hint hm
 have e1 : u.node = node := congrArg Prod.fst hk
 have e2 : u.k.key = key := congrArg Prod.snd hk
 exact ⟨.inr (.inr (.inl ⟨rfl, by rw [← e1]; exact k1, by rw [← e2]; exact k2.key, rfl, rfl⟩))⟩
theorem unh_do (s : PS) (node : Int) (k : K) : (doR s ⟨3, node, k⟩).isSome = true := by
 unfold doR
 simp only [show ¬ (3 : Nat) = 1 by decide, show ¬ (3 : Nat) = 2 by decide, if_false, if_true]
 rfl
theorem rea_do (s : PS) (k : K) : (doR s ⟨4, 0, k⟩).isSome = true := by
 unfold doR
 simp only [show ¬ (4 : Nat) = 1 by decide, show ¬ (4 : Nat) = 2 by decide, show ¬ (4 : Nat) = 3 by decide, if_false]
 rfl
theorem rea_ok {s : PS} (h : OkP s) {key : ByteArray} (hb : reaB s key = true) : OkR ⟨4, 0, ⟨key, zer, []⟩⟩ := by
 unfold reaB getK at hb
 cases e : fndG K.key key s.1 with
 | none =>
  rw [e] at hb
  have : sameS zer (reapV zer []) [] (reapL zer []) = true := reap_zero
  simp only [Option.getD_none, this, Bool.not_true] at hb
  cases hb
 | some u =>
  obtain ⟨hm, hk⟩ := fnd_mem K.key e
  exact ⟨.inr (.inr (.inr ⟨rfl, rfl, by rw [← hk]; exact (h.ok u hm).key, rfl, rfl⟩))⟩
set_option maxRecDepth 100000 in
set_option maxHeartbeats 2000000 in
theorem lunhint_any {D S : Nat → Prop} {p lb b most : Nat} {rs : List (List Nat)} {s : PS} {w : World} (h : Hol D S p lb b most rs s w) (node : Int) (key : ByteArray) (f0 : Nat → Int) (sa : Option Addr) (sc : Nat) (l0 : List V) (hr : Row w sa sc l0) :
  Calls Tryz.prog 24 #[.pointer (some ⟨p, 0, none⟩), .int .i64 node, .string key, .agg #[.int .i64 (f0 0), .int .i64 (f0 1), .int .i64 (f0 2), .int .i64 (f0 3), .int .i64 (f0 4), .int .i64 (f0 5), .int .i64 (f0 6), .int .i64 (f0 7), .slice sa l0.length sc]] w fun e w' => e = .returned (.tuple #[.bool (unhC most rs s node key f0 (cont l0)), .int .i64 (unhA most rs s node key f0 (cont l0)).er]) ∧ ∃ D' S', Hol D' S' p lb b most (unhA most rs s node key f0 (cont l0)).rs (unhA most rs s node key f0 (cont l0)).s w' ∧ Mov D S D' S' w w' := by
 have hq := eql_sto
 obtain ⟨W, hW⟩ : ∃ W, W = (w.alloc (.cells #[.int .i64 (f0 0), .int .i64 (f0 1), .int .i64 (f0 2), .int .i64 (f0 3), .int .i64 (f0 4), .int .i64 (f0 5), .int .i64 (f0 6), .int .i64 (f0 7), .slice sa l0.length sc] 47)) := ⟨_, rfl⟩
 have O : Off (fun _ => False) w W := by rw [hW]; exact (Off.refl _ w).alloc _
 have C : Cel w.heap.size 47 #[.int .i64 (f0 0), .int .i64 (f0 1), .int .i64 (f0 2), .int .i64 (f0 3), .int .i64 (f0 4), .int .i64 (f0 5), .int .i64 (f0 6), .int .i64 (f0 7), .slice sa l0.length sc] W := by rw [hW]; exact Cel.new w _ _
 have HH0 : Hid _ := h
 have HR0 : Hid _ := hr
 have HW : Hid _ := hW
 have HC : Hid _ := C
 have HO : Hid _ := O
 clear h hW C O hr
 go_enter Tryz.func24, Tryz.ntmps24
 go_upto_region 1 with fail
 rw [show (w.alloc (.cells #[.int .i64 (f0 0), .int .i64 (f0 1), .int .i64 (f0 2), .int .i64 (f0 3), .int .i64 (f0 4), .int .i64 (f0 5), .int .i64 (f0 6), .int .i64 (f0 7), .slice sa l0.length sc] 47)) = W from HW.out.symm]
 go_wp2_with fail
 refine (keptFor_any (HH0.out.cor.free HO.out) node key).mono ?_
 rintro e w1 ⟨f, a, c, l, rfl, hf, hl, row, ter, o1⟩
 have HF : Hid _ := hf
 have HL : Hid _ := hl
 obtain ⟨th, hth⟩ : ∃ th, th = (fndGH HK.nk (node, key) s.2).isSome := ⟨_, rfl⟩
 rw [← hth]
 have HTH : Hid _ := hth
 clear hf hl hth
 go_upto_region 4 with fail
 have CQ := Cel.new w1 47 #[.int .i64 (f 0), .int .i64 (f 1), .int .i64 (f 2), .int .i64 (f 3), .int .i64 (f 4), .int .i64 (f 5), .int .i64 (f 6), .int .i64 (f 7), .slice a l.length c]
 have OA : Off (fun _ => False) w1 (w1.alloc (.cells #[.int .i64 (f 0), .int .i64 (f 1), .int .i64 (f 2), .int .i64 (f 3), .int .i64 (f 4), .int .i64 (f 5), .int .i64 (f 6), .int .i64 (f 7), .slice a l.length c] 47)) := (Off.refl _ w1).alloc _
 generalize hv : w1.alloc (.cells #[.int .i64 (f 0), .int .i64 (f 1), .int .i64 (f 2), .int .i64 (f 3), .int .i64 (f 4), .int .i64 (f 5), .int .i64 (f 6), .int .i64 (f 7), .slice a l.length c] 47) = V at CQ OA ⊢
 generalize hqq : w1.heap.size = q at CQ ⊢
 have OV : Off (fun _ => False) W V := o1.trans OA (fun _ _ h => h)
 have HZQ : Hid _ := CQ
 have HRV : Hid _ := row.off OA
 have HXE : Hid _ := HC.out.off OV (fun h => h)
 have HOX : Hid _ := HO.out.trans OV (fun _ _ h => h)
 clear hv hqq CQ OA OV o1 row ter HC HO
 cases th with
 | false =>
  go_wp2_with fail
  go_ret2
  have hb : unhB s node key f0 (cont l0) = false := by unfold unhB; rw [← HTH.out]; rfl
  have ha : unhA most rs s node key f0 (cont l0) = ⟨0, rs, s⟩ := by unfold unhA; rw [hb]; rfl
  have hc : unhC most rs s node key f0 (cont l0) = false := by unfold unhC; rw [hb]; rfl
  rw [ha, hc]
  exact ⟨rfl, D, S, HH0.out.free HOX.out, ⟨HOX.out.mono (fun _ _ h => h.elim), fun _ h => .inl h, fun _ h => .inl h⟩⟩
 | true =>
  obtain ⟨y0, y1, y2, y3, y4, y5, y6, y7, y8⟩ := cel9 HZQ.out
  obtain ⟨u0, u1, u2, u3, u4, u5, u6, u7, u8⟩ := cel9 HXE.out
  go_wp2_with fail
  clear y0 y1 y2 y3 y4 y5 y6 y7 y8 u0 u1 u2 u3 u4 u5 u6 u7 u8
  refine (sleq_any f f0 a sa c sc l l0 _ HRV.out (HR0.out.off HOX.out)).mono ?_
  rw [HF.out, HL.out]
  cases hle : leqS (getH s.2 node key).f f0 (getH s.2 node key).l (cont l0)
  ·have HLE : Hid _ := hle
   clear hle
   rintro e w2 ⟨rfl, o2⟩
   have HOX2 : Hid _ := HOX.out.trans o2 (fun _ _ h => h)
   clear o2 HOX
   go_wp2_with fail
   go_ret2
   have hb : unhB s node key f0 (cont l0) = false := by unfold unhB; rw [HLE.out, Bool.and_false]
   have ha : unhA most rs s node key f0 (cont l0) = ⟨0, rs, s⟩ := by unfold unhA; rw [hb]; rfl
   have hc : unhC most rs s node key f0 (cont l0) = false := by unfold unhC; rw [hb]; rfl
   rw [ha, hc]
   exact ⟨rfl, D, S, HH0.out.free HOX2.out, ⟨HOX2.out.mono (fun _ _ h => h.elim), fun _ h => .inl h, fun _ h => .inl h⟩⟩
  ·have HLE : Hid _ := hle
   clear hle
   rintro e w2 ⟨rfl, o2⟩
   have HOX2 : Hid _ := HOX.out.trans o2 (fun _ _ h => h)
   clear o2 HOX
   go_wp2_with fail
   refine (drops_any node key _).mono ?_
   rintro e w3 ⟨x, rfl, hx, o3⟩
   have HX : Hid (x.abs = ⟨key, zer, []⟩) := by rw [hx]; rfl
   have HRX : Hid (∀ v, Row v x.a x.cap x.l) := fun v => by rw [hx]; exact Row.nil _ none 0 (by omega)
   have HTX : Hid (Ter (fun c => ¬ D c ∧ ¬ S c) x.a x.l) := by rw [hx]; exact Ter.nil _ _
   have HO3 : Hid _ := HOX2.out.trans o3 (fun _ _ h => h)
   clear o3 hx
   go_wp2_with fail
   refine (changed_any 3 node x (HH0.out.free HO3.out) (HRX.out _) HTX.out (by rw [HX.out]; exact unh_ok HH0.out.inv.ok HTH.out.symm) (unh_do s node x.abs)).mono ?_
   rintro e w4 ⟨rfl, D', S', hol, mv⟩
   rw [HX.out] at hol
   have HHOL : Hid _ := hol
   have HMV : Hid _ := mv
   clear hol mv
   obtain ⟨ce, hce⟩ : ∃ ce, ce = chE most rs s ⟨3, node, x.abs⟩ := ⟨_, rfl⟩
   rw [← hce]
   rw [HX.out] at hce
   have HCE : Hid _ := hce
   clear hce
   go_wp2_with fail
   go_ret2
   have hb : unhB s node key f0 (cont l0) = true := by unfold unhB; rw [HLE.out, ← HTH.out]; rfl
   have ha : unhA most rs s node key f0 (cont l0) = chA most rs s ⟨3, node, ⟨key, zer, []⟩⟩ := by unfold unhA; rw [if_pos hb]
   have hc : unhC most rs s node key f0 (cont l0) = (ce == 0) := by unfold unhC; rw [hb, HCE.out]; rfl
   rw [ha, hc]
   refine ⟨?_, D', S', HHOL.out, Mov.after HO3.out HMV.out⟩
   show _ = Ending.returned (Value.tuple #[_, .int .i64 (chE most rs s ⟨3, node, ⟨key, zer, []⟩⟩)])
   rw [← HCE.out]
   rfl
set_option maxRecDepth 100000 in
set_option maxHeartbeats 2000000 in
theorem lreap_any {D S : Nat → Prop} {p lb b most : Nat} {rs : List (List Nat)} {s : PS} {w : World} (h : Hol D S p lb b most rs s w) (key : ByteArray) (hks : key.size ≤ 9223372036854775807) :
  Calls Tryz.prog 25 #[.pointer (some ⟨p, 0, none⟩), .string key] w fun e w' => e = .returned (.tuple #[.bool (reaC most rs s key), .int .i64 (reaA most rs s key).er]) ∧ ∃ D' S', Hol D' S' p lb b most (reaA most rs s key).rs (reaA most rs s key).s w' ∧ Mov D S D' S' w w' := by
 have hq := eql_sto
 obtain ⟨tp, tb, t, c1, tab, ht, hf⟩ := h.cor.tab
 have HGET : Hid _ := kget_any tab ht hf key hks
 have HH0 : Hid _ := h
 clear h tab ht hf
 go_enter Tryz.func25, Tryz.ntmps25
 go_wp2_with fail
 refine Calls.mono HGET.out ?_
 rintro e w1 ⟨f, a, c, l, rfl, hf, hl, row, far, o1⟩
 have HF : Hid _ := hf
 have HL : Hid _ := hl
 generalize (fndG K.key key s.1).isSome = th
 clear hf hl HGET c1
 go_upto_region 4 with fail
 have CQ := Cel.new w1 47 #[.int .i64 (f 0), .int .i64 (f 1), .int .i64 (f 2), .int .i64 (f 3), .int .i64 (f 4), .int .i64 (f 5), .int .i64 (f 6), .int .i64 (f 7), .slice a l.length c]
 have OA : Off (fun _ => False) w1 (w1.alloc (.cells #[.int .i64 (f 0), .int .i64 (f 1), .int .i64 (f 2), .int .i64 (f 3), .int .i64 (f 4), .int .i64 (f 5), .int .i64 (f 6), .int .i64 (f 7), .slice a l.length c] 47)) := (Off.refl _ w1).alloc _
 generalize hv : w1.alloc (.cells #[.int .i64 (f 0), .int .i64 (f 1), .int .i64 (f 2), .int .i64 (f 3), .int .i64 (f 4), .int .i64 (f 5), .int .i64 (f 6), .int .i64 (f 7), .slice a l.length c] 47) = V at CQ OA ⊢
 generalize hqq : w1.heap.size = q at CQ ⊢
 have HZQ : Hid _ := CQ
 have HRV : Hid _ := row.off OA
 have HOX : Hid _ := o1.trans OA (fun _ _ h => h)
 clear hv hqq CQ OA o1 row far
 refine wp_region_held_drew (S := fun w' => Off (fun _ => False) V w') (by kernel_rfl) ((Off.refl _ V).drew) (fun hS => ?_)
 refine take_at (i := 0) 19 (v := .agg #[(.int .i64 (f 0)), (.int .i64 (f 1)), (.int .i64 (f 2)), (.int .i64 (f 3)), (.int .i64 (f 4)), (.int .i64 (f 5)), (.int .i64 (f 6)), (.int .i64 (f 7)), (.slice a l.length c)]) rfl rfl (by kernel_rfl) (by kernel_rfl) (by kernel_rfl) (fun _ _ _ h => h) (Or.inl ⟨by rfl, fun w' hw' => by obtain ⟨y0, y1, y2, y3, y4, y5, y6, y7, y8⟩ := cel9 (HZQ.out.off hw' (fun h => h)); go_simp⟩) hS ?_
 simp only [Act.put, lsA, lsZ, lsS]
 refine take_at (i := 1) 20 (v := .agg #[(.int .i64 (f 0)), (.int .i64 (f 1)), (.int .i64 (f 2)), (.int .i64 (f 3)), (.int .i64 (f 4)), (.int .i64 (f 5)), (.int .i64 (f 6)), (.int .i64 (f 7)), (.slice a l.length c)]) rfl rfl (by kernel_rfl) (by kernel_rfl) (by kernel_rfl) (fun _ _ _ h => h) (Or.inl ⟨by rfl, fun w' hw' => by obtain ⟨y0, y1, y2, y3, y4, y5, y6, y7, y8⟩ := cel9 (HZQ.out.off hw' (fun h => h)); go_simp⟩) hS ?_
 simp only [Act.put, lsA, lsZ, lsS]
 refine wpAnyH_ready (rs := [2]) (by kernel_rfl) (by simp) ?_
 refine AllReadyH.cons rfl (fun K' hK' => ?_) AllReadyH.nil
 go_simp
 refine (sreap_any f a c l _ (HRV.out.off hS)).mono ?_
 rintro e w2 ⟨h2, a2, c2, l2, rfl, hh2, hl2, mk, o2⟩
 refine hK'.out _ _ (hS.trans o2 (fun _ _ h => h)) (fun hS => ?_)
 clear hK' K'
 rw [HF.out, HL.out] at hh2 hl2
 have HH2 : Hid _ := hh2
 have HL2 : Hid _ := hl2
 have HR2 : Hid _ := mk.row
 have HO2 : Hid _ := hS
 clear hh2 hl2 mk o2
 refine wpAnyH_ready (rs := [3]) (by kernel_rfl) (by simp) ?_
 refine AllReadyH.cons rfl (fun K' hK' => ?_) AllReadyH.nil
 go_simp
 refine (ssame_any f h2 a a2 c c2 l l2 _ (HRV.out.off hS) HR2.out).mono ?_
 rintro e w3 ⟨rfl, o3⟩
 refine hK'.out _ _ (hS.trans o3 (fun _ _ h => h)) (fun hS => ?_)
 clear hK' K'
 have HO3 : Hid _ := HOX.out.trans hS (fun _ _ h => h)
 clear o3
 refine wpAnyH_done (by kernel_rfl) ?_ _
 clear hS
 have hre : reaB s key = !sameS f h2 (cont l) (cont l2) := by unfold reaB; rw [HF.out, HL.out, HH2.out, HL2.out]
 cases hs : sameS f h2 (cont l) (cont l2)
 ·rw [hs] at hre
  have HB : Hid (reaB s key = true) := hre
  clear hre hs
  go_wp2_with fail
  refine (reaps_any key _).mono ?_
  rintro e w4 ⟨x, rfl, hx, o4⟩
  have HX : Hid (x.abs = ⟨key, zer, []⟩) := by rw [hx]; rfl
  have HRX : Hid (∀ v, Row v x.a x.cap x.l) := fun v => by rw [hx]; exact Row.nil _ none 0 (by omega)
  have HTX : Hid (Ter (fun c => ¬ D c ∧ ¬ S c) x.a x.l) := by rw [hx]; exact Ter.nil _ _
  have HO4 : Hid _ := HO3.out.trans o4 (fun _ _ h => h)
  clear o4 hx
  go_wp2_with fail
  refine (changed_any 4 0 x (HH0.out.free HO4.out) (HRX.out _) HTX.out (by rw [HX.out]; exact rea_ok HH0.out.inv.ok HB.out) (rea_do s x.abs)).mono ?_
  rintro e w5 ⟨rfl, D', S', hol, mv⟩
  rw [HX.out] at hol
  have HHOL : Hid _ := hol
  have HMV : Hid _ := mv
  clear hol mv
  obtain ⟨ce, hce⟩ : ∃ ce, ce = chE most rs s ⟨4, 0, x.abs⟩ := ⟨_, rfl⟩
  rw [← hce]
  rw [HX.out] at hce
  have HCE : Hid _ := hce
  clear hce
  go_wp2_with fail
  go_ret2
  have ha : reaA most rs s key = chA most rs s ⟨4, 0, ⟨key, zer, []⟩⟩ := by unfold reaA; rw [if_pos HB.out]
  have hc : reaC most rs s key = (ce == 0) := by unfold reaC; rw [HB.out, HCE.out]; rfl
  rw [ha, hc]
  refine ⟨?_, D', S', HHOL.out, Mov.after HO4.out HMV.out⟩
  show _ = Ending.returned (Value.tuple #[_, .int .i64 (chE most rs s ⟨4, 0, ⟨key, zer, []⟩⟩)])
  rw [← HCE.out]
  rfl
 ·rw [hs] at hre
  have HB : Hid (reaB s key = false) := hre
  clear hre hs
  go_wp2_with fail
  go_ret2
  have ha : reaA most rs s key = ⟨0, rs, s⟩ := by unfold reaA; rw [HB.out]; rfl
  have hc : reaC most rs s key = false := by unfold reaC; rw [HB.out]; rfl
  rw [ha, hc]
  exact ⟨rfl, D, S, HH0.out.free HO3.out, ⟨HO3.out.mono (fun _ _ h => h.elim), fun _ h => .inl h, fun _ h => .inl h⟩⟩
end Go.Proofs.YthjbnpaghiojlaaGreat
