/- Items of several texts. -/
import Derived.Deep.Cut
import Derived.Test.YtmjmgdbhmbjmaaaESam
namespace Go.Proofs.Ytmjmgdbhmbjmaaa
open Go.RowKit
set_option maxRecDepth 100000 in
set_option maxHeartbeats 1000000 in
theorem copied_any (v : V) (w : World) (hv : VOk w v) :
  Calls Try.prog 54 #[.agg #[.int .i64 v.node, .int .i64 v.num, .slice v.ad v.data.length v.cap, .bool v.dead]] w fun e w' => ∃ u : V, e = .returned (.agg #[.int .i64 u.node, .int .i64 u.num, .slice u.ad u.data.length u.cap, .bool u.dead]) ∧ u.abs = v.abs ∧ OwnR w' u.ad u.cap u.data ∧ VOk w' u ∧ (∀ k, blk u.ad = some k → w.heap.size ≤ k) ∧ Off (fun _ => False) w w' := by
 obtain ⟨W, hW⟩ : ∃ W, W = ((w.alloc (.cells #[.int .i64 v.node, .int .i64 v.num, .slice v.ad v.data.length v.cap, .bool v.dead] 92)).alloc (.cells #[.int .i64 zeroV.node, .int .i64 zeroV.num, .slice zeroV.ad zeroV.data.length zeroV.cap, .bool zeroV.dead] 92)) := ⟨_, rfl⟩
 have O : Off (fun _ => False) w W := by rw [hW]; exact ((Off.refl _ w).alloc _).alloc _
 have C0 : Cel w.heap.size 92 #[.int .i64 v.node, .int .i64 v.num, .slice v.ad v.data.length v.cap, .bool v.dead] W := by rw [hW]; exact (Cel.new w _ _).alloc _
 have C1 : Cel (w.heap.size + 1) 92 #[.int .i64 zeroV.node, .int .i64 zeroV.num, .slice zeroV.ad zeroV.data.length zeroV.cap, .bool zeroV.dead] W := by rw [hW]; exact Cel.new1 w _ _ _
 have HSR : Hid _ := hv.src.off O (fun _ _ _ h => h)
 have HC1 : Hid _ := C1
 have HC0 : Hid _ := C0
 have HO0 : Hid _ := O
 obtain ⟨x0, x1, x2, x3⟩ := cel4 C0
 have HW : Hid _ := hW
 have hlen := hv.len
 clear C0 C1 hW O
 go_enter Try.func54, Try.ntmps54
 go_upto_region 1 with fail
 have eW : ((w.alloc (.cells #[.int .i64 v.node, .int .i64 v.num, .slice v.ad v.data.length v.cap, .bool v.dead] 92)).alloc (.cells #[.int .i64 0, .int .i64 0, .slice none 0 0, .bool false] 92)) = W := HW.out.symm
 rw [eW]
 clear eW HW
 go_upto_region 2 with (at_builtin; refine wpList_app rfl (.const (.slice none 0 0)) (.tmp 4) rfl none 0 [] rfl (OwnR.nil _) v.ad v.cap v.data rfl HSR.out (by simp; omega) ?_; intro t c w1 ys hys own off1 at1; have o1 : Off (fun _ => False) W w1 := off1.mono (fun i _ h => by simp [blk] at h); have D0 := HC0.out.off o1 (fun h => h); have D1 := HC1.out.off o1 (fun h => h); have HOW : Hid _ := own; have HYS : Hid (ys = v.data) := (by show ys = v.data; rw [hys.out]; simp); have HN : Hid (∀ k, blk t = some k → W.heap.size ≤ k) := (fun k hk => by rcases at1 with e | e <;> (rw [e] at hk; simp [blk] at hk <;> omega)); have HO1 : Hid _ := HO0.out.trans o1 (fun _ _ h => h); clear own off1 at1 o1 hys; clear x0 x1 x2 x3; obtain ⟨x0, x1, x2, x3⟩ := cel4 D0; have f0 := D0.free)
 have E0 : Cel w.heap.size 92 #[.int .i64 (⟨v.node, v.num, t, c, ys, v.dead⟩ : V).node, .int .i64 (⟨v.node, v.num, t, c, ys, v.dead⟩ : V).num, .slice (⟨v.node, v.num, t, c, ys, v.dead⟩ : V).ad (⟨v.node, v.num, t, c, ys, v.dead⟩ : V).data.length (⟨v.node, v.num, t, c, ys, v.dead⟩ : V).cap, .bool (⟨v.node, v.num, t, c, ys, v.dead⟩ : V).dead] (w1.setCell ⟨w.heap.size, 2, none⟩ (.slice t ys.length c)) := by
  have := D0.set 2 (.slice t ys.length c)
  simpa using this
 have E1 : Cel (w.heap.size + 1) 92 #[.int .i64 zeroV.node, .int .i64 zeroV.num, .slice zeroV.ad zeroV.data.length zeroV.cap, .bool zeroV.dead] (w1.setCell ⟨w.heap.size, 2, none⟩ (.slice t ys.length c)) := D1.other (by simp) _
 have HE1 : Hid _ := E1
 clear x0 x1 x2 x3 f0
 obtain ⟨x0, x1, x2, x3⟩ := cel4 E0
 obtain ⟨z0, z1, z2, z3⟩ := cel4 E1
 have f0 := E0.free
 have f1 := E1.free
 clear E0 E1 D0 D1
 have hne : ∀ k, blk t = some k → k ≠ w.heap.size ∧ k ≠ w.heap.size + 1 := fun k hk => by
  have h1 := HN.out k hk
  have h2 := HC1.out.lt
  constructor <;> omega
 have HNE : Hid _ := hne
 clear hne
 go_wp2_with fail
 refine bodyPost_ret (results_val rfl rfl (HE1.out.st4 ⟨v.node, v.num, t, c, ys, v.dead⟩)) rfl ?_
 have OF : Off (fun _ => False) w ((((((w1.setCell ⟨w.heap.size, 2, none⟩ (.slice t ys.length c)).setCell ⟨w.heap.size + 1, 0, none⟩ (.int .i64 v.node)).setCell ⟨w.heap.size + 1, 1, none⟩ (.int .i64 v.num)).setCell ⟨w.heap.size + 1, 2, none⟩ (.slice t ys.length c)).setCell ⟨w.heap.size + 1, 3, none⟩ (.bool v.dead))) := (HO1.out.setCell (.inr (by simp)) _).st4 (.inr (by omega)) ⟨v.node, v.num, t, c, ys, v.dead⟩
 have OWN : OwnR ((((((w1.setCell ⟨w.heap.size, 2, none⟩ (.slice t ys.length c)).setCell ⟨w.heap.size + 1, 0, none⟩ (.int .i64 v.node)).setCell ⟨w.heap.size + 1, 1, none⟩ (.int .i64 v.num)).setCell ⟨w.heap.size + 1, 2, none⟩ (.slice t ys.length c)).setCell ⟨w.heap.size + 1, 3, none⟩ (.bool v.dead))) t c ys := by
  refine HOW.out.off (D := fun k => k = w.heap.size ∨ k = w.heap.size + 1) (((Off.refl _ w1).setCell (.inl (.inl rfl)) _).st4 (.inl (.inr rfl)) ⟨v.node, v.num, t, c, ys, v.dead⟩) (fun k _ hk h => ?_)
  have := HNE.out k hk
  omega
 have hyl : ∀ x ∈ ys, x < 256 := by rw [HYS.out]; exact hv.lt
 have hyn : ys.length ≤ 140737488351232 := by rw [HYS.out]; exact hv.len
 exact ⟨⟨v.node, v.num, t, c, ys, v.dead⟩, rfl, by show A.mk v.node v.num ys v.dead = _; rw [HYS.out]; rfl, OWN, ⟨OWN.src, hyl, hv.n0, hv.n1, hv.m0, hv.m1, hyn⟩, fun k hk => Nat.le_trans HO0.out.size (HN.out k hk), OF⟩
set_option maxRecDepth 100000 in
set_option maxHeartbeats 1000000 in
theorem find_any (f : Nat → Int) (a : Option Addr) (ca : Nat) (l : List V) (n N : Int) (w : World) (hr : Row w a ca l) :
  Calls Try.prog 52 #[.agg #[.int .i64 (f 0), .int .i64 (f 1), .int .i64 (f 2), .int .i64 (f 3), .int .i64 (f 4), .int .i64 (f 5), .int .i64 (f 6), .int .i64 (f 7), .slice a l.length ca], .agg #[.int .i64 n, .int .i64 N]] w fun e w' => ∃ r : Int, e = .returned (.int .i64 r) ∧ ((r = -1 ∧ ∀ x ∈ l, ¬ (x.node = n ∧ x.num = N)) ∨ ∃ (i : Nat) (x : V), r = (i : Int) ∧ l[i]? = some x ∧ x.node = n ∧ x.num = N) ∧ Off (fun _ => False) w w' := by
 obtain ⟨W, hW⟩ : ∃ W, W = ((w.alloc (.cells #[.int .i64 (f 0), .int .i64 (f 1), .int .i64 (f 2), .int .i64 (f 3), .int .i64 (f 4), .int .i64 (f 5), .int .i64 (f 6), .int .i64 (f 7), .slice a l.length ca] 33)).alloc (.cells #[.int .i64 n, .int .i64 N] 89)) := ⟨_, rfl⟩
 have O : Off (fun _ => False) w W := by rw [hW]; exact ((Off.refl _ w).alloc _).alloc _
 have C0 : Cel w.heap.size 33 #[.int .i64 (f 0), .int .i64 (f 1), .int .i64 (f 2), .int .i64 (f 3), .int .i64 (f 4), .int .i64 (f 5), .int .i64 (f 6), .int .i64 (f 7), .slice a l.length ca] W := by rw [hW]; exact (Cel.new w _ _).alloc _
 have C1 : Cel (w.heap.size + 1) 89 #[.int .i64 n, .int .i64 N] W := by rw [hW]; exact Cel.new1 w _ _ _
 have HW : Hid _ := hW.symm
 have H0 : Hid _ := C0
 have H1 : Hid _ := C1
 have HO : Hid _ := O
 have HR : Hid _ := hr.off O
 clear hW C0 C1 O hr
 go_enter Try.func52, Try.ntmps52
 go_upto_region 1 with fail
 rw [HW.out]
 generalize hq1 : w.heap.size + 1 = q1 at H1 ⊢
 generalize hq0 : w.heap.size = q0 at H0 ⊢
 clear hq0 hq1 HW
 obtain ⟨x0, x1, x2, x3, x4, x5, x6, x7, x8⟩ := cel9 H0.out
 go_wp2_with fail
 clear x0 x1 x2 x3 x4 x5 x6 x7 x8
 go_loopw [10] (fun y wr => ∃ m : Nat, y = .int .i64 (m : Int) ∧ m ≤ l.length ∧ (∀ j x, j < m → l[j]? = some x → ¬ (x.node = n ∧ x.num = N)) ∧ Off (fun _ => False) W wr) (fun y _ => (l.length - intOf y).toNat)
 case atStart => exact ⟨0, rfl, by omega, fun j x h => by omega, Off.refl _ _⟩
 case round =>
  obtain ⟨m, rfl, hm, hup, oo⟩ := hrel
  have HUP : Hid _ := hup
  have HP : Hid _ := oo
  clear hup oo
  by_cases hlm : m < l.length
  ·have i1 : decide ((m : Int) < (l.length : Int)) = true := decide_eq_true (by omega)
   have i2 : decide (m < l.length) = true := decide_eq_true hlm
   have hlb : l.length ≤ 9223372036854775807 := by have := HR.out.len; have := HR.out.bound; omega
   obtain ⟨x, hx⟩ : ∃ x, l[m]? = some x := ⟨_, List.getElem?_eq_getElem hlm⟩
   obtain ⟨ba, fa, hay, h4, -⟩ := HR.out.at_ m x hx
   obtain ⟨c0, c1, c2, c3⟩ := h4.off HP.out (fun _ h => h)
   have HX : Hid _ := hx
   clear hx h4
   subst hay
   go_upto_region 4 with fail
   have Cqv := Cel.new wr 92 #[.int .i64 x.node, .int .i64 x.num, .slice x.ad x.data.length x.cap, .bool x.dead]
   have OA : Off (fun _ => False) wr (wr.alloc (.cells #[.int .i64 x.node, .int .i64 x.num, .slice x.ad x.data.length x.cap, .bool x.dead] 92)) := (Off.refl _ wr).alloc _
   generalize hq : wr.heap.size = qv at Cqv ⊢
   generalize hv : wr.alloc (.cells #[.int .i64 x.node, .int .i64 x.num, .slice x.ad x.data.length x.cap, .bool x.dead] 92) = Vqv at Cqv OA ⊢
   clear hq hv c0 c1 c2 c3
   have HPV : Hid _ := HP.out.trans OA (fun _ _ h => h)
   obtain ⟨e0, e1, e2, e3⟩ := cel4 Cqv
   have D1 := H1.out.off HPV.out (fun h => h)
   have d0 : Vqv.cell? ⟨q1, 0, none⟩ = some (.int .i64 n) := (D1.cell 0).trans rfl
   have d1 : Vqv.cell? ⟨q1, 1, none⟩ = some (.int .i64 N) := (D1.cell 1).trans rfl
   have hdd := eql_dot x.node x.num n N
   clear Cqv OA D1 HP
   cases hdt : decide (x.node = n ∧ x.num = N)
   ·rw [hdt] at hdd
    have HDT : Hid (¬ (x.node = n ∧ x.num = N)) := of_decide_eq_false hdt
    clear hdt
    go_wp2_with fail
    go_roundw
    case rel => exact ⟨m + 1, by go_num, by omega, fun j y hj hy => by
     rcases Nat.lt_or_ge j m with h | h
     ·exact HUP.out j y h hy
     ·obtain rfl : j = m := by omega
      have hX := HX.out
      rw [hX] at hy
      cases hy
      exact HDT.out, HPV.out⟩
    case measure => simp [intOf]; omega
   ·rw [hdt] at hdd
    have hdt2 : x.node = n ∧ x.num = N := by simpa using hdt
    have HDT : Hid _ := hdt2
    clear hdt hdt2
    go_wp2_with fail
    go_ret
    exact ⟨m, rfl, .inr ⟨m, x, rfl, HX.out, HDT.out.1, HDT.out.2⟩, HO.out.trans HPV.out (fun _ _ h => h)⟩
  ·have i1 : decide ((m : Int) < (l.length : Int)) = false := decide_eq_false (by omega)
   have i2 : decide (m < l.length) = false := decide_eq_false hlm
   go_wp2_with fail
   go_ret
   refine ⟨-1, rfl, .inl ⟨rfl, fun x hx => ?_⟩, HO.out.trans HP.out (fun _ _ h => h)⟩
   obtain ⟨j, hj⟩ := List.getElem?_of_mem hx
   obtain ⟨hj2, -⟩ := List.getElem?_eq_some_iff.1 hj
   exact HUP.out j x (by omega) hj
end Go.Proofs.Ytmjmgdbhmbjmaaa
