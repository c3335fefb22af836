/- Items of several texts. -/
import Derived.Test.YtmeclfgehpbjlaaYQj18
namespace Go.Proofs.Ytmeclfgehpbjlaa
set_option maxRecDepth 100000
open Go.RowKit
theorem offN {D : Nat → Prop} {a w : World} (h : Off D a w) (n : Nat) : Off D a (w.drewN n) := ⟨h.os, h.tape, h.output, h.size, h.block⟩
theorem rq_end {N : Int → NF} {W : World} {R : Nat → Prop} {q : Nat} {l l' : List (Int × Int)} {most r t t' : Int} {V W3 : World} (h : RQ N W R q l most r t V) (o : Off (fun _ => False) V W3) {a2 : Option Addr} {c2 : Nat} {ys : List Wt} (own : OwnG 74 11 wcs W3 a2 c2 ys) (hn : ∀ c, blk a2 = some c → V.heap.size ≤ c) (hl : ys.length = l'.length) (hi : ∀ (i : Nat) (x : Wt) (y : Int × Int), ys[i]? = some x → l'[i]? = some y → x.base = y.2 + t' ∧ Rd N y.1 x.m W) (hf : (l'.length : Int) ≤ most) (hw : ∀ y ∈ l', -1000000000 ≤ y.2 ∧ y.2 ≤ 12) {n : Nat} (hnn : n = ys.length) :
  RQ N W (fun c => c = q ∨ blk a2 = some c) q l' most r t' (W3.setCell ⟨q, 0, none⟩ (.slice a2 n c2)) ∧ (∀ c, (c = q ∨ blk a2 = some c) → R c ∨ V.heap.size ≤ c) ∧ Off (fun c => c = q) V (W3.setCell ⟨q, 0, none⟩ (.slice a2 n c2)) := by
 obtain ⟨a, cap, xs, h1, h2, h3, h4, h5⟩ := h.is
 subst hnn
 have oq : Off (fun c => c = q) V (W3.setCell ⟨q, 0, none⟩ (.slice a2 ys.length c2)) := (o.mono (E := fun c => c = q) (fun _ _ h => h.elim)).setCell (p := ⟨q, 0, none⟩) (.inl rfl) _
 have hq := h.dlt q h.dp
 have hWV : W.heap.size ≤ V.heap.size := by omega
 have o3 : Off (fun c => c = q) W3 (W3.setCell ⟨q, 0, none⟩ (.slice a2 ys.length c2)) := (Off.refl (fun c => c = q) W3).setCell (p := ⟨q, 0, none⟩) (.inl rfl) _
 refine ⟨⟨.inl rfl, fun c hc => ?_, ⟨a2, c2, ys, (h1.off o (fun h => h)).set 0 _, own.off o3 (fun c _ hc e => ?_), fun g hg => ⟨.inr hg, fun e => ?_⟩, hl, hi⟩, ⟨hf, h.few.2.1, h.few.2.2⟩, hw, h.off.trans oq (fun i hi e => by have e : i = q := e; omega)⟩, fun c hc => ?_, oq⟩
 ·rcases hc with hc | hc
  ·rw [hc]
   exact ⟨hq.1, Nat.lt_of_lt_of_le hq.2 oq.size⟩
  ·have h7 := hn c hc
   have h8 := own.lt c hc
   have h9 := o3.size
   omega
 ·have e : c = q := e
  have := hn c hc
  omega
 ·have := hn g hg
  omega
 ·rcases hc with hc | hc
  ·rw [hc]
   exact .inl h.dp
  ·exact .inr (hn c hc)
theorem wpList_appI {w : World} {ops : Array Oper} {rest : List Oper} {o : Oper} {a : Act} {Q : Exit → Act → World → Prop} (hgd : o.guard = none) (s x : Operand)
  (ho : o.op = .call { callee := .builtin .append, args := #[s, x], argTypes := #[41, 41] })
  (tad : Option Addr) (cap : Nat) (l : List Wt) (hs : a.eval s = .slice tad l.length cap) (hown : OwnG 74 11 wcs w tad cap l)
  (xt : Option Addr) (xc : Nat) (k : List Wt) (hx : a.eval x = .slice xt k.length xc) (hr : Wns w xt xc k) (hz : xt = none → xc = 0) (hb : l.length + k.length ≤ 1000000)
  (h : ∀ t' c' w' ys, Hid (ys = l ++ k) → OwnG 74 11 wcs w' t' c' ys → Off (fun c => blk tad = some c) w w' → (blk t' = blk tad ∨ blk t' = some w.heap.size) → wpList Try.prog ops Q rest (a.put o.dst (.slice t' ys.length c')) w') :
  wpList Try.prog ops Q (o :: rest) a w := by
 obtain ⟨a', c', w', hrun, own, off, hat⟩ := app_runI hown hr hz hb o.type
 refine wpList_plain hgd fun K' hK' => ?_
 unfold Oper.wp
 simp only [execOp, ho, resolve, invoke, builtin, Sem.run_bind, Sem.run_pure, Result.andThen_ok, List.map_toArray, List.map_cons, List.map_nil, hs, hx, hrun]
 exact hK' _ _ (h a' c' w' _ (show l ++ k = l ++ k from rfl) own off hat)
def Hvy (xs ys : List Wt) (i : Nat) : Prop := ys.length = xs.length ∧ ∀ (j : Nat) (x : Wt), xs[j]? = some x → ys[j]? = some ⟨x.m, if j < i then x.base + 1 else x.base⟩
theorem Hvy.step {xs ys : List Wt} {i : Nat} {x : Wt} (h : Hvy xs ys i) (hx : xs[i]? = some x) : Hvy xs (ys.set i ⟨x.m, x.base + 1⟩) (i + 1) := by
 refine ⟨by rw [List.length_set]; exact h.1, fun j z hz => ?_⟩
 by_cases e : j = i
 ·subst e
  rw [hx] at hz
  obtain rfl := Option.some.inj hz
  have hl : j < ys.length := by
   obtain ⟨hlt, -⟩ := List.getElem?_eq_some_iff.1 hx
   rw [h.1]
   exact hlt
  rw [List.getElem?_set_self hl, if_pos (by omega)]
 ·rw [List.getElem?_set_ne (by omega), h.2 j z hz]
  by_cases hj : j < i
  ·rw [if_pos hj, if_pos (by omega)]
  ·rw [if_neg hj, if_neg (by omega)]
set_option maxHeartbeats 4000000 in
theorem rqtick_any {N : Int → NF} {W : World} {R : Nat → Prop} {q : Nat} {l : List (Int × Int)} {most r t : Int} {w : World} (h : RQ N W R q l most r t w) (ht : 0 ≤ t ∧ t ≤ 1000) :
  Calls Try.prog 18 #[.pointer (some ⟨q, 0, none⟩)] w fun e w' => ∃ R' : Nat → Prop, e = .returned (.tuple #[]) ∧ RQ N W R' q l most r (t + 1) w' ∧ (∀ c, R' c → R c ∨ w.heap.size ≤ c) ∧ Off (fun c => c = q) w w' := by
 have HR : Hid _ := h
 obtain ⟨a, cap, xs, h1, h2, h3, h4, h5⟩ := h.is
 have HP : Hid _ := h1
 have HOW : Hid _ := h2
 have HI : Hid _ := h5
 have HLX : Hid _ := h4
 have hx1 : xs.length ≤ 1000 := by have := h.few; omega
 have c0 := h1.cell 0
 have hqw := (h.dlt q h.dp).2
 have HBS : Hid (∀ x ∈ xs, -1000000000 ≤ x.base ∧ x.base ≤ 100000) := fun x hx => by
  obtain ⟨i, hi⟩ := List.mem_iff_getElem?.1 hx
  obtain ⟨hlt, -⟩ := List.getElem?_eq_some_iff.1 hi
  have hy : l[i]? = some l[i] := List.getElem?_eq_getElem (by omega)
  have g := (h5 i x _ hi hy).1
  have g2 := h.wt _ (List.mem_of_getElem? hy)
  omega
 clear h h1 h2 h3 h4 h5
 go_enter Try.func18, Try.ntmps18
 go_upto_region 1 with (at_builtin; refine wpList_appI rfl (.const (.slice none 0 0)) (.tmp 7) rfl none 0 [] rfl (OwnG.nil _ _ _ _) a cap xs rfl HOW.out.wnsI HOW.out.zerow (by show 0 + xs.length ≤ _; omega) ?_; intro a' c' w1 ys hys own1 o1 at1; have HO1 : Hid (Off (fun _ => False) w w1) := o1.mono (fun _ _ h => by cases h); have HOW1 : Hid _ := own1; have HAT : Hid _ := at1; clear own1 o1 at1 c0; have c0 := (HP.out.off HO1.out (fun h => h)).cell 0; have fz := (HP.out.off HO1.out (fun h => h)).free 0)
 obtain rfl : ys = xs := by rw [hys.out]; rfl
 clear c0 fz hys
 have OS : Off (fun c => c = q) w1 (w1.setCell ⟨q, 0, none⟩ (.slice a' ys.length c')) := (Off.refl (fun c => c = q) w1).setCell (p := ⟨q, 0, none⟩) (.inl rfl) _
 have HP2 := (HP.out.off HO1.out (fun h => h)).set 0 (.slice a' ys.length c')
 have hnq : ∀ c, blk a' = some c → w.heap.size ≤ c := fun c hc => by
  rcases HAT.out with e | e
  ·rw [e] at hc; cases hc
  ·rw [e] at hc
   have := Option.some.inj hc
   omega
 have HNQ : Hid _ := hnq
 have HOW2 : Hid (OwnG 74 11 wcs (w1.setCell ⟨q, 0, none⟩ (.slice a' ys.length c')) a' c' ys) := HOW1.out.off OS (fun c _ hc e => by have e : c = q := e; have := hnq c hc; omega)
 have HO2 : Hid (Off (fun c => c = q) w (w1.setCell ⟨q, 0, none⟩ (.slice a' ys.length c'))) := (HO1.out.mono (fun _ _ h => h.elim)).trans OS (fun _ _ h => h)
 generalize hv : w1.setCell ⟨q, 0, none⟩ (.slice a' ys.length c') = w2 at OS HP2 HOW2 HO2 ⊢
 have HP2' : Hid (Cel q 43 #[.slice a' ys.length c', .int .i64 most, .int .i64 r] w2) := HP2
 clear hv OS HP2 HOW1 HAT HO1 hnq HOW
 have c0 := HP2'.out.cell 0
 go_wp2_with fail
 go_loopw [16] (fun s wr => ∃ (i : Nat) (zs : List Wt), s = .int .i64 (i : Int) ∧ i ≤ ys.length ∧ Hid (Hvy ys zs i) ∧ Hid (OwnG 74 11 wcs wr a' c' zs) ∧ Hid (Off (fun c => blk a' = some c) w2 wr)) (fun s _ => ((ys.length : Int) - intOf s).toNat)
 case atStart => exact ⟨0, ys, rfl, by omega, ⟨rfl, fun j x hx => by rw [hx, if_neg (by omega)]⟩, HOW2.out, Off.refl _ _⟩
 case round =>
  obtain ⟨i, zs, rfl, hi, HV, HOZ, HO⟩ := hrel
  clear c0 HOW2
  have HPr : Hid (Cel q 43 #[.slice a' ys.length c', .int .i64 most, .int .i64 r] wr) := HP2'.out.off HO.out (fun e => by have := HNQ.out q e; omega)
  by_cases hlt : i < ys.length
  ·obtain ⟨x, hx⟩ : ∃ x, ys[i]? = some x := ⟨_, List.getElem?_eq_getElem hlt⟩
   have hz := HV.out.2 i x hx
   rw [if_neg (by omega)] at hz
   have hzl : zs.length = ys.length := HV.out.1
   obtain ⟨g, cur, rfl, hcel, hlc, hcm, -, -⟩ := HOZ.out.celw (fun e => by have := HOZ.out.nnw e; rw [this] at hz; simp at hz)
   obtain ⟨g', eg, hat⟩ := HOZ.out.at_ wcs_len hz
   simp only [Option.some.injEq, Addr.mk.injEq, and_true] at eg
   subst eg
   have k10 : wr.cell? ⟨g, i * 11 + 10, none⟩ = some (.int .i64 x.base) := hat 10 _ rfl
   have fz := hcel.free (i * 11 + 10)
   have hbx := HBS.out x (List.mem_of_getElem? hx)
   have hwb : IntKind.i64.wrap (x.base + 1) = x.base + 1 := by rw [IntKind.wrap_i64]; omega
   have c0 := HPr.out.cell 0
   have HX : Hid _ := hx
   have HSET : Hid (OwnG 74 11 wcs (wr.setCell ⟨g, i * 11 + 10, none⟩ (.int .i64 (x.base + 1))) (some ⟨g, 0, none⟩) c' (zs.set i ⟨x.m, x.base + 1⟩)) := HOZ.out.setAt wcs_len hz (by decide) rfl
   have HOS : Hid (Off (fun c => blk (some ⟨g, 0, none⟩) = some c) w2 (wr.setCell ⟨g, i * 11 + 10, none⟩ (.int .i64 (x.base + 1)))) := HO.out.setCell (p := ⟨g, i * 11 + 10, none⟩) (.inl rfl) _
   clear hcel hat hx hz hbx hlc hcm
   go_wp2_with fail
   go_roundw
   case rel => exact ⟨i + 1, _, by go_num, by omega, HV.out.step HX.out, HSET.out, HOS.out⟩
   case measure => simp [intOf]; omega
  ·obtain rfl : i = ys.length := by omega
   go_wp2_with fail
   go_end0
   have hzl : zs.length = ys.length := HV.out.1
   have oq : Off (fun c => c = q) w wr := ((HO2.out.mono (E := fun c => c = q ∨ w.heap.size ≤ c) (fun _ _ e => .inl e)).trans (HO.out.mono (E := fun c => c = q ∨ w.heap.size ≤ c) (fun c _ e => .inr (HNQ.out c e))) (fun _ _ e => e)).mono (fun c hc e => e.elim id (fun e => by omega))
   have hq := HR.out.dlt q HR.out.dp
   refine ⟨fun c => c = q ∨ blk a' = some c, rfl, ⟨.inl rfl, fun c hc => ?_, ⟨a', c', zs, by rw [hzl]; exact HPr.out, HOZ.out, fun g hg => ⟨.inr hg, fun e => ?_⟩, by rw [hzl]; exact HLX.out, fun i x y hx hy => ?_⟩, HR.out.few, HR.out.wt, HR.out.off.trans oq (fun i hi e => by have e : i = q := e; omega)⟩, fun c hc => ?_, oq⟩
   ·rcases hc with hc | hc
    ·rw [hc]
     exact ⟨hq.1, HPr.out.lt⟩
    ·have h7 := HNQ.out c hc
     have h8 := HOZ.out.lt c hc
     omega
   ·have := HNQ.out g hg
    omega
   ·obtain ⟨hlt2, -⟩ := List.getElem?_eq_some_iff.1 hx
    have hy0 : ys[i]? = some ys[i] := List.getElem?_eq_getElem (by omega)
    have hz := HV.out.2 i _ hy0
    rw [if_pos (by omega), hx] at hz
    obtain rfl := Option.some.inj hz
    have g := HI.out i _ y hy0 hy
    exact ⟨by show ys[i].base + 1 = _; rw [g.1]; omega, g.2⟩
   ·rcases hc with hc | hc
    ·rw [hc]
     exact .inl HR.out.dp
    ·exact .inr (HNQ.out c hc)
theorem cel_wns {b : Nat} {v : Wt} {w : World} (h : Cel b 74 #[.int .i64 v.m.k, .int .i64 v.m.fr, .int .i64 v.m.tn, .int .i64 v.m.op, .int .i64 v.m.fo, .string v.m.key, .int .i64 v.m.bk, .slice v.m.ea v.m.el v.m.ec, .slice v.m.da v.m.dl v.m.dc, .slice v.m.ma v.m.ml v.m.mc, .int .i64 v.base] w) : Wns w (some ⟨b, 0, none⟩) 1 [v] := by
 refine ⟨by simp, by omega, fun i x hi => ?_⟩
 cases i with
 | zero =>
  simp at hi
  subst hi
  refine ⟨b, 0, rfl, ⟨fun j u hj => ?_⟩⟩
  simp only [Nat.zero_mul, Nat.zero_add]
  rw [h.cell j, ← hj, List.getElem?_toArray]
  rfl
 | succ i => simp at hi
set_option maxHeartbeats 4000000 in
theorem rqput_yes {N : Int → NF} {W : World} {R : Nat → Prop} {q : Nat} {l : List (Int × Int)} {most r t : Int} {w : World} (h : RQ N W R q l most r t w) (k u : Int) (m : Mg) (hm : Rd N k m W) (hroom : (l.length : Int) < most) (ht : 0 ≤ t ∧ t ≤ 1000) :
  Calls Try.prog 13 #[.pointer (some ⟨q, 0, none⟩), (.agg #[.int .i64 m.k, .int .i64 m.fr, .int .i64 m.tn, .int .i64 m.op, .int .i64 m.fo, .string m.key, .int .i64 m.bk, .slice m.ea m.el m.ec, .slice m.da m.dl m.dc, .slice m.ma m.ml m.mc]), .int .i64 u] w fun e w' => ∃ R' : Nat → Prop, e = .returned (.int .i64 0) ∧ RQ N W R' q (l ++ [(k, wgt u - t)]) most r t w' ∧ (∀ c, R' c → R c ∨ w.heap.size ≤ c) ∧ Off (fun c => c = q) w w' := by
 have C := Cel.new w 31 #[.int .i64 m.k, .int .i64 m.fr, .int .i64 m.tn, .int .i64 m.op, .int .i64 m.fo, .string m.key, .int .i64 m.bk, .slice m.ea m.el m.ec, .slice m.da m.dl m.dc, .slice m.ma m.ml m.mc]
 have O : Off (fun _ => False) w (w.alloc (.cells #[.int .i64 m.k, .int .i64 m.fr, .int .i64 m.tn, .int .i64 m.op, .int .i64 m.fo, .string m.key, .int .i64 m.bk, .slice m.ea m.el m.ec, .slice m.da m.dl m.dc, .slice m.ma m.ml m.mc] 31)) := (Off.refl _ w).alloc _
 have h' := h.free O
 have hqw := (h.dlt q h.dp).2
 have hmn := min_int u 3
 have hmx := max_int 0 (min u 3)
 have hkb : 4 * max 0 (min u 3) = wgt u ∧ 0 ≤ max 0 (min u 3) ∧ max 0 (min u 3) ≤ 3 := by unfold wgt; omega
 generalize max 0 (min u 3) = k1 at *
 generalize min u 3 = k0 at *
 obtain ⟨hwg, hk1, hk3⟩ := hkb
 have hwm : IntKind.i64.wrap (4 * k1) = 4 * k1 := by rw [IntKind.wrap_i64]; omega
 go_enter Try.func13, Try.ntmps13
 go_upto_region 1 with fail
 generalize hv : w.alloc (.cells #[.int .i64 m.k, .int .i64 m.fr, .int .i64 m.tn, .int .i64 m.op, .int .i64 m.fo, .string m.key, .int .i64 m.bk, .slice m.ea m.el m.ec, .slice m.da m.dl m.dc, .slice m.ma m.ml m.mc] 31) = V0 at C O h' ⊢
 have HR : Hid _ := h'
 obtain ⟨a, cap, xs, h1, h2, h3, h4, h5⟩ := h'.is
 have HP : Hid _ := h1
 have HOW : Hid _ := h2
 have HZ : Hid _ := h2.zerow
 have HLX : Hid _ := h4
 have HLR : Hid _ := hroom
 have HI : Hid (∀ (i : Nat) (x : Wt) (y : Int × Int), (xs ++ [(⟨m, 4 * k1⟩ : Wt)])[i]? = some x → (l ++ [(k, wgt u - t)])[i]? = some y → x.base = y.2 + t ∧ Rd N y.1 x.m W) := fun i x y hx hy => by
  by_cases hi : i < xs.length
  ·rw [List.getElem?_append_left hi] at hx
   rw [List.getElem?_append_left (by omega)] at hy
   exact h5 i x y hx hy
  ·rw [List.getElem?_append_right (by omega)] at hx hy
   rw [h4] at hx
   cases hil : i - l.length with
   | zero =>
    rw [hil] at hx hy
    simp at hx hy
    subst hx hy
    exact ⟨by show 4 * k1 = wgt u - t + t; omega, hm⟩
   | succ n =>
    rw [hil] at hx
    simp at hx
 have HWT : Hid (∀ y ∈ l ++ [(k, wgt u - t)], -1000000000 ≤ y.2 ∧ y.2 ≤ 12) := fun y hy => by
  rcases List.mem_append.1 hy with hy | hy
  ·exact h.wt y hy
  ·rw [List.mem_singleton.1 hy]
   show _ ≤ wgt u - t ∧ wgt u - t ≤ 12
   omega
 have c0 := h1.cell 0
 have c1 := h1.cell 1
 have hx1 : xs.length ≤ 1000 := by have := h.few; omega
 have hmm : most ≤ 1000 := h.few.2.2
 have HBQ : Hid (¬ w.heap.size = q) := by show ¬ _; omega
 have HVO : Hid _ := O
 have HVW : Hid (w.heap.size ≤ V0.heap.size) := O.size
 generalize hwb : w.heap.size = b at *
 have HWB : Hid (w.heap.size = b) := hwb
 clear hwb
 have HC : Hid _ := C
 have dg : decide ((xs.length : Int) ≥ most) = false := decide_eq_false (by omega)
 have dg2 : decide (most ≤ (xs.length : Int)) = false := decide_eq_false (by omega)
 clear hv C O h h' h1 h2 h3 h4 h5 hm hroom hqw hwg
 go_upto_region 1 with fail
 go_quiet (fail)
 have OD : Off (fun _ => False) V0 (V0.drewN nq) := offN (Off.refl _ V0) nq
 generalize V0.drewN nq = V at OD ⊢
 replace HR : Hid _ := HR.out.free OD
 replace HP : Hid _ := HP.out.off OD (fun h => h)
 replace HOW : Hid _ := HOW.out.off OD (fun _ _ _ h => h)
 replace HC : Hid _ := HC.out.off OD (fun h => h)
 replace HVO : Hid _ := HVO.out.trans OD (fun _ _ h => h)
 replace HVW : Hid (b ≤ V.heap.size) := Nat.le_trans HVW.out OD.size
 clear OD
 go_upto_region 4 with fail
 clear c0 c1 dg dg2
 refine wp_region_held_drew (S := fun w' => Off (fun c => c = q) V w') (by kernel_rfl) ((Off.refl _ V).drew) (fun hS => ?_)
 refine take_at (i := 0) 24 (v := .pointer (some ⟨q, 0, none⟩)) rfl rfl (by kernel_rfl) (by kernel_rfl) (by kernel_rfl) (fun _ _ _ h => h) (Or.inl ⟨by rfl, fun w' hw' => by go_simp⟩) hS ?_
 simp only [Act.put, lsA, lsZ, lsS]
 refine take_at (i := 1) 25 (v := .pointer (some ⟨q, 0, none⟩)) rfl rfl (by kernel_rfl) (by kernel_rfl) (by kernel_rfl) (fun _ _ _ h => h) (Or.inl ⟨by rfl, fun w' hw' => by go_simp⟩) hS ?_
 simp only [Act.put, lsA, lsZ, lsS]
 refine take_at (i := 2) 26 (v := .pointer (some ⟨q, 0, none⟩)) rfl rfl (by kernel_rfl) (by kernel_rfl) (by kernel_rfl) (fun _ _ _ h => h) (Or.inl ⟨by rfl, fun w' hw' => by go_simp⟩) hS ?_
 simp only [Act.put, lsA, lsZ, lsS]
 refine take_at (i := 3) 27 (v := .pointer (some ⟨q, 0, none⟩)) rfl rfl (by kernel_rfl) (by kernel_rfl) (by kernel_rfl) (fun _ _ _ h => h) (Or.inl ⟨by rfl, fun w' hw' => by go_simp⟩) hS ?_
 simp only [Act.put, lsA, lsZ, lsS]
 refine take_at (i := 6) 30 (v := (.agg #[.int .i64 m.k, .int .i64 m.fr, .int .i64 m.tn, .int .i64 m.op, .int .i64 m.fo, .string m.key, .int .i64 m.bk, .slice m.ea m.el m.ec, .slice m.da m.dl m.dc, .slice m.ma m.ml m.mc])) rfl rfl (by kernel_rfl) (by kernel_rfl) (by kernel_rfl) (fun _ _ _ h => h) (Or.inl ⟨by rfl, fun w' hw' => by obtain ⟨x0, x1, x2, x3, x4, x5, x6, x7, x8, x9⟩ := celw10 (HC.out.off hw' HBQ.out); go_simp⟩) hS ?_
 simp only [Act.put, lsA, lsZ, lsS]
 refine take_at (i := 7) 31 (v := .int .i64 u) rfl rfl (by kernel_rfl) (by kernel_rfl) (by kernel_rfl) (fun _ _ _ h => h) (Or.inl ⟨by rfl, fun w' hw' => by go_simp⟩) hS ?_
 simp only [Act.put, lsA, lsZ, lsS]
 refine take_at (i := 8) 32 (v := .int .i64 k0) rfl rfl (by kernel_rfl) (by kernel_rfl) (by kernel_rfl) (fun _ _ _ h => h) (Or.inl ⟨by rfl, fun w' hw' => by go_simp⟩) hS ?_
 simp only [Act.put, lsA, lsZ, lsS]
 refine take_at (i := 9) 33 (v := .int .i64 k1) rfl rfl (by kernel_rfl) (by kernel_rfl) (by kernel_rfl) (fun _ _ _ h => h) (Or.inl ⟨by rfl, fun w' hw' => by go_simp⟩) hS ?_
 simp only [Act.put, lsA, lsZ, lsS]
 refine take_at (i := 10) 34 (v := .int .i64 (4 * k1)) rfl rfl (by kernel_rfl) (by kernel_rfl) (by kernel_rfl) (fun _ _ _ h => h) (Or.inl ⟨by rfl, fun w' hw' => by go_simp⟩) hS ?_
 simp only [Act.put, lsA, lsZ, lsS]
 refine take_at (i := 11) 35 (v := (.agg #[.int .i64 (⟨m, 4 * k1⟩ : Wt).m.k, .int .i64 (⟨m, 4 * k1⟩ : Wt).m.fr, .int .i64 (⟨m, 4 * k1⟩ : Wt).m.tn, .int .i64 (⟨m, 4 * k1⟩ : Wt).m.op, .int .i64 (⟨m, 4 * k1⟩ : Wt).m.fo, .string (⟨m, 4 * k1⟩ : Wt).m.key, .int .i64 (⟨m, 4 * k1⟩ : Wt).m.bk, .slice (⟨m, 4 * k1⟩ : Wt).m.ea (⟨m, 4 * k1⟩ : Wt).m.el (⟨m, 4 * k1⟩ : Wt).m.ec, .slice (⟨m, 4 * k1⟩ : Wt).m.da (⟨m, 4 * k1⟩ : Wt).m.dl (⟨m, 4 * k1⟩ : Wt).m.dc, .slice (⟨m, 4 * k1⟩ : Wt).m.ma (⟨m, 4 * k1⟩ : Wt).m.ml (⟨m, 4 * k1⟩ : Wt).m.mc, .int .i64 (⟨m, 4 * k1⟩ : Wt).base])) rfl rfl (by kernel_rfl) (by kernel_rfl) (by kernel_rfl) (fun _ _ _ h => h) (Or.inl ⟨by rfl, fun w' hw' => by go_simp⟩) hS ?_
 simp only [Act.put, lsA, lsZ, lsS]
 refine wpAnyH_ready (rs := [4, 12]) (by kernel_rfl) (by simp) ?_
 refine AllReadyH.cons rfl (fun K' hK' => ?_) (AllReadyH.cons rfl (fun K' hK' => ?_) AllReadyH.nil)
 ·have c0 : World.cell? V.drew ⟨q, 0, none⟩ = some (.slice a xs.length cap) := HP.out.drew.cell 0
  go_simp
  refine hK'.out _ _ hS (fun hS => ?_)
  clear hK' K' c0
  refine wpAnyH_ready (rs := [5, 12]) (by kernel_rfl) (by simp) ?_
  refine AllReadyH.cons rfl (fun K' hK' => ?_) (AllReadyH.cons rfl (fun K' hK' => ?_) AllReadyH.nil)
  ·obtain ⟨a1, c1, W1, hr, own1, o1, at1⟩ := app_runI (w := V.drew) (OwnG.nil _ _ _ _) (b := a) (cb := cap) (k := xs) (HOW.out.off ((Off.refl (fun _ => False) V).drew) (fun _ _ _ h => h)).wnsI HZ.out (by show 0 + xs.length ≤ _; omega) 41
   refine wp_append_if rfl (.const (.slice none 0 0)) (.tmp 28) rfl rfl rfl hr 29 rfl ?_
   simp only [Act.put, lsA, lsZ, lsS]
   have o1 : Off (fun _ => False) V.drew W1 := o1.mono (fun _ _ h => by cases h)
   refine hK'.out _ _ (hS.trans o1 (fun _ _ h => h.elim)) (fun hS => ?_)
   clear hK' K' hr
   have HN1 : ∀ c, blk a1 = some c → V.heap.size ≤ c := fun c hc => by
    rcases at1 with e | e
    ·rw [e] at hc; cases hc
    ·rw [e] at hc
     have := Option.some.inj hc
     have hd : V.drew.heap.size = V.heap.size := rfl
     omega
   refine wpAnyH_ready (rs := [12]) (by kernel_rfl) (by simp) ?_
   refine AllReadyH.cons rfl (fun K' hK' => ?_) AllReadyH.nil
   go_simp
   refine hK'.out _ _ (hS.alloc _) (fun hS => ?_)
   clear hK' K'
   have DV : Cel W1.heap.size 74 #[.int .i64 (⟨m, 4 * k1⟩ : Wt).m.k, .int .i64 (⟨m, 4 * k1⟩ : Wt).m.fr, .int .i64 (⟨m, 4 * k1⟩ : Wt).m.tn, .int .i64 (⟨m, 4 * k1⟩ : Wt).m.op, .int .i64 (⟨m, 4 * k1⟩ : Wt).m.fo, .string (⟨m, 4 * k1⟩ : Wt).m.key, .int .i64 (⟨m, 4 * k1⟩ : Wt).m.bk, .slice (⟨m, 4 * k1⟩ : Wt).m.ea (⟨m, 4 * k1⟩ : Wt).m.el (⟨m, 4 * k1⟩ : Wt).m.ec, .slice (⟨m, 4 * k1⟩ : Wt).m.da (⟨m, 4 * k1⟩ : Wt).m.dl (⟨m, 4 * k1⟩ : Wt).m.dc, .slice (⟨m, 4 * k1⟩ : Wt).m.ma (⟨m, 4 * k1⟩ : Wt).m.ml (⟨m, 4 * k1⟩ : Wt).m.mc, .int .i64 (⟨m, 4 * k1⟩ : Wt).base] ((W1.alloc (.cells #[.int .i64 (⟨m, 4 * k1⟩ : Wt).m.k, .int .i64 (⟨m, 4 * k1⟩ : Wt).m.fr, .int .i64 (⟨m, 4 * k1⟩ : Wt).m.tn, .int .i64 (⟨m, 4 * k1⟩ : Wt).m.op, .int .i64 (⟨m, 4 * k1⟩ : Wt).m.fo, .string (⟨m, 4 * k1⟩ : Wt).m.key, .int .i64 (⟨m, 4 * k1⟩ : Wt).m.bk, .slice (⟨m, 4 * k1⟩ : Wt).m.ea (⟨m, 4 * k1⟩ : Wt).m.el (⟨m, 4 * k1⟩ : Wt).m.ec, .slice (⟨m, 4 * k1⟩ : Wt).m.da (⟨m, 4 * k1⟩ : Wt).m.dl (⟨m, 4 * k1⟩ : Wt).m.dc, .slice (⟨m, 4 * k1⟩ : Wt).m.ma (⟨m, 4 * k1⟩ : Wt).m.ml (⟨m, 4 * k1⟩ : Wt).m.mc, .int .i64 (⟨m, 4 * k1⟩ : Wt).base] 74))) := (Cel.new W1 _ _)
   have OV : Off (fun _ => False) W1 ((W1.alloc (.cells #[.int .i64 (⟨m, 4 * k1⟩ : Wt).m.k, .int .i64 (⟨m, 4 * k1⟩ : Wt).m.fr, .int .i64 (⟨m, 4 * k1⟩ : Wt).m.tn, .int .i64 (⟨m, 4 * k1⟩ : Wt).m.op, .int .i64 (⟨m, 4 * k1⟩ : Wt).m.fo, .string (⟨m, 4 * k1⟩ : Wt).m.key, .int .i64 (⟨m, 4 * k1⟩ : Wt).m.bk, .slice (⟨m, 4 * k1⟩ : Wt).m.ea (⟨m, 4 * k1⟩ : Wt).m.el (⟨m, 4 * k1⟩ : Wt).m.ec, .slice (⟨m, 4 * k1⟩ : Wt).m.da (⟨m, 4 * k1⟩ : Wt).m.dl (⟨m, 4 * k1⟩ : Wt).m.dc, .slice (⟨m, 4 * k1⟩ : Wt).m.ma (⟨m, 4 * k1⟩ : Wt).m.ml (⟨m, 4 * k1⟩ : Wt).m.mc, .int .i64 (⟨m, 4 * k1⟩ : Wt).base] 74))) := ((Off.refl _ W1).alloc _)
   generalize hV : (W1.alloc (.cells #[.int .i64 (⟨m, 4 * k1⟩ : Wt).m.k, .int .i64 (⟨m, 4 * k1⟩ : Wt).m.fr, .int .i64 (⟨m, 4 * k1⟩ : Wt).m.tn, .int .i64 (⟨m, 4 * k1⟩ : Wt).m.op, .int .i64 (⟨m, 4 * k1⟩ : Wt).m.fo, .string (⟨m, 4 * k1⟩ : Wt).m.key, .int .i64 (⟨m, 4 * k1⟩ : Wt).m.bk, .slice (⟨m, 4 * k1⟩ : Wt).m.ea (⟨m, 4 * k1⟩ : Wt).m.el (⟨m, 4 * k1⟩ : Wt).m.ec, .slice (⟨m, 4 * k1⟩ : Wt).m.da (⟨m, 4 * k1⟩ : Wt).m.dl (⟨m, 4 * k1⟩ : Wt).m.dc, .slice (⟨m, 4 * k1⟩ : Wt).m.ma (⟨m, 4 * k1⟩ : Wt).m.ml (⟨m, 4 * k1⟩ : Wt).m.mc, .int .i64 (⟨m, 4 * k1⟩ : Wt).base] 74)) = W2 at DV OV hS ⊢
   generalize hvb : W1.heap.size = vb at DV ⊢
   have HVB : Hid (W1.heap.size = vb) := hvb
   clear hV hvb
   refine wpAnyH_ready (rs := [13]) (by kernel_rfl) (by simp) ?_
   refine AllReadyH.cons rfl (fun K' hK' => ?_) AllReadyH.nil
   have hov : Off (fun _ => False) V W2 := (((Off.refl (fun _ => False) V).drew).trans o1 (fun _ _ h => h)).trans OV (fun _ _ h => h)
   have hown : OwnG 74 11 wcs W2 a1 c1 xs := (own1.off OV (fun _ _ _ h => h))
   obtain ⟨a2, c2, W3, hr, own3, o3, at3⟩ := app_runI (w := W2) hown (b := some ⟨vb, 0, none⟩) (cb := 1) (k := [(⟨m, 4 * k1⟩ : Wt)]) (cel_wns DV) (fun e => by cases e) (by show xs.length + 1 ≤ _; omega) 41
   refine wp_append_if rfl (.tmp 29) (.tmp 36) rfl rfl rfl hr 37 rfl ?_
   simp only [Act.put, lsA, lsZ, lsS]
   have hn1 : ∀ c, blk a1 = some c → V.heap.size ≤ c := HN1
   have o3f : Off (fun _ => False) V W3 := hov.trans o3 (fun i hi e => by have := hn1 i e; omega)
   have hS : Off (fun c => c = q) V W3 := o3f.mono (fun _ _ h => h.elim)
   have hn2 : ∀ c, blk a2 = some c → V.heap.size ≤ c := fun c hc => by
    rcases at3 with e | e
    ·exact hn1 c (e ▸ hc)
    ·rw [e] at hc
     have := Option.some.inj hc
     have := hov.size
     omega
   refine hK'.out _ _ hS (fun hS => ?_)
   clear hK' K' hr
   refine take_at (i := 14) 38 (v := .pointer (some ⟨q, 0, none⟩)) rfl rfl (by kernel_rfl) (by kernel_rfl) (by kernel_rfl) (fun _ _ _ h => h) (Or.inl ⟨by rfl, fun w' hw' => by go_simp⟩) hS ?_
   simp only [Act.put, lsA, lsZ, lsS]
   refine take_at (i := 15) 39 (v := .pointer (some ⟨q, 0, none⟩)) rfl rfl (by kernel_rfl) (by kernel_rfl) (by kernel_rfl) (fun _ _ _ h => h) (Or.inl ⟨by rfl, fun w' hw' => by go_simp⟩) hS ?_
   simp only [Act.put, lsA, lsZ, lsS]
   have HP3 : Hid _ := HP.out.off o3f (fun h => h)
   have fz := HP3.out.free 0
   have c0 := HP3.out.cell 0
   refine wpAnyH_ready (rs := [16]) (by kernel_rfl) (by simp) ?_
   refine AllReadyH.cons rfl (fun K' hK' => ?_) AllReadyH.nil
   go_simp
   have hF := rq_end HR.out o3f (l' := l ++ [(k, wgt u - t)]) (t' := t) own3 hn2 (by simp [HLX.out]) HI.out (by have := HLR.out; simp; omega) HWT.out (n := xs.length + 1) (by simp)
   have HF : Hid _ := hF
   refine hK'.out _ _ hF.2.2 (fun _ => ?_)
   clear hK' K' hF
   refine wpAnyH_done (by kernel_rfl) ?_ _
   clear fz c0
   go_wp2_with fail
   go_ret
   exact ⟨rfl, fun c => c = q ∨ blk a2 = some c, HF.out.1, fun c hc => (HF.out.2.1 c hc).imp id (fun h => by have h1 := HVW.out; have h2 := HWB.out; omega), (HVO.out.mono (fun _ _ h => h.elim)).trans HF.out.2.2 (fun _ _ h => h)⟩
  ·go_simp
   refine hK'.out _ _ (hS.alloc _) (fun hS => ?_)
   clear hK' K'
   have DV : Cel V.heap.size 74 #[.int .i64 (⟨m, 4 * k1⟩ : Wt).m.k, .int .i64 (⟨m, 4 * k1⟩ : Wt).m.fr, .int .i64 (⟨m, 4 * k1⟩ : Wt).m.tn, .int .i64 (⟨m, 4 * k1⟩ : Wt).m.op, .int .i64 (⟨m, 4 * k1⟩ : Wt).m.fo, .string (⟨m, 4 * k1⟩ : Wt).m.key, .int .i64 (⟨m, 4 * k1⟩ : Wt).m.bk, .slice (⟨m, 4 * k1⟩ : Wt).m.ea (⟨m, 4 * k1⟩ : Wt).m.el (⟨m, 4 * k1⟩ : Wt).m.ec, .slice (⟨m, 4 * k1⟩ : Wt).m.da (⟨m, 4 * k1⟩ : Wt).m.dl (⟨m, 4 * k1⟩ : Wt).m.dc, .slice (⟨m, 4 * k1⟩ : Wt).m.ma (⟨m, 4 * k1⟩ : Wt).m.ml (⟨m, 4 * k1⟩ : Wt).m.mc, .int .i64 (⟨m, 4 * k1⟩ : Wt).base] ((V.alloc (.cells #[.int .i64 (⟨m, 4 * k1⟩ : Wt).m.k, .int .i64 (⟨m, 4 * k1⟩ : Wt).m.fr, .int .i64 (⟨m, 4 * k1⟩ : Wt).m.tn, .int .i64 (⟨m, 4 * k1⟩ : Wt).m.op, .int .i64 (⟨m, 4 * k1⟩ : Wt).m.fo, .string (⟨m, 4 * k1⟩ : Wt).m.key, .int .i64 (⟨m, 4 * k1⟩ : Wt).m.bk, .slice (⟨m, 4 * k1⟩ : Wt).m.ea (⟨m, 4 * k1⟩ : Wt).m.el (⟨m, 4 * k1⟩ : Wt).m.ec, .slice (⟨m, 4 * k1⟩ : Wt).m.da (⟨m, 4 * k1⟩ : Wt).m.dl (⟨m, 4 * k1⟩ : Wt).m.dc, .slice (⟨m, 4 * k1⟩ : Wt).m.ma (⟨m, 4 * k1⟩ : Wt).m.ml (⟨m, 4 * k1⟩ : Wt).m.mc, .int .i64 (⟨m, 4 * k1⟩ : Wt).base] 74)).drew) := (Cel.new V _ _).drew
   have OV : Off (fun _ => False) V ((V.alloc (.cells #[.int .i64 (⟨m, 4 * k1⟩ : Wt).m.k, .int .i64 (⟨m, 4 * k1⟩ : Wt).m.fr, .int .i64 (⟨m, 4 * k1⟩ : Wt).m.tn, .int .i64 (⟨m, 4 * k1⟩ : Wt).m.op, .int .i64 (⟨m, 4 * k1⟩ : Wt).m.fo, .string (⟨m, 4 * k1⟩ : Wt).m.key, .int .i64 (⟨m, 4 * k1⟩ : Wt).m.bk, .slice (⟨m, 4 * k1⟩ : Wt).m.ea (⟨m, 4 * k1⟩ : Wt).m.el (⟨m, 4 * k1⟩ : Wt).m.ec, .slice (⟨m, 4 * k1⟩ : Wt).m.da (⟨m, 4 * k1⟩ : Wt).m.dl (⟨m, 4 * k1⟩ : Wt).m.dc, .slice (⟨m, 4 * k1⟩ : Wt).m.ma (⟨m, 4 * k1⟩ : Wt).m.ml (⟨m, 4 * k1⟩ : Wt).m.mc, .int .i64 (⟨m, 4 * k1⟩ : Wt).base] 74)).drew) := ((Off.refl _ V).alloc _).drew
   generalize hV : (V.alloc (.cells #[.int .i64 (⟨m, 4 * k1⟩ : Wt).m.k, .int .i64 (⟨m, 4 * k1⟩ : Wt).m.fr, .int .i64 (⟨m, 4 * k1⟩ : Wt).m.tn, .int .i64 (⟨m, 4 * k1⟩ : Wt).m.op, .int .i64 (⟨m, 4 * k1⟩ : Wt).m.fo, .string (⟨m, 4 * k1⟩ : Wt).m.key, .int .i64 (⟨m, 4 * k1⟩ : Wt).m.bk, .slice (⟨m, 4 * k1⟩ : Wt).m.ea (⟨m, 4 * k1⟩ : Wt).m.el (⟨m, 4 * k1⟩ : Wt).m.ec, .slice (⟨m, 4 * k1⟩ : Wt).m.da (⟨m, 4 * k1⟩ : Wt).m.dl (⟨m, 4 * k1⟩ : Wt).m.dc, .slice (⟨m, 4 * k1⟩ : Wt).m.ma (⟨m, 4 * k1⟩ : Wt).m.ml (⟨m, 4 * k1⟩ : Wt).m.mc, .int .i64 (⟨m, 4 * k1⟩ : Wt).base] 74)).drew = W2 at DV OV hS ⊢
   generalize hvb : V.heap.size = vb at DV ⊢
   have HVB : Hid (V.heap.size = vb) := hvb
   clear hV hvb
   refine wpAnyH_ready (rs := [5]) (by kernel_rfl) (by simp) ?_
   refine AllReadyH.cons rfl (fun K' hK' => ?_) AllReadyH.nil
   obtain ⟨a1, c1, W1, hr, own1, o1, at1⟩ := app_runI (w := W2) (OwnG.nil _ _ _ _) (b := a) (cb := cap) (k := xs) (HOW.out.off OV (fun _ _ _ h => h)).wnsI HZ.out (by show 0 + xs.length ≤ _; omega) 41
   refine wp_append_if rfl (.const (.slice none 0 0)) (.tmp 28) rfl rfl rfl hr 29 rfl ?_
   simp only [Act.put, lsA, lsZ, lsS]
   have o1 : Off (fun _ => False) W2 W1 := o1.mono (fun _ _ h => by cases h)
   refine hK'.out _ _ (hS.trans o1 (fun _ _ h => h.elim)) (fun hS => ?_)
   clear hK' K' hr
   have HN1 : ∀ c, blk a1 = some c → V.heap.size ≤ c := fun c hc => by
    rcases at1 with e | e
    ·rw [e] at hc; cases hc
    ·rw [e] at hc
     have := Option.some.inj hc
     have := OV.size
     omega
   refine wpAnyH_ready (rs := [13]) (by kernel_rfl) (by simp) ?_
   refine AllReadyH.cons rfl (fun K' hK' => ?_) AllReadyH.nil
   have hov : Off (fun _ => False) V W1 := OV.trans o1 (fun _ _ h => h)
   have hown : OwnG 74 11 wcs W1 a1 c1 xs := own1
   obtain ⟨a2, c2, W3, hr, own3, o3, at3⟩ := app_runI (w := W1) hown (b := some ⟨vb, 0, none⟩) (cb := 1) (k := [(⟨m, 4 * k1⟩ : Wt)]) (cel_wns (DV.off o1 (fun h => h))) (fun e => by cases e) (by show xs.length + 1 ≤ _; omega) 41
   refine wp_append_if rfl (.tmp 29) (.tmp 36) rfl rfl rfl hr 37 rfl ?_
   simp only [Act.put, lsA, lsZ, lsS]
   have hn1 : ∀ c, blk a1 = some c → V.heap.size ≤ c := HN1
   have o3f : Off (fun _ => False) V W3 := hov.trans o3 (fun i hi e => by have := hn1 i e; omega)
   have hS : Off (fun c => c = q) V W3 := o3f.mono (fun _ _ h => h.elim)
   have hn2 : ∀ c, blk a2 = some c → V.heap.size ≤ c := fun c hc => by
    rcases at3 with e | e
    ·exact hn1 c (e ▸ hc)
    ·rw [e] at hc
     have := Option.some.inj hc
     have := hov.size
     omega
   refine hK'.out _ _ hS (fun hS => ?_)
   clear hK' K' hr
   refine take_at (i := 14) 38 (v := .pointer (some ⟨q, 0, none⟩)) rfl rfl (by kernel_rfl) (by kernel_rfl) (by kernel_rfl) (fun _ _ _ h => h) (Or.inl ⟨by rfl, fun w' hw' => by go_simp⟩) hS ?_
   simp only [Act.put, lsA, lsZ, lsS]
   refine take_at (i := 15) 39 (v := .pointer (some ⟨q, 0, none⟩)) rfl rfl (by kernel_rfl) (by kernel_rfl) (by kernel_rfl) (fun _ _ _ h => h) (Or.inl ⟨by rfl, fun w' hw' => by go_simp⟩) hS ?_
   simp only [Act.put, lsA, lsZ, lsS]
   have HP3 : Hid _ := HP.out.off o3f (fun h => h)
   have fz := HP3.out.free 0
   have c0 := HP3.out.cell 0
   refine wpAnyH_ready (rs := [16]) (by kernel_rfl) (by simp) ?_
   refine AllReadyH.cons rfl (fun K' hK' => ?_) AllReadyH.nil
   go_simp
   have hF := rq_end HR.out o3f (l' := l ++ [(k, wgt u - t)]) (t' := t) own3 hn2 (by simp [HLX.out]) HI.out (by have := HLR.out; simp; omega) HWT.out (n := xs.length + 1) (by simp)
   have HF : Hid _ := hF
   refine hK'.out _ _ hF.2.2 (fun _ => ?_)
   clear hK' K' hF
   refine wpAnyH_done (by kernel_rfl) ?_ _
   clear fz c0
   go_wp2_with fail
   go_ret
   exact ⟨rfl, fun c => c = q ∨ blk a2 = some c, HF.out.1, fun c hc => (HF.out.2.1 c hc).imp id (fun h => by have h1 := HVW.out; have h2 := HWB.out; omega), (HVO.out.mono (fun _ _ h => h.elim)).trans HF.out.2.2 (fun _ _ h => h)⟩
 ·go_simp
  refine hK'.out _ _ (hS.alloc _) (fun hS => ?_)
  clear hK' K'
  have DV : Cel V.heap.size 74 #[.int .i64 (⟨m, 4 * k1⟩ : Wt).m.k, .int .i64 (⟨m, 4 * k1⟩ : Wt).m.fr, .int .i64 (⟨m, 4 * k1⟩ : Wt).m.tn, .int .i64 (⟨m, 4 * k1⟩ : Wt).m.op, .int .i64 (⟨m, 4 * k1⟩ : Wt).m.fo, .string (⟨m, 4 * k1⟩ : Wt).m.key, .int .i64 (⟨m, 4 * k1⟩ : Wt).m.bk, .slice (⟨m, 4 * k1⟩ : Wt).m.ea (⟨m, 4 * k1⟩ : Wt).m.el (⟨m, 4 * k1⟩ : Wt).m.ec, .slice (⟨m, 4 * k1⟩ : Wt).m.da (⟨m, 4 * k1⟩ : Wt).m.dl (⟨m, 4 * k1⟩ : Wt).m.dc, .slice (⟨m, 4 * k1⟩ : Wt).m.ma (⟨m, 4 * k1⟩ : Wt).m.ml (⟨m, 4 * k1⟩ : Wt).m.mc, .int .i64 (⟨m, 4 * k1⟩ : Wt).base] ((V.alloc (.cells #[.int .i64 (⟨m, 4 * k1⟩ : Wt).m.k, .int .i64 (⟨m, 4 * k1⟩ : Wt).m.fr, .int .i64 (⟨m, 4 * k1⟩ : Wt).m.tn, .int .i64 (⟨m, 4 * k1⟩ : Wt).m.op, .int .i64 (⟨m, 4 * k1⟩ : Wt).m.fo, .string (⟨m, 4 * k1⟩ : Wt).m.key, .int .i64 (⟨m, 4 * k1⟩ : Wt).m.bk, .slice (⟨m, 4 * k1⟩ : Wt).m.ea (⟨m, 4 * k1⟩ : Wt).m.el (⟨m, 4 * k1⟩ : Wt).m.ec, .slice (⟨m, 4 * k1⟩ : Wt).m.da (⟨m, 4 * k1⟩ : Wt).m.dl (⟨m, 4 * k1⟩ : Wt).m.dc, .slice (⟨m, 4 * k1⟩ : Wt).m.ma (⟨m, 4 * k1⟩ : Wt).m.ml (⟨m, 4 * k1⟩ : Wt).m.mc, .int .i64 (⟨m, 4 * k1⟩ : Wt).base] 74)).drew) := (Cel.new V _ _).drew
  have OV : Off (fun _ => False) V ((V.alloc (.cells #[.int .i64 (⟨m, 4 * k1⟩ : Wt).m.k, .int .i64 (⟨m, 4 * k1⟩ : Wt).m.fr, .int .i64 (⟨m, 4 * k1⟩ : Wt).m.tn, .int .i64 (⟨m, 4 * k1⟩ : Wt).m.op, .int .i64 (⟨m, 4 * k1⟩ : Wt).m.fo, .string (⟨m, 4 * k1⟩ : Wt).m.key, .int .i64 (⟨m, 4 * k1⟩ : Wt).m.bk, .slice (⟨m, 4 * k1⟩ : Wt).m.ea (⟨m, 4 * k1⟩ : Wt).m.el (⟨m, 4 * k1⟩ : Wt).m.ec, .slice (⟨m, 4 * k1⟩ : Wt).m.da (⟨m, 4 * k1⟩ : Wt).m.dl (⟨m, 4 * k1⟩ : Wt).m.dc, .slice (⟨m, 4 * k1⟩ : Wt).m.ma (⟨m, 4 * k1⟩ : Wt).m.ml (⟨m, 4 * k1⟩ : Wt).m.mc, .int .i64 (⟨m, 4 * k1⟩ : Wt).base] 74)).drew) := ((Off.refl _ V).alloc _).drew
  generalize hV : (V.alloc (.cells #[.int .i64 (⟨m, 4 * k1⟩ : Wt).m.k, .int .i64 (⟨m, 4 * k1⟩ : Wt).m.fr, .int .i64 (⟨m, 4 * k1⟩ : Wt).m.tn, .int .i64 (⟨m, 4 * k1⟩ : Wt).m.op, .int .i64 (⟨m, 4 * k1⟩ : Wt).m.fo, .string (⟨m, 4 * k1⟩ : Wt).m.key, .int .i64 (⟨m, 4 * k1⟩ : Wt).m.bk, .slice (⟨m, 4 * k1⟩ : Wt).m.ea (⟨m, 4 * k1⟩ : Wt).m.el (⟨m, 4 * k1⟩ : Wt).m.ec, .slice (⟨m, 4 * k1⟩ : Wt).m.da (⟨m, 4 * k1⟩ : Wt).m.dl (⟨m, 4 * k1⟩ : Wt).m.dc, .slice (⟨m, 4 * k1⟩ : Wt).m.ma (⟨m, 4 * k1⟩ : Wt).m.ml (⟨m, 4 * k1⟩ : Wt).m.mc, .int .i64 (⟨m, 4 * k1⟩ : Wt).base] 74)).drew = W2 at DV OV hS ⊢
  generalize hvb : V.heap.size = vb at DV ⊢
  have HVB : Hid (V.heap.size = vb) := hvb
  clear hV hvb
  refine wpAnyH_ready (rs := [4]) (by kernel_rfl) (by simp) ?_
  refine AllReadyH.cons rfl (fun K' hK' => ?_) AllReadyH.nil
  have c0 : World.cell? W2 ⟨q, 0, none⟩ = some (.slice a xs.length cap) := (HP.out.off OV (fun h => h)).cell 0
  go_simp
  refine hK'.out _ _ hS (fun hS => ?_)
  clear hK' K' c0
  refine wpAnyH_ready (rs := [5]) (by kernel_rfl) (by simp) ?_
  refine AllReadyH.cons rfl (fun K' hK' => ?_) AllReadyH.nil
  obtain ⟨a1, c1, W1, hr, own1, o1, at1⟩ := app_runI (w := W2) (OwnG.nil _ _ _ _) (b := a) (cb := cap) (k := xs) (HOW.out.off OV (fun _ _ _ h => h)).wnsI HZ.out (by show 0 + xs.length ≤ _; omega) 41
  refine wp_append_if rfl (.const (.slice none 0 0)) (.tmp 28) rfl rfl rfl hr 29 rfl ?_
  simp only [Act.put, lsA, lsZ, lsS]
  have o1 : Off (fun _ => False) W2 W1 := o1.mono (fun _ _ h => by cases h)
  refine hK'.out _ _ (hS.trans o1 (fun _ _ h => h.elim)) (fun hS => ?_)
  clear hK' K' hr
  have HN1 : ∀ c, blk a1 = some c → V.heap.size ≤ c := fun c hc => by
   rcases at1 with e | e
   ·rw [e] at hc; cases hc
   ·rw [e] at hc
    have := Option.some.inj hc
    have := OV.size
    omega
  refine wpAnyH_ready (rs := [13]) (by kernel_rfl) (by simp) ?_
  refine AllReadyH.cons rfl (fun K' hK' => ?_) AllReadyH.nil
  have hov : Off (fun _ => False) V W1 := OV.trans o1 (fun _ _ h => h)
  have hown : OwnG 74 11 wcs W1 a1 c1 xs := own1
  obtain ⟨a2, c2, W3, hr, own3, o3, at3⟩ := app_runI (w := W1) hown (b := some ⟨vb, 0, none⟩) (cb := 1) (k := [(⟨m, 4 * k1⟩ : Wt)]) (cel_wns (DV.off o1 (fun h => h))) (fun e => by cases e) (by show xs.length + 1 ≤ _; omega) 41
  refine wp_append_if rfl (.tmp 29) (.tmp 36) rfl rfl rfl hr 37 rfl ?_
  simp only [Act.put, lsA, lsZ, lsS]
  have hn1 : ∀ c, blk a1 = some c → V.heap.size ≤ c := HN1
  have o3f : Off (fun _ => False) V W3 := hov.trans o3 (fun i hi e => by have := hn1 i e; omega)
  have hS : Off (fun c => c = q) V W3 := o3f.mono (fun _ _ h => h.elim)
  have hn2 : ∀ c, blk a2 = some c → V.heap.size ≤ c := fun c hc => by
   rcases at3 with e | e
   ·exact hn1 c (e ▸ hc)
   ·rw [e] at hc
    have := Option.some.inj hc
    have := hov.size
    omega
  refine hK'.out _ _ hS (fun hS => ?_)
  clear hK' K' hr
  refine take_at (i := 14) 38 (v := .pointer (some ⟨q, 0, none⟩)) rfl rfl (by kernel_rfl) (by kernel_rfl) (by kernel_rfl) (fun _ _ _ h => h) (Or.inl ⟨by rfl, fun w' hw' => by go_simp⟩) hS ?_
  simp only [Act.put, lsA, lsZ, lsS]
  refine take_at (i := 15) 39 (v := .pointer (some ⟨q, 0, none⟩)) rfl rfl (by kernel_rfl) (by kernel_rfl) (by kernel_rfl) (fun _ _ _ h => h) (Or.inl ⟨by rfl, fun w' hw' => by go_simp⟩) hS ?_
  simp only [Act.put, lsA, lsZ, lsS]
  have HP3 : Hid _ := HP.out.off o3f (fun h => h)
  have fz := HP3.out.free 0
  have c0 := HP3.out.cell 0
  refine wpAnyH_ready (rs := [16]) (by kernel_rfl) (by simp) ?_
  refine AllReadyH.cons rfl (fun K' hK' => ?_) AllReadyH.nil
  go_simp
  have hF := rq_end HR.out o3f (l' := l ++ [(k, wgt u - t)]) (t' := t) own3 hn2 (by simp [HLX.out]) HI.out (by have := HLR.out; simp; omega) HWT.out (n := xs.length + 1) (by simp)
  have HF : Hid _ := hF
  refine hK'.out _ _ hF.2.2 (fun _ => ?_)
  clear hK' K' hF
  refine wpAnyH_done (by kernel_rfl) ?_ _
  clear fz c0
  go_wp2_with fail
  go_ret
  exact ⟨rfl, fun c => c = q ∨ blk a2 = some c, HF.out.1, fun c hc => (HF.out.2.1 c hc).imp id (fun h => by have h1 := HVW.out; have h2 := HWB.out; omega), (HVO.out.mono (fun _ _ h => h.elim)).trans HF.out.2.2 (fun _ _ h => h)⟩
set_option maxHeartbeats 2000000 in
theorem rqput_full {N : Int → NF} {W : World} {R : Nat → Prop} {q : Nat} {l : List (Int × Int)} {most r t : Int} {w : World} (h : RQ N W R q l most r t w) (u : Int) (m : Mg) (hf : most ≤ (l.length : Int)) (hr : -1000 ≤ r ∧ r ≤ 1000000) :
  Calls Try.prog 13 #[.pointer (some ⟨q, 0, none⟩), (.agg #[.int .i64 m.k, .int .i64 m.fr, .int .i64 m.tn, .int .i64 m.op, .int .i64 m.fo, .string m.key, .int .i64 m.bk, .slice m.ea m.el m.ec, .slice m.da m.dl m.dc, .slice m.ma m.ml m.mc]), .int .i64 u] w fun e w' => e = .returned (.int .i64 7) ∧ RQ N W R q l most (r + 1) t w' ∧ Off (fun c => c = q) w w' := by
 have O : Off (fun _ => False) w (w.alloc (.cells #[.int .i64 m.k, .int .i64 m.fr, .int .i64 m.tn, .int .i64 m.op, .int .i64 m.fo, .string m.key, .int .i64 m.bk, .slice m.ea m.el m.ec, .slice m.da m.dl m.dc, .slice m.ma m.ml m.mc] 31)) := (Off.refl _ w).alloc _
 have h' := h.free O
 have hwr : IntKind.i64.wrap (r + 1) = r + 1 := by rw [IntKind.wrap_i64]; omega
 go_enter Try.func13, Try.ntmps13
 go_upto_region 1 with fail
 generalize hv : w.alloc (.cells #[.int .i64 m.k, .int .i64 m.fr, .int .i64 m.tn, .int .i64 m.op, .int .i64 m.fo, .string m.key, .int .i64 m.bk, .slice m.ea m.el m.ec, .slice m.da m.dl m.dc, .slice m.ma m.ml m.mc] 31) = V0 at O h' ⊢
 obtain ⟨a, cap, xs, h1, h2, h3, h4, h5⟩ := h'.is
 have HP : Hid _ := h1
 have HVO : Hid _ := O
 have HR : Hid _ := h'
 have HOW : Hid _ := h2
 have HT : Hid _ := h3
 have H4 : Hid _ := h4
 have H5 : Hid _ := h5
 have c0 := h1.cell 0
 have c1 := h1.cell 1
 have c2 := h1.cell 2
 have fz := h1.free 2
 have hx1 : xs.length ≤ 1000 := by have := h.few; omega
 have hmm : most ≤ 1000 := h.few.2.2
 have dg : decide ((xs.length : Int) ≥ most) = true := decide_eq_true (by omega)
 have dg2 : decide (most ≤ (xs.length : Int)) = true := decide_eq_true (by omega)
 generalize w.heap.size = b at *
 clear hv O h h' h1 h2 h3 h4 h5 hf
 go_quiet (fail)
 have OD : Off (fun _ => False) V0 (V0.drewN nq) := offN (Off.refl _ V0) nq
 generalize V0.drewN nq = V at OD ⊢
 replace HR : Hid _ := HR.out.free OD
 replace HP : Hid _ := HP.out.off OD (fun h => h)
 replace HOW : Hid _ := HOW.out.off OD (fun _ _ _ h => h)
 replace HVO : Hid _ := HVO.out.trans OD (fun _ _ h => h)
 clear OD c0 c1 c2 fz
 have c2 := HP.out.cell 2
 have fz := HP.out.free 2
 have HE : Hid (RQ N W R q l most (r + 1) t (V.setCell ⟨q, 2, none⟩ (.int .i64 (r + 1))) ∧ Off (fun c => c = q) V (V.setCell ⟨q, 2, none⟩ (.int .i64 (r + 1)))) := by
  have oq : Off (fun c => c = q) V (V.setCell ⟨q, 2, none⟩ (.int .i64 (r + 1))) := (Off.refl (fun c => c = q) V).setCell (p := ⟨q, 2, none⟩) (.inl rfl) _
  have hq := HR.out.dlt q HR.out.dp
  exact ⟨⟨HR.out.dp, fun c hc => ⟨(HR.out.dlt c hc).1, Nat.lt_of_lt_of_le (HR.out.dlt c hc).2 oq.size⟩, ⟨a, cap, xs, HP.out.set 2 _, HOW.out.off oq (fun c _ hc e => (HT.out c hc).2 e), HT.out, H4.out, H5.out⟩, HR.out.few, HR.out.wt, HR.out.off.trans oq (fun i hi e => by have e : i = q := e; omega)⟩, oq⟩
 go_wp2_with fail
 go_ret
 exact ⟨rfl, HE.out.1, (HVO.out.mono (fun _ _ h => h.elim)).trans HE.out.2 (fun _ _ h => h)⟩
def Top (xs : List Wt) (i : Nat) (p : Int) : Prop := (i = 0 ∧ p = -1) ∨ ∃ (j : Nat) (x : Wt), p = (j : Int) ∧ j < i ∧ xs[j]? = some x ∧ (∀ (j' : Nat) (x' : Wt), j' < j → xs[j']? = some x' → x'.base < x.base) ∧ ∀ (j' : Nat) (x' : Wt), j' < i → xs[j']? = some x' → x'.base ≤ x.base
theorem Top.new {xs : List Wt} {i : Nat} {p : Int} {z : Wt} (h : Top xs i p) (hz : xs[i]? = some z) (hb : i = 0 ∨ ∃ (j : Nat) (x : Wt), p = (j : Int) ∧ xs[j]? = some x ∧ x.base < z.base) : Top xs (i + 1) (i : Int) := by
 refine .inr ⟨i, z, rfl, by omega, hz, ?_, ?_⟩
 ·intro j' x' hj hx'
  rcases h with ⟨h, -⟩ | ⟨j, x, e, hj2, hx, h1, h2⟩
  ·omega
  ·rcases hb with hb | ⟨j3, x3, e3, hx3, hlt⟩
   ·omega
   ·obtain rfl : j = j3 := by omega
    rw [hx] at hx3
    obtain rfl := Option.some.inj hx3
    have := h2 j' x' hj hx'
    omega
 ·intro j' x' hj hx'
  by_cases e : j' = i
  ·subst e
   rw [hz] at hx'
   obtain rfl := Option.some.inj hx'
   omega
  ·rcases h with ⟨h, -⟩ | ⟨j, x, e, hj2, hx, h1, h2⟩
   ·omega
   ·rcases hb with hb | ⟨j3, x3, e3, hx3, hlt⟩
    ·omega
    ·obtain rfl : j = j3 := by omega
     rw [hx] at hx3
     obtain rfl := Option.some.inj hx3
     have := h2 j' x' (by omega) hx'
     omega
theorem Top.old {xs : List Wt} {i j : Nat} {z x : Wt} (h : Top xs i (j : Int)) (hz : xs[i]? = some z) (hx : xs[j]? = some x) (hb : ¬ x.base < z.base) : Top xs (i + 1) (j : Int) := by
 rcases h with ⟨-, e⟩ | ⟨j2, x2, e, hj, hx2, h1, h2⟩
 ·omega
 ·obtain rfl : j = j2 := by omega
  rw [hx] at hx2
  obtain rfl := Option.some.inj hx2
  refine .inr ⟨j, x, rfl, by omega, hx, h1, fun j' x' hj' hx' => ?_⟩
  by_cases e : j' = i
  ·subst e
   rw [hz] at hx'
   obtain rfl := Option.some.inj hx'
   omega
  ·exact h2 j' x' (by omega) hx'
theorem Top.first {l1 l2 : List (Int × Int)} {k b t : Int} {xs : List Wt} {p : Int} (h : Top xs xs.length p) (hl : xs.length = (l1 ++ (k, b) :: l2).length) (hb : ∀ (i : Nat) (x : Wt) (y : Int × Int), xs[i]? = some x → (l1 ++ (k, b) :: l2)[i]? = some y → x.base = y.2 + t) (h1 : ∀ x ∈ l1, x.2 < b) (h2 : ∀ x ∈ l2, x.2 ≤ b) : p = (l1.length : Int) := by
 have hlen : xs.length = l1.length + (l2.length + 1) := by rw [hl]; simp
 have hm : xs[l1.length]? = some xs[l1.length] := List.getElem?_eq_getElem (by omega)
 have hmy : (l1 ++ (k, b) :: l2)[l1.length]? = some (k, b) := by rw [List.getElem?_append_right (Nat.le_refl _), Nat.sub_self]; rfl
 have hmb := hb _ _ _ hm hmy
 rcases h with ⟨h, -⟩ | ⟨j, x, e, hj, hx, g1, g2⟩
 ·omega
 ·rcases Nat.lt_trichotomy j l1.length with hlt | heq | hgt
  ·have hy : (l1 ++ (k, b) :: l2)[j]? = some l1[j] := by rw [List.getElem?_append_left hlt]; exact List.getElem?_eq_getElem hlt
   have a1 := hb j x _ hx hy
   have a2 := h1 _ (List.getElem_mem hlt)
   have a3 := g2 _ _ (by omega) hm
   have a4 : xs[l1.length].base = b + t := hmb
   omega
  ·omega
  ·have a3 := g1 _ _ hgt hm
   obtain ⟨n, hn⟩ : ∃ n, j = l1.length + (n + 1) := ⟨j - l1.length - 1, by omega⟩
   subst hn
   have hj2 : n < l2.length := by omega
   have hy : (l1 ++ (k, b) :: l2)[l1.length + (n + 1)]? = some l2[n] := by
    rw [List.getElem?_append_right (by omega), show l1.length + (n + 1) - l1.length = n + 1 by omega, List.getElem?_cons_succ]
    exact List.getElem?_eq_getElem hj2
   have a1 := hb _ x _ hx hy
   have a2 := h2 _ (List.getElem_mem hj2)
   have a4 : xs[l1.length].base = b + t := hmb
   omega
end Go.Proofs.Ytmeclfgehpbjlaa
