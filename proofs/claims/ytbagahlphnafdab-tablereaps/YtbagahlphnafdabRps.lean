/- The walk of TableReaps. -/
import Derived.Test.YtbagahlphnafdabJns
import Derived.Test.YtbagahlphnafdabArg10
import Derived.Deep.Cut
namespace Go.Proofs.Ytbagahlphnafdab
open Go.RowKit

theorem reap_some {X : List K} (h : Sor K.key X) (k : ByteArray) : (fndG K.key k (reapT X k)).isSome = (fndG K.key k X).isSome := by
  unfold reapT
  cases hf : fndG K.key k X with
  | none => show (fndG K.key k X).isSome = _; rw [hf]
  | some u =>
    show (fndG K.key k (if _ then _ else _)).isSome = _
    split
    · rw [hf]
    · have := fnd_put_same K.key (x := ⟨k, reapV u.f u.l, reapL u.f u.l⟩) h
      rw [show fndG K.key k _ = some _ from this]
      rfl
theorem reap_length {X : List K} (h : Sor K.key X) {k : ByteArray} : (reapT X k).length = X.length := by
  unfold reapT
  cases hf : fndG K.key k X with
  | none => rfl
  | some u =>
    show (if _ then _ else _ : List K).length = _
    split
    · rfl
    · rw [len_putG K.key h]
      show (if (fndG K.key k X).isSome = true then _ else _) = _
      rw [hf]
      rfl
theorem reap_idem {f : Nat → Int} {l : List A} (h : MayP f l) : reapV (reapV f l) (reapL f l) = reapV f l ∧ reapL (reapV f l) (reapL f l) = reapL f l := by
  have hm := may_yes h
  have hm2 := may_yes (reap_ok h)
  refine ⟨by rw [show reapV (reapV f l) (reapL f l) = if mayS (reapV f l) (reapL f l) = true then reapV f l else zer from rfl, if_pos hm2], ?_⟩
  by_cases ha : anyA l = true
  · have e : reapL f l = l := by unfold reapL; rw [if_pos ⟨hm, ha⟩]
    rw [show reapL (reapV f l) (reapL f l) = if mayS (reapV f l) (reapL f l) = true ∧ anyA (reapL f l) = true then reapL f l else [] from rfl, if_pos ⟨hm2, by rw [e]; exact ha⟩]
  · have e : reapL f l = [] := by unfold reapL; rw [if_neg (fun h => ha h.2)]
    rw [e]
    unfold reapL
    split <;> rfl
theorem getK_reap {X : List K} (h : Sor K.key X) (k : ByteArray) : fndG K.key k X = none ∧ reapT X k = X ∨ ∃ u, fndG K.key k X = some u ∧ fndG K.key k (reapT X k) = some (if sameS u.f (reapV u.f u.l) u.l (reapL u.f u.l) = true then u else ⟨k, reapV u.f u.l, reapL u.f u.l⟩) ∧ reapB X k = !sameS u.f (reapV u.f u.l) u.l (reapL u.f u.l) := by
  unfold reapT reapB
  cases hf : fndG K.key k X with
  | none => exact .inl ⟨rfl, rfl⟩
  | some u =>
    refine .inr ⟨u, rfl, ?_, rfl⟩
    show fndG K.key k (if _ then _ else _) = _
    split
    · exact hf
    · exact fnd_put_same K.key (x := ⟨k, reapV u.f u.l, reapL u.f u.l⟩) h
theorem reap_once {X : List K} (h : Sor K.key X) (ok : OkT X) {k : ByteArray} : reapB (reapT X k) k = false := by
  rcases getK_reap h k with ⟨h1, h2⟩ | ⟨u, h1, h2, -⟩
  · rw [h2]
    unfold reapB
    rw [h1]
  · unfold reapB
    rw [h2]
    show (!sameS _ _ _ _) = false
    split
    · rename_i e
      rw [e]
      rfl
    · have hm := ok.may u (fnd_mem K.key h1).1
      obtain ⟨e1, e2⟩ := reap_idem hm
      show (!sameS (reapV u.f u.l) (reapV (reapV u.f u.l) (reapL u.f u.l)) (reapL u.f u.l) (reapL (reapV u.f u.l) (reapL u.f u.l))) = false
      rw [e1, e2, same_refl]
      rfl
theorem live_reap {f : Nat → Int} {l : List A} (h : MayP f l) : liveA (reapL f l) = liveA l := by
  by_cases ha : anyA l = true
  · unfold reapL
    rw [if_pos ⟨may_yes h, ha⟩]
  · unfold reapL
    rw [if_neg (fun h => ha h.2)]
    unfold liveA
    have : l.filter (fun x => !x.dead) = [] := by
      rw [List.filter_eq_nil_iff]
      intro x hx e
      exact ha (by unfold anyA; rw [List.any_eq_true]; exact ⟨x, hx, e⟩)
    rw [this]
    rfl
theorem live_len (l : List A) : (liveA l).length ≤ l.length := by
  unfold liveA
  rw [List.length_map]
  exact List.length_filter_le _ _
theorem reap_facts {X : List K} (h : Sor K.key X) (ok : OkT X) (k : ByteArray) : sameS (getK X k).f (getK (reapT X k) k).f (getK X k).l (getK (reapT X k) k).l = !reapB X k ∧ eqB (getK (reapT X k) k).f (getK X k).f = true ∧
    (if mayS (getK X k).f (getK X k).l = true then liveA (getK X k).l else []) = (if mayS (getK (reapT X k) k).f (getK (reapT X k) k).l = true then liveA (getK (reapT X k) k).l else []) ∧ (if mayS (getK X k).f (getK X k).l = true then liveA (getK X k).l else []).length ≤ 1000 := by
  rcases getK_reap h k with ⟨h1, h2⟩ | ⟨u, h1, h2, h3⟩
  · have e1 : getK X k = ⟨k, zer, []⟩ := by unfold getK; rw [h1]; rfl
    have e2 : reapB X k = false := by unfold reapB; rw [h1]
    rw [h2, e1, e2]
    refine ⟨same_refl _ _, by simp [eqB], rfl, ?_⟩
    split
    · simp [liveA]
    · simp
  · have hm := ok.may u (fnd_mem K.key h1).1
    have e1 : getK X k = u := by unfold getK; rw [h1]; rfl
    have e2 : getK (reapT X k) k = if sameS u.f (reapV u.f u.l) u.l (reapL u.f u.l) = true then u else ⟨k, reapV u.f u.l, reapL u.f u.l⟩ := by unfold getK; rw [h2]; rfl
    have hlen : (if mayS u.f u.l = true then liveA u.l else []).length ≤ 1000 := by
      have h4 := live_len u.l
      have h5 := hm.few
      split
      · omega
      · simp
    rw [e1, e2, h3]
    by_cases hs : sameS u.f (reapV u.f u.l) u.l (reapL u.f u.l) = true
    · rw [if_pos hs, hs]
      exact ⟨same_refl _ _, by simp [eqB], rfl, hlen⟩
    · rw [if_neg hs]
      have hs2 : sameS u.f (reapV u.f u.l) u.l (reapL u.f u.l) = false := by simpa using hs
      have ev : reapV u.f u.l = u.f := by unfold reapV; rw [if_pos (may_yes hm)]
      refine ⟨by rw [hs2]; rfl, by show eqB (reapV u.f u.l) u.f = true; rw [ev]; simp [eqB], ?_, hlen⟩
      show _ = if mayS (reapV u.f u.l) (reapL u.f u.l) = true then liveA (reapL u.f u.l) else []
      rw [if_pos (may_yes hm), if_pos (may_yes (reap_ok hm)), live_reap hm]
theorem exec_bin10 {P : Program} {ρ : Operand → Value} {o : Oper} {op : BinOp} {t t2 : TypeId} {x y : Operand} {v : Value} {w : World} (ho : o.op = .binOp op t x y t2) (hg : (eqGuard op t x y (ρ x) (ρ y)).run P w = .ok () w) (h : (binOp op t (ρ x) (ρ y)).run P w = .ok v w) : Sem.run P (execOp ρ o) w = .ok (.value v) w := by
  have e : execOp ρ o = (do pure (.value (← (do eqGuard op t x y (ρ x) (ρ y); binOp op t (ρ x) (ρ y))))) := by unfold execOp; rw [ho]
  rw [e, Sem.run_bind, Sem.run_bind, hg]
  show (((binOp op t (ρ x) (ρ y)).run P w).andThen _) = _
  rw [h]
  rfl
set_option maxRecDepth 100000 in
set_option maxHeartbeats 4000000 in
theorem reaps_walk (a : Option Addr) (cap : Nat) (es : List E) (key : ByteArray) (w : World) (hE : Ens w a cap es) (_ : ∀ e ∈ es, e.key.size ≤ maxLen) (hkey0 : key.size ≤ 140737488351232) :
    Calls Try.prog 4 #[.slice a es.length cap, .string key] w fun e w' => e = .returned (.bool true) ∧ Off (fun _ => False) w w' := by
  have hnot := not_any
  have hkey : key.size ≤ maxLen := by unfold maxLen; omega
  clear hkey0
  have HE : Hid _ := hE
  clear hE
  cases hl : lightE es
  · go_enter Try.func4, Try.ntmps4
    go_wp2_with fail
    refine (light_any a cap es w HE.out).mono ?_
    rw [hl]
    rintro e w1 ⟨rfl, o1⟩
    go_wp2_with fail
    refine (awake_any _).mono ?_
    rintro e va ⟨rfl, oa⟩
    go_wp2_with fail
    go_ret
    exact ⟨rfl, o1.trans oa (fun _ _ h => h)⟩
  · have H60 : Hid (es.length ≤ 60) := (light_iff.1 hl).1
    go_enter Try.func4, Try.ntmps4
    go_wp2_with fail
    refine (light_any a cap es w HE.out).mono ?_
    rw [hl]
    rintro e w1 ⟨rfl, o1⟩
    go_wp2_with fail
    refine (tnew_any _).mono ?_
    rintro e w2 ⟨p, b, rfl, tb, hp, hb, o2⟩
    have HB : Hid (w.heap.size ≤ b) := Nat.le_trans o1.size hb
    have HT0 : Hid _ := tb
    have HO0 : Hid _ := o1.trans o2 (fun _ _ h => h)
    clear tb hp hb o1 o2 hl
    go_wp2_with fail
    go_loopw [21] (fun y wr => ∃ (n : Nat) (t : List E), y = .int .i64 (n : Int) ∧ n ≤ es.length ∧ absE t = joins [] (es.take n) ∧ Tab p b t wr ∧ Off (fun _ => False) w wr) (fun y _ => (es.length - intOf y).toNat)
    case atStart => exact ⟨0, [], rfl, by omega, rfl, HT0.out, HO0.out⟩
    case round =>
      obtain ⟨n, t, rfl, hn, hj, ht, O⟩ := hrel
      have HJ : Hid _ := hj
      have HT : Hid _ := ht
      have HO : Hid _ := O

      have h60 := H60.out
      clear hj ht O
      by_cases hlt : n < es.length
      · have e1 : decide ((n : Int) < (es.length : Int)) = true := decide_eq_true (by omega)
        have e2 : decide (n < es.length) = true := decide_eq_true hlt
        obtain ⟨x, hx⟩ : ∃ x, es[n]? = some x := ⟨_, List.getElem?_eq_getElem hlt⟩
        have hE := HE.out.off HO.out
        obtain ⟨bx, ox, rfl, kx, rx⟩ := hE.at_ n x hx
        obtain ⟨k0, k1, k2, k3, k4, k5, k6, k7, k8, k9⟩ := ent10 kx
        have hix := idx_ents hlt
        have HRX : Hid _ := rx
        clear kx rx
        clear hE
        go_upto_region 7 with fail
        have Cq7 := Cel.new wr 29 #[.string x.key, .int .i64 (x.f 0), .int .i64 (x.f 1), .int .i64 (x.f 2), .int .i64 (x.f 3), .int .i64 (x.f 4), .int .i64 (x.f 5), .int .i64 (x.f 6), .int .i64 (x.f 7), .slice x.a x.l.length x.cap]
        have OA : Off (fun _ => False) wr (wr.alloc (.cells #[.string x.key, .int .i64 (x.f 0), .int .i64 (x.f 1), .int .i64 (x.f 2), .int .i64 (x.f 3), .int .i64 (x.f 4), .int .i64 (x.f 5), .int .i64 (x.f 6), .int .i64 (x.f 7), .slice x.a x.l.length x.cap] 29)) := (Off.refl _ wr).alloc _
        generalize hq : wr.heap.size = q7 at Cq7 ⊢
        generalize hv : wr.alloc (.cells #[.string x.key, .int .i64 (x.f 0), .int .i64 (x.f 1), .int .i64 (x.f 2), .int .i64 (x.f 3), .int .i64 (x.f 4), .int .i64 (x.f 5), .int .i64 (x.f 6), .int .i64 (x.f 7), .slice x.a x.l.length x.cap] 29) = V7 at Cq7 OA ⊢
        clear hq hv
        clear k0 k1 k2 k3 k4 k5 k6 k7 k8 k9 hix
        obtain ⟨x0, x1, x2, x3, x4, x5, x6, x7, x8, x9⟩ := cel10 Cq7
        have HTV : Hid _ := HT.out.free OA
        have HRV : Hid _ := HRX.out.off OA
        have HOV : Hid _ := HO.out.trans OA (fun _ _ h => h)
        have HOA : Hid _ := OA
        clear OA Cq7
        go_wp2_with fail
        clear x0 x1 x2 x3 x4 x5 x6 x7 x8 x9
        refine (tjoin_any p b t x.key x.f x.a x.cap x.l _ HTV.out HRV.out).mono ?_
        rintro e w3 ⟨g, a', c', l', sm, er, t', rfl, hj, -, -, tb, o3⟩
        have HJ3 : Hid (absE t' = jo (absE t) x) := (congrArg JR.x hj).symm
        have HT3 : Hid _ := tb
        have HO3 : Hid _ := HOV.out.trans o3 (fun i hi e => by have := HB.out; omega)
        have HO3' : Hid _ := o3
        clear hj tb o3
        go_wp2_with fail
        go_roundw
        case rel =>
          refine ⟨n + 1, t', by go_num, by omega, ?_, HT3.out, HO3.out⟩
          rw [joins_step [] hx, HJ3.out, HJ.out]
        case measure => simp [intOf]; omega
      · obtain rfl : n = es.length := by omega
        have e1 : decide ((es.length : Int) < (es.length : Int)) = false := decide_eq_false (by omega)
        have e2 : decide (es.length < es.length) = false := decide_eq_false (by omega)
        rw [joins_all] at HJ
        have HOK : Hid (OkT (absE t)) := by show OkT _; rw [HJ.out]; exact okT_joins okT_nil es
        go_wp2_with fail
        refine (tget_any p b t key hkey _ HT.out (okT_get HOK.out rfl key)).mono ?_
        rintro e w3 ⟨a1, c1, l1, rfl, hc1, hr1, -, o3⟩
        obtain ⟨u, hu⟩ : ∃ u, u = getE t key := ⟨_, rfl⟩
        rw [← hu] at hc1 ⊢
        obtain ⟨th, hth⟩ : ∃ th, th = (fndG E.key key t).isSome := ⟨_, rfl⟩
        rw [← hth]
        have HU : Hid _ := hu
        have HTH : Hid _ := hth
        have HC1 : Hid _ := hc1
        clear hu hth hc1
        go_upto_region 10 with fail
        have Cq8 := Cel.new w3 27 #[.int .i64 (u.f 0), .int .i64 (u.f 1), .int .i64 (u.f 2), .int .i64 (u.f 3), .int .i64 (u.f 4), .int .i64 (u.f 5), .int .i64 (u.f 6), .int .i64 (u.f 7), .slice a1 l1.length c1]
        have OA : Off (fun _ => False) w3 (w3.alloc (.cells #[.int .i64 (u.f 0), .int .i64 (u.f 1), .int .i64 (u.f 2), .int .i64 (u.f 3), .int .i64 (u.f 4), .int .i64 (u.f 5), .int .i64 (u.f 6), .int .i64 (u.f 7), .slice a1 l1.length c1] 27)) := (Off.refl _ w3).alloc _
        generalize hq : w3.heap.size = q8 at Cq8 ⊢
        generalize hv : w3.alloc (.cells #[.int .i64 (u.f 0), .int .i64 (u.f 1), .int .i64 (u.f 2), .int .i64 (u.f 3), .int .i64 (u.f 4), .int .i64 (u.f 5), .int .i64 (u.f 6), .int .i64 (u.f 7), .slice a1 l1.length c1] 27) = V8 at Cq8 OA ⊢
        clear hq hv
        have O8 := o3.trans OA (fun _ _ h => h)
        have H8a : Hid _ := Cq8
        have HR8 : Hid _ := hr1.off OA
        have HT8 : Hid _ := HT.out.free O8
        have HO8 : Hid _ := HO.out.trans O8 (fun _ _ h => h)
        clear Cq8 hr1 OA o3 O8 HT HO
        go_wp2_with fail
        refine (tlen_any p b t _ HT8.out).mono ?_
        rintro e w4 ⟨rfl, hw4⟩
        rw [hw4]
        clear hw4 w4
        go_wp2_with fail
        refine (treap_any p b t key hkey _ HT8.out).mono ?_
        rintro e w5 ⟨rfl, t2, tb2, ha2, o5⟩
        obtain ⟨dd, hdd⟩ : ∃ dd, dd = reapB (absE t) key := ⟨_, rfl⟩
        rw [← hdd]
        have HDB : Hid _ := hdd
        have HA2 : Hid _ := ha2
        have HT5 : Hid _ := tb2
        have H8b : Hid _ := H8a.out.off o5 (HT8.out.ne H8a.out)
        have HR8b : Hid _ := HR8.out.offN o5 HT8.out.noI
        have HO5 : Hid _ := HO8.out.trans o5 (fun i hi e => by have := HB.out; omega)
        have HOK2 : Hid (OkT (absE t2)) := by show OkT _; rw [ha2]; exact okT_reap HOK.out key
        clear hdd ha2 tb2 o5
        go_wp2_with fail
        refine (tget_any p b t2 key hkey _ HT5.out (okT_get HOK2.out rfl key)).mono ?_
        rintro e w6 ⟨a2, c2, l2, rfl, hc2, hr2, -, o6⟩
        obtain ⟨v, hv⟩ : ∃ v, v = getE t2 key := ⟨_, rfl⟩
        rw [← hv] at hc2 ⊢
        have hth2 : (fndG E.key key t2).isSome = th := by rw [HTH.out, fnd_isSome, fnd_isSome, HA2.out]; exact reap_some (abs_sor.2 HT8.out.sor) key
        rw [hth2]
        have HV : Hid _ := hv
        have HC2 : Hid _ := hc2
        clear hv hc2 hth2
        go_upto_region 13 with fail
        have Cq12 := Cel.new w6 27 #[.int .i64 (v.f 0), .int .i64 (v.f 1), .int .i64 (v.f 2), .int .i64 (v.f 3), .int .i64 (v.f 4), .int .i64 (v.f 5), .int .i64 (v.f 6), .int .i64 (v.f 7), .slice a2 l2.length c2]
        have OA : Off (fun _ => False) w6 (w6.alloc (.cells #[.int .i64 (v.f 0), .int .i64 (v.f 1), .int .i64 (v.f 2), .int .i64 (v.f 3), .int .i64 (v.f 4), .int .i64 (v.f 5), .int .i64 (v.f 6), .int .i64 (v.f 7), .slice a2 l2.length c2] 27)) := (Off.refl _ w6).alloc _
        generalize hq : w6.heap.size = q12 at Cq12 ⊢
        generalize hv : w6.alloc (.cells #[.int .i64 (v.f 0), .int .i64 (v.f 1), .int .i64 (v.f 2), .int .i64 (v.f 3), .int .i64 (v.f 4), .int .i64 (v.f 5), .int .i64 (v.f 6), .int .i64 (v.f 7), .slice a2 l2.length c2] 27) = V12 at Cq12 OA ⊢
        clear hq hv
        have O12 := o6.trans OA (fun _ _ h => h)
        have H12 : Hid _ := Cq12
        have HR2 : Hid _ := hr2.off OA
        have HT12 : Hid _ := HT5.out.free O12
        have HO12a : Hid _ := HO5.out.trans O12 (fun _ _ h => h)
        have H8 : Hid _ := H8b.out.off O12 (fun h => h)
        have HR1 : Hid _ := HR8b.out.off O12
        clear Cq12 hr2 OA o6 O12
        have e9 : (binOp .neq 4 (.bool th) (.bool th)).run Try.prog = (binOp .neq 4 (.bool th) (.bool th)).run Try.prog := rfl
        have hnn : (th != th) = false := by cases th <;> rfl
        clear e9
        go_wp2_with fail
        refine (tlen_any p b t2 _ HT12.out).mono ?_
        rintro e w7 ⟨rfl, hw7⟩
        rw [hw7]
        clear hw7 w7
        have hlen : ((t2.length : Int) != (t.length : Int)) = false := by rw [← absE_len, ← absE_len, HA2.out, reap_length (abs_sor.2 HT8.out.sor)]; simp
        go_wp2_with fail
        have hrp := treap_any p b t2 key hkey _ HT12.out
        rw [HA2.out, reap_once (abs_sor.2 HT8.out.sor) HOK.out] at hrp
        refine hrp.mono ?_
        clear hrp
        rintro e w8 ⟨rfl, t3, tb3, -, o8⟩
        have H8c : Hid _ := H8.out.off o8 (HT12.out.ne H8.out)
        have H12c : Hid _ := H12.out.off o8 (HT12.out.ne H12.out)
        have HR1c : Hid _ := HR1.out.offN o8 HT12.out.noI
        have HR2c : Hid _ := HR2.out.offN o8 HT12.out.noI
        have HO12 : Hid _ := HO12a.out.trans o8 (fun i hi e => by have := HB.out; omega)
        clear tb3 o8 HT12 H8 H12 HR1 HR2
        have H8 : Hid _ := H8c.out
        have H12 : Hid _ := H12c.out
        have HR1 : Hid _ := HR1c.out
        have HR2 : Hid _ := HR2c.out
        clear H8c H12c HR1c HR2c
        have hfac := reap_facts (abs_sor.2 HT8.out.sor) HOK.out key
        rw [← HA2.out, ← getE_abs, ← getE_abs, ← HU.out, ← HV.out] at hfac
        have HSM : Hid (sameS u.f v.f (cont l1) (cont l2) = !dd) := by show _ = _; rw [HC1.out, HC2.out, HDB.out]; exact hfac.1
        have HVF : Hid (eqB v.f u.f = true) := hfac.2.1
        have HLV : Hid ((if mayS u.f (cont l1) = true then liveA (cont l1) else []) = (if mayS v.f (cont l2) = true then liveA (cont l2) else [])) := by show _ = _; rw [HC1.out, HC2.out]; exact hfac.2.2.1
        have HLL : Hid ((if mayS u.f (cont l1) = true then liveA (cont l1) else []).length ≤ 1000) := by show _ ≤ _; rw [HC1.out]; exact hfac.2.2.2
        clear hfac
        go_wp2_with fail
        refine wp_region_held_drew (S := fun w' => Off (fun _ => False) w8 w') (by kernel_rfl) ((Off.refl _ w8).drew) (fun hS => ?_)
        refine take_at (i := 0) 60 (v := .bool dd) rfl rfl (by kernel_rfl) (by kernel_rfl) (by kernel_rfl) (fun _ _ _ h => h) (Or.inl ⟨by rfl, fun w' hw' => by go_simp⟩) hS ?_
        simp only [Act.put, List.setIfInBounds_toArray, List.set_cons_zero, List.set_cons_succ]
        refine take_at (i := 1) 61 (v := .agg #[.int .i64 (u.f 0), .int .i64 (u.f 1), .int .i64 (u.f 2), .int .i64 (u.f 3), .int .i64 (u.f 4), .int .i64 (u.f 5), .int .i64 (u.f 6), .int .i64 (u.f 7), .slice a1 l1.length c1]) rfl rfl (by kernel_rfl) (by kernel_rfl) (by kernel_rfl) (fun _ _ _ h => h) (Or.inl ⟨by rfl, fun w' hw' => by obtain ⟨x0, x1, x2, x3, x4, x5, x6, x7, x8⟩ := cel9 (H8.out.off hw' (fun h => h)); go_simp⟩) hS ?_
        simp only [Act.put, List.setIfInBounds_toArray, List.set_cons_zero, List.set_cons_succ]
        refine take_at (i := 2) 62 (v := .agg #[.int .i64 (v.f 0), .int .i64 (v.f 1), .int .i64 (v.f 2), .int .i64 (v.f 3), .int .i64 (v.f 4), .int .i64 (v.f 5), .int .i64 (v.f 6), .int .i64 (v.f 7), .slice a2 l2.length c2]) rfl rfl (by kernel_rfl) (by kernel_rfl) (by kernel_rfl) (fun _ _ _ h => h) (Or.inl ⟨by rfl, fun w' hw' => by obtain ⟨x0, x1, x2, x3, x4, x5, x6, x7, x8⟩ := cel9 (H12.out.off hw' (fun h => h)); go_simp⟩) hS ?_
        simp only [Act.put, List.setIfInBounds_toArray, List.set_cons_zero, List.set_cons_succ]
        refine wpAnyH_ready (rs := [3]) (by kernel_rfl) (by simp) ?_
        refine AllReadyH.cons rfl (fun K' hK' => ?_) AllReadyH.nil
        go_simp
        refine (ssame_any u.f v.f a1 a2 c1 c2 l1 l2 _ (HR1.out.off hS) (HR2.out.off hS)).mono ?_
        rw [HSM.out]
        rintro e y1 ⟨rfl, o1⟩
        have hS1 := hS.trans o1 (fun _ _ h => h)
        refine hK'.out _ _ hS1 (fun hS => ?_)
        clear hK' K' hS1 o1
        refine take_at (i := 4) 64 (v := .bool dd) rfl rfl (by kernel_rfl) (by kernel_rfl) (by kernel_rfl) (fun _ _ _ h => h) (Or.inl ⟨by rfl, fun w' hw' => by cases dd <;> go_simp⟩) hS ?_
        simp only [Act.put, List.setIfInBounds_toArray, List.set_cons_zero, List.set_cons_succ]
        refine take_at (i := 5) 65 (v := .bool true) rfl rfl (by kernel_rfl) (by kernel_rfl) (by kernel_rfl) (fun _ _ _ h => h) (Or.inl ⟨by rfl, fun w' hw' => by cases dd <;> go_simp⟩) hS ?_
        simp only [Act.put, List.setIfInBounds_toArray, List.set_cons_zero, List.set_cons_succ]
        refine take_at (i := 6) 66 (v := .bool true) rfl rfl (by kernel_rfl) (by kernel_rfl) (by kernel_rfl) (fun _ _ _ h => h) (Or.inl ⟨by rfl, fun w' hw' => by go_simp⟩) hS ?_
        simp only [Act.put, List.setIfInBounds_toArray, List.set_cons_zero, List.set_cons_succ]
        refine take_at (i := 7) 67 (v := .pointer (some ⟨q12, 0, none⟩)) rfl rfl (by kernel_rfl) (by kernel_rfl) (by kernel_rfl) (fun _ _ _ h => h) (Or.inl ⟨by rfl, fun w' hw' => by go_simp⟩) hS ?_
        simp only [Act.put, List.setIfInBounds_toArray, List.set_cons_zero, List.set_cons_succ]
        refine take_at (i := 8) 68 (v := .agg #[.int .i64 (v.f 0), .int .i64 (v.f 1), .int .i64 (v.f 2), .int .i64 (v.f 3), .int .i64 (v.f 4), .int .i64 (v.f 5), .int .i64 (v.f 6), .int .i64 (v.f 7)]) rfl rfl (by kernel_rfl) (by kernel_rfl) (by kernel_rfl) (fun _ _ _ h => h) (Or.inl ⟨by rfl, fun w' hw' => by obtain ⟨x0, x1, x2, x3, x4, x5, x6, x7, x8⟩ := cel9 (H12.out.off hw' (fun h => h)); go_simp⟩) hS ?_
        simp only [Act.put, List.setIfInBounds_toArray, List.set_cons_zero, List.set_cons_succ]
        refine take_at (i := 9) 69 (v := .pointer (some ⟨q8, 0, none⟩)) rfl rfl (by kernel_rfl) (by kernel_rfl) (by kernel_rfl) (fun _ _ _ h => h) (Or.inl ⟨by rfl, fun w' hw' => by go_simp⟩) hS ?_
        simp only [Act.put, List.setIfInBounds_toArray, List.set_cons_zero, List.set_cons_succ]
        refine take_at (i := 10) 70 (v := .agg #[.int .i64 (u.f 0), .int .i64 (u.f 1), .int .i64 (u.f 2), .int .i64 (u.f 3), .int .i64 (u.f 4), .int .i64 (u.f 5), .int .i64 (u.f 6), .int .i64 (u.f 7)]) rfl rfl (by kernel_rfl) (by kernel_rfl) (by kernel_rfl) (fun _ _ _ h => h) (Or.inl ⟨by rfl, fun w' hw' => by obtain ⟨x0, x1, x2, x3, x4, x5, x6, x7, x8⟩ := cel9 (H8.out.off hw' (fun h => h)); go_simp⟩) hS ?_
        simp only [Act.put, List.setIfInBounds_toArray, List.set_cons_zero, List.set_cons_succ]
        refine take_at (i := 11) 71 (v := .bool true) rfl rfl (by kernel_rfl) (by kernel_rfl) (by kernel_rfl) (fun _ _ _ h => h) (Or.inl ⟨by rfl, fun w' hw' => exec_bin10 rfl (by go_simp) (by have e := eql_vec v.f u.f w'; rw [HVF.out] at e; exact e)⟩) hS ?_
        simp only [Act.put, List.setIfInBounds_toArray, List.set_cons_zero, List.set_cons_succ]
        refine take_at (i := 12) 72 (v := .bool true) rfl rfl (by kernel_rfl) (by kernel_rfl) (by kernel_rfl) (fun _ _ _ h => h) (Or.inl ⟨by rfl, fun w' hw' => by go_simp⟩) hS ?_
        simp only [Act.put, List.setIfInBounds_toArray, List.set_cons_zero, List.set_cons_succ]
        refine take_at (i := 13) 73 (v := .bool true) rfl rfl (by kernel_rfl) (by kernel_rfl) (by kernel_rfl) (fun _ _ _ h => h) (Or.inl ⟨by rfl, fun w' hw' => by go_simp⟩) hS ?_
        simp only [Act.put, List.setIfInBounds_toArray, List.set_cons_zero, List.set_cons_succ]
        refine take_at (i := 14) 74 (v := .agg #[.int .i64 (u.f 0), .int .i64 (u.f 1), .int .i64 (u.f 2), .int .i64 (u.f 3), .int .i64 (u.f 4), .int .i64 (u.f 5), .int .i64 (u.f 6), .int .i64 (u.f 7), .slice a1 l1.length c1]) rfl rfl (by kernel_rfl) (by kernel_rfl) (by kernel_rfl) (fun _ _ _ h => h) (Or.inl ⟨by rfl, fun w' hw' => by obtain ⟨x0, x1, x2, x3, x4, x5, x6, x7, x8⟩ := cel9 (H8.out.off hw' (fun h => h)); go_simp⟩) hS ?_
        simp only [Act.put, List.setIfInBounds_toArray, List.set_cons_zero, List.set_cons_succ]
        refine take_at (i := 16) 76 (v := .agg #[.int .i64 (v.f 0), .int .i64 (v.f 1), .int .i64 (v.f 2), .int .i64 (v.f 3), .int .i64 (v.f 4), .int .i64 (v.f 5), .int .i64 (v.f 6), .int .i64 (v.f 7), .slice a2 l2.length c2]) rfl rfl (by kernel_rfl) (by kernel_rfl) (by kernel_rfl) (fun _ _ _ h => h) (Or.inl ⟨by rfl, fun w' hw' => by obtain ⟨x0, x1, x2, x3, x4, x5, x6, x7, x8⟩ := cel9 (H12.out.off hw' (fun h => h)); go_simp⟩) hS ?_
        simp only [Act.put, List.setIfInBounds_toArray, List.set_cons_zero, List.set_cons_succ]
        refine wpAnyH_ready (rs := [15]) (by kernel_rfl) (by simp) ?_
        refine AllReadyH.cons rfl (fun K' hK' => ?_) AllReadyH.nil
        go_simp
        refine (slive_any u.f a1 c1 l1 _ (HR1.out.off hS)).mono ?_
        rintro e y2 ⟨ta, ca, xs, rfl, og1, sr1, hd1, o2⟩
        have hS1 := hS.trans o2 (fun _ _ h => h)
        refine hK'.out _ _ hS1 (fun hS => ?_)
        clear hK' K' hS1
        have HG1 : Hid _ := og1
        have HS1 : Hid _ := sr1
        have HD1 : Hid _ := hd1
        clear og1 sr1 hd1 o2
        refine wpAnyH_ready (rs := [17]) (by kernel_rfl) (by simp) ?_
        refine AllReadyH.cons rfl (fun K' hK' => ?_) AllReadyH.nil
        go_simp
        refine (slive_any v.f a2 c2 l2 _ (HR2.out.off hS)).mono ?_
        rintro e y3 ⟨tb, cb, ys, rfl, og2, sr2, hd2, o3⟩
        have hS1 := hS.trans o3 (fun _ _ h => h)
        refine hK'.out _ _ hS1 (fun hS => ?_)
        clear hK' K' hS1
        have HG1b : Hid _ := HG1.out.off o3 (fun _ _ _ h => h)
        have HS1b : Hid (∀ b ∈ xs, Src y3 b.ad b.cap b.data) := fun b hb => (HS1.out b hb).1.off o3 (fun _ _ _ h => h)
        have HG2 : Hid _ := og2
        have HS2 : Hid (∀ b ∈ ys, Src y3 b.ad b.cap b.data) := fun b hb => (sr2 b hb).1
        have HDD : Hid (xs.map B.data = ys.map B.data) := by show _ = _; rw [HD1.out, hd2]; exact HLV.out
        have hxl : xs.length ≤ 1000 := by have e := congrArg List.length HD1.out; rw [List.length_map] at e; have := HLL.out; rw [← e] at this; exact this
        clear og2 sr2 hd2 o3
        refine wpAnyH_ready (rs := [18]) (by kernel_rfl) (by simp) ?_
        refine AllReadyH.cons rfl (fun K' hK' => ?_) AllReadyH.nil
        go_simp
        refine (samebytes_any ta tb ca cb xs ys _ HG1b.out HG2.out HS1b.out HS2.out HDD.out hxl).mono ?_
        rintro e y4 ⟨rfl, o4⟩
        have hS1 := hS.trans o4 (fun _ _ h => h)
        refine hK'.out _ _ hS1 (fun hS => ?_)
        clear hK' K' hS1 o4
        refine take_at (i := 19) 79 (v := .bool true) rfl rfl (by kernel_rfl) (by kernel_rfl) (by kernel_rfl) (fun _ _ _ h => h) (Or.inl ⟨by rfl, fun w' hw' => by go_simp⟩) hS ?_
        simp only [Act.put, List.setIfInBounds_toArray, List.set_cons_zero, List.set_cons_succ]
        refine take_at (i := 20) 80 (v := .bool true) rfl rfl (by kernel_rfl) (by kernel_rfl) (by kernel_rfl) (fun _ _ _ h => h) (Or.inl ⟨by rfl, fun w' hw' => by go_simp⟩) hS ?_
        simp only [Act.put, List.setIfInBounds_toArray, List.set_cons_zero, List.set_cons_succ]
        refine wpAnyH_ready (rs := [21]) (by kernel_rfl) (by simp) ?_
        refine AllReadyH.cons rfl (fun K' hK' => ?_) AllReadyH.nil
        go_simp
        refine (awake_any _).mono ?_
        rintro e y5 ⟨rfl, o5⟩
        have hS1 := hS.trans o5 (fun _ _ h => h)
        refine hK'.out _ _ hS1 (fun hS => ?_)
        clear hK' K' hS1 o5
        refine take_at (i := 22) 82 (v := .bool true) rfl rfl (by kernel_rfl) (by kernel_rfl) (by kernel_rfl) (fun _ _ _ h => h) (Or.inl ⟨by rfl, fun w' hw' => by go_simp⟩) hS ?_
        simp only [Act.put, List.setIfInBounds_toArray, List.set_cons_zero, List.set_cons_succ]
        refine take_at (i := 23) 4 (v := .bool true) rfl rfl (by kernel_rfl) (by kernel_rfl) (by kernel_rfl) (fun _ _ _ h => h) (Or.inl ⟨by rfl, fun w' hw' => by go_simp⟩) hS ?_
        simp only [Act.put, List.setIfInBounds_toArray, List.set_cons_zero, List.set_cons_succ]
        refine wpAnyH_done (by kernel_rfl) ?_ _
        go_wp2_with fail
        go_ret
        exact ⟨rfl, HO12.out.trans hS (fun _ _ h => h)⟩
end Go.Proofs.Ytbagahlphnafdab
