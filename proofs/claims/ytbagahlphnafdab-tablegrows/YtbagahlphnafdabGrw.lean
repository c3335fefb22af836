/- The walk of TableGrows. -/
import Derived.Test.YtbagahlphnafdabJns
import Derived.Test.YtbagahlphnafdabArg10
import Derived.Test.YtbagahlphnafdabSms
import Derived.Deep.Cut
namespace Go.Proofs.Ytbagahlphnafdab
open Go.RowKit

theorem join_res {X Y : List K} {k : ByteArray} {f g : Nat → Int} {l m : List A} {sm : Bool} {er : Int} (h : joinR X k f l = ⟨Y, g, m, sm, er⟩) (hs : Sor K.key X) : (Y = X ∧ er ≠ 0) ∨ (er = 0 ∧ fndG K.key k Y = some ⟨k, g, m⟩) := by
  rcases joinR_ways X k f l with ⟨-, e⟩ | ⟨-, -, -, -, e⟩ | ⟨-, -, -, -, e⟩ | ⟨u, -, -, -, e⟩
  · rw [e] at h
    simp only [JR.mk.injEq] at h
    exact .inl ⟨h.1.symm, by rw [← h.2.2.2.2]; decide⟩
  · rw [e] at h
    simp only [JR.mk.injEq] at h
    exact .inl ⟨h.1.symm, by rw [← h.2.2.2.2]; decide⟩
  · rw [e] at h
    simp only [JR.mk.injEq] at h
    obtain ⟨rfl, rfl, rfl, -, rfl⟩ := h
    exact .inr ⟨rfl, fnd_put_same K.key (x := ⟨k, _, _⟩) hs⟩
  · rw [e] at h
    simp only [JR.mk.injEq] at h
    obtain ⟨rfl, rfl, rfl, -, rfl⟩ := h
    exact .inr ⟨rfl, fnd_put_same K.key (x := ⟨k, _, _⟩) hs⟩
theorem grow_facts {X Y : List K} {k : ByteArray} {f g : Nat → Int} {l m : List A} {sm : Bool} (hs : Sor K.key X) (ok : OkT X) (h : joinR X k f l = ⟨Y, g, m, sm, 0⟩) {x : K} (hx : x ∈ X) :
    (fndG K.key x.key Y).isSome = true ∧ ((x.key ≠ k → sameS x.f (getK Y x.key).f x.l (getK Y x.key).l = true) ∧ (x.key = k → x.l.length + l.length ≤ 16 → leqS x.f (getK Y x.key).f x.l (getK Y x.key).l = true ∧ leqS f (getK Y x.key).f l (getK Y x.key).l = true)) := by
  have hxf : fndG K.key x.key X = some x := (fnd_some K.key hs).2 ⟨hx, rfl⟩
  have other : ∀ v : K, v.key = k → x.key ≠ k → fndG K.key x.key (putG K.key v X) = some x := fun v hv hk => by
    rw [fnd_put_other K.key hs (by rw [hv]; exact hk)]
    exact hxf
  rcases joinR_ways X k f l with ⟨-, e⟩ | ⟨-, -, -, -, e⟩ | ⟨-, -, hn, -, e⟩ | ⟨u, -, hm, hu, e⟩
  · rw [e] at h
    simp only [JR.mk.injEq] at h
    exact absurd h.2.2.2.2 (by decide)
  · rw [e] at h
    simp only [JR.mk.injEq] at h
    exact absurd h.2.2.2.2 (by decide)
  · rw [e] at h
    simp only [JR.mk.injEq] at h
    obtain ⟨rfl, -⟩ := h
    have hk : x.key ≠ k := (fnd_none K.key).1 hn x hx
    have e2 := other ⟨k, joinV zer f [] l, joinL zer f [] l⟩ rfl hk
    have e3 : getK (putG K.key ⟨k, joinV zer f [] l, joinL zer f [] l⟩ X) x.key = x := by unfold getK; rw [e2]; rfl
    rw [e2, e3]
    exact ⟨rfl, fun _ => same_refl _ _, fun hk2 => absurd hk2 hk⟩
  · rw [e] at h
    simp only [JR.mk.injEq] at h
    obtain ⟨rfl, -⟩ := h
    by_cases hk : x.key = k
    · have hxu : x = u := by
        rw [hk, hu] at hxf
        exact (Option.some.inj hxf).symm
      subst hxu
      have e2 : fndG K.key x.key (putG K.key ⟨k, joinV x.f f x.l l, joinL x.f f x.l l⟩ X) = some ⟨k, joinV x.f f x.l l, joinL x.f f x.l l⟩ := by rw [hk]; exact fnd_put_same K.key (x := ⟨k, _, _⟩) hs
      have e3 : getK (putG K.key ⟨k, joinV x.f f x.l l, joinL x.f f x.l l⟩ X) x.key = ⟨k, joinV x.f f x.l l, joinL x.f f x.l l⟩ := by unfold getK; rw [e2]; rfl
      rw [e2, e3]
      exact ⟨rfl, fun h => absurd hk h, fun _ h16 => ⟨ord_left (ok.may x hx) hm h16, ord_right (ok.may x hx) hm h16⟩⟩
    · have e2 := other ⟨k, joinV u.f f u.l l, joinL u.f f u.l l⟩ rfl hk
      have e3 : getK (putG K.key ⟨k, joinV u.f f u.l l, joinL u.f f u.l l⟩ X) x.key = x := by unfold getK; rw [e2]; rfl
      rw [e2, e3]
      exact ⟨rfl, fun _ => same_refl _ _, fun hk2 => absurd hk2 hk⟩
set_option maxRecDepth 100000 in
set_option maxHeartbeats 4000000 in
theorem grows_walk (a : Option Addr) (cap : Nat) (es : List E) (z : E) (w : World) (hE : Ens w a cap es) (_ : ∀ e ∈ es, e.key.size ≤ maxLen) (hzk : z.key.size ≤ maxLen) (hz : Row w z.a z.cap z.l) :
    Calls Try.prog 3 #[.slice a es.length cap, .agg #[.string z.key, .int .i64 (z.f 0), .int .i64 (z.f 1), .int .i64 (z.f 2), .int .i64 (z.f 3), .int .i64 (z.f 4), .int .i64 (z.f 5), .int .i64 (z.f 6), .int .i64 (z.f 7), .slice z.a z.l.length z.cap]] w fun e w' => e = .returned (.bool true) ∧ Off (fun _ => False) w w' := by
  have hnot := not_any
  obtain ⟨W, hW⟩ : ∃ W, W = w.alloc (.cells #[.string z.key, .int .i64 (z.f 0), .int .i64 (z.f 1), .int .i64 (z.f 2), .int .i64 (z.f 3), .int .i64 (z.f 4), .int .i64 (z.f 5), .int .i64 (z.f 6), .int .i64 (z.f 7), .slice z.a z.l.length z.cap] 29) := ⟨_, rfl⟩
  have O : Off (fun _ => False) w W := by rw [hW]; exact (Off.refl _ w).alloc _
  have C : Cel w.heap.size 29 #[.string z.key, .int .i64 (z.f 0), .int .i64 (z.f 1), .int .i64 (z.f 2), .int .i64 (z.f 3), .int .i64 (z.f 4), .int .i64 (z.f 5), .int .i64 (z.f 6), .int .i64 (z.f 7), .slice z.a z.l.length z.cap] W := by rw [hW]; exact Cel.new w _ _
  have HE : Hid _ := hE.off O
  have HRZW : Hid _ := hz.off O
  have HCW : Hid _ := C
  have HOW : Hid _ := O
  have HW : Hid _ := hW
  clear hE hz O C hW
  cases hl : lightE es
  · go_enter Try.func3, Try.ntmps3
    go_upto_region 1 with fail
    rw [← HW.out]
    go_wp2_with fail
    refine (light_any a cap es W HE.out).mono ?_
    rw [hl]
    rintro e w1 ⟨rfl, o1⟩
    go_wp2_with fail
    refine (awake_any _).mono ?_
    rintro e va ⟨rfl, oa⟩
    go_wp2_with fail
    go_ret
    exact ⟨rfl, HOW.out.trans (o1.trans oa (fun _ _ h => h)) (fun _ _ h => h)⟩
  · have H60 : Hid (es.length ≤ 60) := (light_iff.1 hl).1
    go_enter Try.func3, Try.ntmps3
    go_upto_region 1 with fail
    rw [← HW.out]
    go_wp2_with fail
    refine (light_any a cap es W HE.out).mono ?_
    rw [hl]
    rintro e w1 ⟨rfl, o1⟩
    have HC1 : Hid _ := HCW.out.off o1 (fun h => h)
    have HO1 : Hid _ := HOW.out.trans o1 (fun _ _ h => h)
    have HE1 : Hid _ := HE.out.off o1
    have HRZ1 : Hid _ := HRZW.out.off o1
    clear o1 hl
    obtain ⟨x0, x1, x2, x3, x4, x5, x6, x7, x8, x9⟩ := cel10 HC1.out
    have OA1 : Off (fun _ => False) w1 (w1.alloc (.cells #[.string z.key, .int .i64 (z.f 0), .int .i64 (z.f 1), .int .i64 (z.f 2), .int .i64 (z.f 3), .int .i64 (z.f 4), .int .i64 (z.f 5), .int .i64 (z.f 6), .int .i64 (z.f 7), .slice z.a z.l.length z.cap] 29)) := (Off.refl _ w1).alloc _
    have EZ : Ens (w1.alloc (.cells #[.string z.key, .int .i64 (z.f 0), .int .i64 (z.f 1), .int .i64 (z.f 2), .int .i64 (z.f 3), .int .i64 (z.f 4), .int .i64 (z.f 5), .int .i64 (z.f 6), .int .i64 (z.f 7), .slice z.a z.l.length z.cap] 29)) (some ⟨w1.heap.size, 0, none⟩) 1 [z] := by
      refine ⟨by simp, by omega, fun i e hi => ?_⟩
      cases i with
      | succ i => simp at hi
      | zero =>
        simp only [List.getElem?_cons_zero, Option.some.injEq] at hi
        subst hi
        refine ⟨w1.heap.size, 0, rfl, fun j u hj => ?_, HRZ1.out.off OA1⟩
        rw [Nat.zero_mul, Nat.zero_add, (Cel.new w1 29 #[.string z.key, .int .i64 (z.f 0), .int .i64 (z.f 1), .int .i64 (z.f 2), .int .i64 (z.f 3), .int .i64 (z.f 4), .int .i64 (z.f 5), .int .i64 (z.f 6), .int .i64 (z.f 7), .slice z.a z.l.length z.cap]).cell j, ← hj, List.getElem?_toArray]
        rfl
    have HEZ : Hid _ := EZ
    have HOA1 : Hid _ := OA1
    clear EZ OA1
    go_wp2_with fail
    clear x0 x1 x2 x3 x4 x5 x6 x7 x8 x9
    refine (light_any (some ⟨w1.heap.size, 0, none⟩) 1 [z] _ HEZ.out).mono ?_
    cases hl2 : lightE [z]
    · rintro e w2 ⟨rfl, o2⟩
      go_wp2_with fail
      refine (awake_any _).mono ?_
      rintro e va ⟨rfl, oa⟩
      go_wp2_with fail
      go_ret
      exact ⟨rfl, HO1.out.trans (HOA1.out.trans (o2.trans oa (fun _ _ h => h)) (fun _ _ h => h)) (fun _ _ h => h)⟩
    · have hz20 : z.l.length ≤ 20 := (light_iff.1 hl2).2 z (by simp)
      rintro e w2 ⟨rfl, o2⟩
      have O12 := HOA1.out.trans o2 (fun _ _ h => h)
      have HOW2 : Hid _ := HO1.out.trans O12 (fun _ _ h => h)
      have HE0 : Hid _ := HE1.out.off O12
      have HC : Hid _ := HC1.out.off O12 (fun h => h)
      have HRZ : Hid _ := HRZ1.out.off O12
      clear o2 hl2 O12 HE HC1 HRZ1 HE1 HOA1 HO1 HEZ HCW HRZW HOW HW
      go_wp2_with fail
      refine (tnew_any _).mono ?_
      rintro e w3 ⟨p, b, rfl, tb, hp, hb, o3⟩
      have HB : Hid (w2.heap.size ≤ b) := hb
      have HT0 : Hid _ := tb
      have HO0 : Hid _ := o3
      clear tb hp hb o3
      go_wp2_with fail
      go_loopw [31] (fun y wr => ∃ (n : Nat) (t : List E), y = .int .i64 (n : Int) ∧ n ≤ es.length ∧ absE t = joins [] (es.take n) ∧ Tab p b t wr ∧ Off (fun _ => False) w2 wr) (fun y _ => (es.length - intOf y).toNat)
      case atStart => exact ⟨0, [], rfl, by omega, rfl, HT0.out, HO0.out⟩
      case round =>
        obtain ⟨n, t, rfl, hn, hj, ht, O⟩ := hrel
        have HJ : Hid _ := hj
        have HT : Hid _ := ht
        have HO : Hid _ := O

        have h60 := H60.out
        clear hj ht O
        by_cases hlt : n < es.length
        · have e1 : decide ((n : Int) < (es.length : Int)) = true := decide_eq_true (by omega)
          have e2 : decide (n < es.length) = true := decide_eq_true hlt
          obtain ⟨x, hx⟩ : ∃ x, es[n]? = some x := ⟨_, List.getElem?_eq_getElem hlt⟩
          have hE := HE0.out.off HO.out
          obtain ⟨bx, ox, rfl, kx, rx⟩ := hE.at_ n x hx
          obtain ⟨k0, k1, k2, k3, k4, k5, k6, k7, k8, k9⟩ := ent10 kx
          have hix := idx_ents hlt
          have HRX : Hid _ := rx
          clear kx rx
          clear hE
          go_upto_region 7 with fail
          have Cq7 := Cel.new wr 29 #[.string x.key, .int .i64 (x.f 0), .int .i64 (x.f 1), .int .i64 (x.f 2), .int .i64 (x.f 3), .int .i64 (x.f 4), .int .i64 (x.f 5), .int .i64 (x.f 6), .int .i64 (x.f 7), .slice x.a x.l.length x.cap]
          have OA : Off (fun _ => False) wr (wr.alloc (.cells #[.string x.key, .int .i64 (x.f 0), .int .i64 (x.f 1), .int .i64 (x.f 2), .int .i64 (x.f 3), .int .i64 (x.f 4), .int .i64 (x.f 5), .int .i64 (x.f 6), .int .i64 (x.f 7), .slice x.a x.l.length x.cap] 29)) := (Off.refl _ wr).alloc _
          generalize hq : wr.heap.size = q7 at Cq7 ⊢
          generalize hv : wr.alloc (.cells #[.string x.key, .int .i64 (x.f 0), .int .i64 (x.f 1), .int .i64 (x.f 2), .int .i64 (x.f 3), .int .i64 (x.f 4), .int .i64 (x.f 5), .int .i64 (x.f 6), .int .i64 (x.f 7), .slice x.a x.l.length x.cap] 29) = V7 at Cq7 OA ⊢
          clear hq hv
          clear k0 k1 k2 k3 k4 k5 k6 k7 k8 k9 hix
          obtain ⟨x0, x1, x2, x3, x4, x5, x6, x7, x8, x9⟩ := cel10 Cq7
          have HTV : Hid _ := HT.out.free OA
          have HRV : Hid _ := HRX.out.off OA
          have HOV : Hid _ := HO.out.trans OA (fun _ _ h => h)
          have HOA : Hid _ := OA
          clear OA Cq7
          go_wp2_with fail
          clear x0 x1 x2 x3 x4 x5 x6 x7 x8 x9
          refine (tjoin_any p b t x.key x.f x.a x.cap x.l _ HTV.out HRV.out).mono ?_
          rintro e w3 ⟨g, a', c', l', sm, er, t', rfl, hj, -, -, tb, o3⟩
          have HJ3 : Hid (absE t' = jo (absE t) x) := (congrArg JR.x hj).symm
          have HT3 : Hid _ := tb
          have HO3 : Hid _ := HOV.out.trans o3 (fun i hi e => by have := HB.out; omega)
          have HO3' : Hid _ := o3
          clear hj tb o3
          go_wp2_with fail
          go_roundw
          case rel =>
            refine ⟨n + 1, t', by go_num, by omega, ?_, HT3.out, HO3.out⟩
            rw [joins_step [] hx, HJ3.out, HJ.out]
          case measure => simp [intOf]; omega
        · obtain rfl : n = es.length := by omega
          have e1 : decide ((es.length : Int) < (es.length : Int)) = false := decide_eq_false (by omega)
          have e2 : decide (es.length < es.length) = false := decide_eq_false (by omega)
          rw [joins_all] at HJ
          have HOK : Hid (OkT (absE t)) := by show OkT _; rw [HJ.out]; exact okT_joins okT_nil es
          have HTb : Hid _ := HT.out
          go_wp2_with fail
          refine (tall_any p b t _ HT.out (okT_few HOK.out rfl)).mono ?_
          rintro e w3 ⟨ar, cr, rs, rfl, hrs, ogr, rwr, -, o3⟩
          have HRS : Hid (absE rs = absE t) := hrs
          have HEN : Hid _ := ogr.ens rwr
          have HT3 : Hid _ := HT.out.free o3
          have HO3 : Hid _ := HO.out.trans o3 (fun _ _ h => h)
          clear hrs ogr rwr o3
          have HQ4 : Hid _ := HC.out.off HO3.out (fun h => h)
          have HRZ4 : Hid _ := HRZ.out.off HO3.out
          obtain ⟨x0, x1, x2, x3, x4, x5, x6, x7, x8, x9⟩ := cel10 HQ4.out
          go_wp2_with fail
          clear x0 x1 x2 x3 x4 x5 x6 x7 x8 x9
          refine (tjoin_any p b t z.key z.f z.a z.cap z.l _ HT3.out HRZ4.out).mono ?_
          rintro e w4 ⟨g, a', c', l', sm, er, t', rfl, hj, hr4, -, tb4, o4⟩
          have HJZ : Hid (joinR (absE t) z.key z.f (cont z.l) = ⟨absE t', g, cont l', sm, er⟩) := hj
          have HOK3 : Hid (OkT (absE t')) := by have h1 := okT_join HOK.out z.key z.f (cont z.l); rw [hj] at h1; exact h1
          have hN := HT3.out.noI
          go_upto_region 11 with fail
          have Cq9 := Cel.new w4 27 #[.int .i64 (g 0), .int .i64 (g 1), .int .i64 (g 2), .int .i64 (g 3), .int .i64 (g 4), .int .i64 (g 5), .int .i64 (g 6), .int .i64 (g 7), .slice a' l'.length c']
          have OA : Off (fun _ => False) w4 (w4.alloc (.cells #[.int .i64 (g 0), .int .i64 (g 1), .int .i64 (g 2), .int .i64 (g 3), .int .i64 (g 4), .int .i64 (g 5), .int .i64 (g 6), .int .i64 (g 7), .slice a' l'.length c'] 27)) := (Off.refl _ w4).alloc _
          generalize hq : w4.heap.size = q9 at Cq9 ⊢
          generalize hv : w4.alloc (.cells #[.int .i64 (g 0), .int .i64 (g 1), .int .i64 (g 2), .int .i64 (g 3), .int .i64 (g 4), .int .i64 (g 5), .int .i64 (g 6), .int .i64 (g 7), .slice a' l'.length c'] 27) = V9 at Cq9 OA ⊢
          clear hq hv
          have HC9 : Hid _ := Cq9
          have HR9 : Hid _ := hr4.off OA
          have HT9 : Hid _ := tb4.free OA
          have HEN9 : Hid _ := (HEN.out.offD o4 hN).off OA
          have HQ9 : Hid _ := (HQ4.out.off o4 (HT3.out.ne HQ4.out)).off OA (fun h => h)
          have HRZ9 : Hid _ := (HRZ4.out.offN o4 hN).off OA
          have HO9 : Hid _ := (HO3.out.trans o4 (fun i hi e => by have := HB.out; omega)).trans OA (fun _ _ h => h)
          clear hj hr4 tb4 o4 OA Cq9 hN
          have hjw := join_res HJZ.out (abs_sor.2 HTb.out.sor)
          by_cases her0 : er = 0
          · subst her0
            have hjo : ∃ u, Hid (fndG K.key z.key (absE t') = some u) ∧ Hid (u.f = g) ∧ Hid (u.l = cont l') := by
              rcases hjw with h | h
              · exact absurd rfl h.2
              · exact ⟨_, h.2, rfl, rfl⟩
            obtain ⟨u, hu1, hu2, hu3⟩ := hjo
            clear hjw
            have q0 : V9.cell? ⟨w.heap.size, 0, none⟩ = some (.string z.key) := HQ9.out.cell 0
            go_wp2_with fail
            clear q0
            have hget := tget_any p b t' z.key hzk _ HT9.out (okT_get HOK3.out rfl z.key)
            have hsome : (fndG E.key z.key t').isSome = true := by rw [fnd_isSome, hu1.out]; rfl
            rw [hsome] at hget
            refine hget.mono ?_
            clear hget hsome
            rintro e w5 ⟨an, cn, ln, rfl, hcn, hrn, -, o5⟩
            obtain ⟨v, hv⟩ : ∃ v, v = getE t' z.key := ⟨_, rfl⟩
            rw [← hv] at hcn ⊢
            have hva : v.abs = u := by rw [hv, getE_abs]; unfold getK; rw [hu1.out]; rfl
            have HSN : Hid (sameS v.f g (cont ln) (cont l') = true) := by
              have e1 : v.f = g := (congrArg K.f hva).trans hu2.out
              have e2 : cont ln = cont l' := hcn.trans ((congrArg K.l hva).trans hu3.out)
              show _ = true
              rw [e1, e2]
              exact same_refl _ _
            clear hva hcn hv hu1 hu2 hu3 u
            go_upto_region 14 with fail
            have Cq12 := Cel.new w5 27 #[.int .i64 (v.f 0), .int .i64 (v.f 1), .int .i64 (v.f 2), .int .i64 (v.f 3), .int .i64 (v.f 4), .int .i64 (v.f 5), .int .i64 (v.f 6), .int .i64 (v.f 7), .slice an ln.length cn]
            have OA : Off (fun _ => False) w5 (w5.alloc (.cells #[.int .i64 (v.f 0), .int .i64 (v.f 1), .int .i64 (v.f 2), .int .i64 (v.f 3), .int .i64 (v.f 4), .int .i64 (v.f 5), .int .i64 (v.f 6), .int .i64 (v.f 7), .slice an ln.length cn] 27)) := (Off.refl _ w5).alloc _
            generalize hq : w5.heap.size = q12 at Cq12 ⊢
            generalize hv : w5.alloc (.cells #[.int .i64 (v.f 0), .int .i64 (v.f 1), .int .i64 (v.f 2), .int .i64 (v.f 3), .int .i64 (v.f 4), .int .i64 (v.f 5), .int .i64 (v.f 6), .int .i64 (v.f 7), .slice an ln.length cn] 27) = V12 at Cq12 OA ⊢
            clear hq hv
            have O5 := o5.trans OA (fun _ _ h => h)
            have HQ9s : Hid _ := HC9.out.off O5 (fun h => h)
            have HQn : Hid _ := Cq12
            have HRn : Hid _ := hrn.off OA
            have HRs : Hid _ := HR9.out.off O5
            have HT12a : Hid _ := HT9.out.free O5
            have HO12a : Hid _ := HO9.out.trans O5 (fun _ _ h => h)
            have HEN12a : Hid _ := HEN9.out.off O5
            have HQ12a : Hid _ := HQ9.out.off O5 (fun h => h)
            have HRZ12a : Hid _ := HRZ9.out.off O5
            clear O5 o5 OA Cq12 hrn
            obtain ⟨x0, x1, x2, x3, x4, x5, x6, x7, x8⟩ := cel9 HQn.out
            obtain ⟨y0, y1, y2, y3, y4, y5, y6, y7, y8⟩ := cel9 HQ9s.out
            go_wp2_with fail
            clear x0 x1 x2 x3 x4 x5 x6 x7 x8 y0 y1 y2 y3 y4 y5 y6 y7 y8
            refine (ssame_any v.f g an a' cn c' ln l' _ HRn.out HRs.out).mono ?_
            rw [HSN.out]
            rintro e V13 ⟨rfl, o13⟩
            have HT12 : Hid _ := HT12a.out.free o13
            have HO12 : Hid _ := HO12a.out.trans o13 (fun _ _ h => h)
            have HEN12 : Hid _ := HEN12a.out.off o13
            have HQ12 : Hid _ := HQ12a.out.off o13 (fun h => h)
            have HRZ12 : Hid _ := HRZ12a.out.off o13
            have HRL : Hid (rs.length ≤ 256) := by have h1 := congrArg List.length HRS.out; rw [absE_len, absE_len] at h1; have := HTb.out.few; show _ ≤ _; omega
            clear o13
            go_wp2_with fail
            go_loopw [74] (fun y wr => ∃ n : Nat, y = .int .i64 (n : Int) ∧ n ≤ rs.length ∧ Off (fun _ => False) V13 wr) (fun y _ => (rs.length - intOf y).toNat)
            case atStart => exact ⟨0, rfl, by omega, Off.refl _ _⟩
            case round =>
              obtain ⟨n, rfl, hn, O⟩ := hrel
              have HO16 : Hid _ := O
              clear O
              have hrl := HRL.out
              by_cases hlt : n < rs.length
              · have e1 : decide ((n : Int) < (rs.length : Int)) = true := decide_eq_true (by omega)
                have e2 : decide (n < rs.length) = true := decide_eq_true hlt
                obtain ⟨x, hx⟩ : ∃ x, rs[n]? = some x := ⟨_, List.getElem?_eq_getElem hlt⟩
                have hE := HEN12.out.off HO16.out
                obtain ⟨bx, ox, rfl, kx, rx⟩ := hE.at_ n x hx
                obtain ⟨k0, k1, k2, k3, k4, k5, k6, k7, k8, k9⟩ := ent10 kx
                have hix := idx_ents hlt
                have HRX : Hid _ := rx
                clear kx rx
                clear hE
                go_upto_region 19 with fail
                have Cq15 := Cel.new wr 29 #[.string x.key, .int .i64 (x.f 0), .int .i64 (x.f 1), .int .i64 (x.f 2), .int .i64 (x.f 3), .int .i64 (x.f 4), .int .i64 (x.f 5), .int .i64 (x.f 6), .int .i64 (x.f 7), .slice x.a x.l.length x.cap]
                have OA : Off (fun _ => False) wr (wr.alloc (.cells #[.string x.key, .int .i64 (x.f 0), .int .i64 (x.f 1), .int .i64 (x.f 2), .int .i64 (x.f 3), .int .i64 (x.f 4), .int .i64 (x.f 5), .int .i64 (x.f 6), .int .i64 (x.f 7), .slice x.a x.l.length x.cap] 29)) := (Off.refl _ wr).alloc _
                generalize hq : wr.heap.size = q15 at Cq15 ⊢
                generalize hv : wr.alloc (.cells #[.string x.key, .int .i64 (x.f 0), .int .i64 (x.f 1), .int .i64 (x.f 2), .int .i64 (x.f 3), .int .i64 (x.f 4), .int .i64 (x.f 5), .int .i64 (x.f 6), .int .i64 (x.f 7), .slice x.a x.l.length x.cap] 29) = V15 at Cq15 OA ⊢
                clear hq hv
                clear k0 k1 k2 k3 k4 k5 k6 k7 k8 k9 hix
                have HOV : Hid _ := HO16.out.trans OA (fun _ _ h => h)
                have HRXV : Hid _ := HRX.out.off OA
                have HQ15a : Hid _ := Cq15
                have HTV : Hid _ := HT12.out.free HOV.out
                have x0 : V15.cell? ⟨q15, 0, none⟩ = some (.string x.key) := Cq15.cell 0
                have hxm : x.abs ∈ absE t := by rw [← HRS.out]; exact List.mem_map.2 ⟨x, List.mem_of_getElem? hx, rfl⟩
                have hxk : x.key.size ≤ maxLen := by
                  have h1 := HOK.out.key x.abs hxm
                  simp only [keyB, Bool.and_eq_true, decide_eq_true_eq] at h1
                  have h2 : x.key.size ≤ 32 := h1.2
                  unfold maxLen
                  omega
                have HXM : Hid _ := hxm
                clear OA Cq15 hxm
                go_wp2_with fail
                clear x0
                have hget := tget_any p b t' x.key hxk _ HTV.out (okT_get HOK3.out rfl x.key)
                have hfn := grow_facts (abs_sor.2 HTb.out.sor) HOK.out HJZ.out HXM.out
                have hsome : (fndG E.key x.key t').isSome = true := by rw [fnd_isSome]; exact hfn.1
                rw [hsome] at hget
                refine hget.mono ?_
                clear hget hsome
                rintro e w6 ⟨ay, cy, ly, rfl, hcy, hry, -, o6⟩
                obtain ⟨y, hy⟩ : ∃ y, y = getE t' x.key := ⟨_, rfl⟩
                rw [← hy] at hcy ⊢
                have hfy : (x.key ≠ z.key → sameS x.f (getE t' x.key).f (cont x.l) (cont (getE t' x.key).l) = true) ∧ (x.key = z.key → x.l.length + z.l.length ≤ 16 → leqS x.f (getE t' x.key).f (cont x.l) (cont (getE t' x.key).l) = true ∧ leqS z.f (getE t' x.key).f (cont z.l) (cont (getE t' x.key).l) = true) := by
                  have h0 := hfn.2
                  rw [← getE_abs] at h0
                  exact ⟨h0.1, fun a b => h0.2 a (by show (cont x.l).length + (cont z.l).length ≤ 16; rw [cont_len, cont_len]; exact b)⟩
                rw [← hy] at hfy
                have HCY : Hid (cont ly = cont y.l) := hcy
                clear hcy hfn hy
                have HFY : Hid _ := hfy
                clear hfy
                go_upto_region 20 with fail
                have Cq16 := Cel.new w6 27 #[.int .i64 (y.f 0), .int .i64 (y.f 1), .int .i64 (y.f 2), .int .i64 (y.f 3), .int .i64 (y.f 4), .int .i64 (y.f 5), .int .i64 (y.f 6), .int .i64 (y.f 7), .slice ay ly.length cy]
                have OA : Off (fun _ => False) w6 (w6.alloc (.cells #[.int .i64 (y.f 0), .int .i64 (y.f 1), .int .i64 (y.f 2), .int .i64 (y.f 3), .int .i64 (y.f 4), .int .i64 (y.f 5), .int .i64 (y.f 6), .int .i64 (y.f 7), .slice ay ly.length cy] 27)) := (Off.refl _ w6).alloc _
                generalize hq : w6.heap.size = q16 at Cq16 ⊢
                generalize hv : w6.alloc (.cells #[.int .i64 (y.f 0), .int .i64 (y.f 1), .int .i64 (y.f 2), .int .i64 (y.f 3), .int .i64 (y.f 4), .int .i64 (y.f 5), .int .i64 (y.f 6), .int .i64 (y.f 7), .slice ay ly.length cy] 27) = V16 at Cq16 OA ⊢
                clear hq hv
                have O6 := o6.trans OA (fun _ _ h => h)
                have HQ16 : Hid _ := Cq16
                have HQ15 : Hid _ := HQ15a.out.off O6 (fun h => h)
                have HO17 : Hid _ := HOV.out.trans O6 (fun _ _ h => h)
                have HQ3c : Hid _ := HQ12.out.off HO17.out (fun h => h)
                have HRX6 : Hid _ := HRXV.out.off O6
                have HRY6 : Hid _ := hry.off OA
                have HRZ6 : Hid _ := HRZ12.out.off HO17.out
                clear OA o6 O6 Cq16 hry
                obtain ⟨k0, k1, k2, k3, k4, k5, k6, k7, k8, k9⟩ := cel10 HQ15.out
                obtain ⟨z0, z1, z2, z3, z4, z5, z6, z7, z8, z9⟩ := cel10 HQ3c.out
                obtain ⟨y0, y1, y2, y3, y4, y5, y6, y7, y8⟩ := cel9 HQ16.out
                have hxl : x.l.length ≤ 1000 := by have h1 := (HOK.out.may x.abs HXM.out).few; have h2 : x.abs.l.length = x.l.length := cont_len x.l; omega
                have hfy := HFY.out
                clear HFY
                by_cases hke : x.key = z.key
                · have kq1 : (x.key.toList == z.key.toList) = true := by rw [hke]; simp
                  have kq2 : (x.key.toList != z.key.toList) = false := by rw [bne, kq1]; rfl
                  have kq3 : x.key.toList = z.key.toList := by rw [hke]
                  by_cases h16 : x.l.length + z.l.length ≤ 16
                  · have d1 : decide ((x.l.length : Int) + (z.l.length : Int) ≤ 16) = true := decide_eq_true (by omega)
                    have d2 : decide (x.l.length + z.l.length ≤ 16) = true := decide_eq_true h16
                    have hlq := hfy.2 hke h16
                    have HL1 : Hid (leqS x.f y.f (cont x.l) (cont ly) = true) := by show _ = true; rw [HCY.out]; exact hlq.1
                    have HL2 : Hid (leqS z.f y.f (cont z.l) (cont ly) = true) := by show _ = true; rw [HCY.out]; exact hlq.2
                    clear hfy hke hlq
                    go_wp2_with fail
                    clear k0 k1 k2 k3 k4 k5 k6 k7 k8 k9 y0 y1 y2 y3 y4 y5 y6 y7 y8 z0 z1 z2 z3 z4 z5 z6 z7 z8 z9
                    refine (sleq_any x.f y.f x.a ay x.cap cy x.l ly _ HRX6.out HRY6.out).mono ?_
                    rw [HL1.out]
                    rintro e v1 ⟨rfl, o1⟩
                    have HQ3b : Hid _ := HQ3c.out.off o1 (fun h => h)
                    have HQ16b : Hid _ := HQ16.out.off o1 (fun h => h)
                    obtain ⟨z0, z1, z2, z3, z4, z5, z6, z7, z8, z9⟩ := cel10 HQ3b.out
                    obtain ⟨y0, y1, y2, y3, y4, y5, y6, y7, y8⟩ := cel9 HQ16b.out
                    go_wp2_with fail
                    refine (sleq_any z.f y.f z.a ay z.cap cy z.l ly _ (HRZ6.out.off o1) (HRY6.out.off o1)).mono ?_
                    rw [HL2.out]
                    rintro e v2 ⟨rfl, o2⟩
                    go_wp2_with fail
                    go_roundw
                    case rel => exact ⟨n + 1, by go_num, by omega, HO17.out.trans (o1.trans o2 (fun _ _ h => h)) (fun _ _ h => h)⟩
                    case measure => simp [intOf]; omega
                  · have d1 : decide ((x.l.length : Int) + (z.l.length : Int) ≤ 16) = false := decide_eq_false (by omega)
                    have d2 : decide (x.l.length + z.l.length ≤ 16) = false := decide_eq_false h16
                    clear hfy hke
                    go_wp2_with fail
                    go_roundw
                    case rel => exact ⟨n + 1, by go_num, by omega, HO17.out⟩
                    case measure => simp [intOf]; omega
                · have kq1 : (x.key.toList == z.key.toList) = false := by rw [toL, toL, beq_eq_false_iff_ne]; exact fun e => hke (kb_inj e)
                  have kq2 : (x.key.toList != z.key.toList) = true := by rw [bne, kq1]; rfl
                  have HSS : Hid (sameS x.f y.f (cont x.l) (cont ly) = true) := by show _ = true; rw [HCY.out]; exact hfy.1 hke
                  clear hfy hke
                  go_wp2_with fail
                  clear k0 k1 k2 k3 k4 k5 k6 k7 k8 k9 y0 y1 y2 y3 y4 y5 y6 y7 y8 z0 z1 z2 z3 z4 z5 z6 z7 z8 z9
                  refine (ssame_any x.f y.f x.a ay x.cap cy x.l ly _ HRX6.out HRY6.out).mono ?_
                  rw [HSS.out]
                  rintro e v1 ⟨rfl, o1⟩
                  have HQ15b : Hid _ := HQ15.out.off o1 (fun h => h)
                  have HQ3b : Hid _ := HQ3c.out.off o1 (fun h => h)
                  obtain ⟨k0, k1, k2, k3, k4, k5, k6, k7, k8, k9⟩ := cel10 HQ15b.out
                  obtain ⟨z0, z1, z2, z3, z4, z5, z6, z7, z8, z9⟩ := cel10 HQ3b.out
                  go_wp2_with fail
                  go_roundw
                  case rel => exact ⟨n + 1, by go_num, by omega, HO17.out.trans o1 (fun _ _ h => h)⟩
                  case measure => simp [intOf]; omega
              · obtain rfl : n = rs.length := by omega
                have e1 : decide ((rs.length : Int) < (rs.length : Int)) = false := decide_eq_false (by omega)
                have e2 : decide (rs.length < rs.length) = false := decide_eq_false (by omega)
                go_wp2_with fail
                refine (awake_any _).mono ?_
                rintro e va ⟨rfl, oa⟩
                go_wp2_with fail
                go_ret
                exact ⟨rfl, HOW2.out.trans ((HO12.out.trans HO16.out (fun _ _ h => h)).trans oa (fun _ _ h => h)) (fun _ _ h => h)⟩
          · have hne : (er != 0) = true := by simp [her0]
            have hx' : absE t' = absE t := by rcases hjw with h | h; exact h.1; exact absurd h.1 her0
            have HX' : Hid _ := hx'
            clear hx' hjw
            go_wp2_with fail
            refine (tall_any p b t' _ HT9.out (okT_few HOK3.out rfl)).mono ?_
            rintro e wb ⟨ab, cb, bs, rfl, hbs, ogb, rwb, -, ob⟩
            have HBS : Hid (absE bs = absE rs) := by show _ = _; rw [hbs, HX'.out, HRS.out]
            have HEB : Hid _ := ogb.ens rwb
            have HER : Hid _ := HEN9.out.off ob
            have HOB : Hid _ := HO9.out.trans ob (fun _ _ h => h)
            have hbl : bs.length ≤ 1000 := by have h1 := congrArg List.length hbs; rw [absE_len, absE_len] at h1; have := HT9.out.few; omega
            clear hbs ogb rwb ob
            go_wp2_with fail
            refine (sameents_any ab ar cb cr bs rs _ HEB.out HER.out HBS.out hbl).mono ?_
            rintro e wc ⟨rfl, oc⟩
            have HOC : Hid _ := HOB.out.trans oc (fun _ _ h => h)
            clear oc
            go_wp2_with fail
            refine (awake_any _).mono ?_
            rintro e va ⟨rfl, oa⟩
            go_wp2_with fail
            go_ret
            exact ⟨rfl, HOW2.out.trans (HOC.out.trans oa (fun _ _ h => h)) (fun _ _ h => h)⟩
end Go.Proofs.Ytbagahlphnafdab
