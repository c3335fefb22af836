/- The walk of TableCopies. -/
import Derived.Test.YtbagahlphnafdaaJns
import Derived.Test.YtbagahlphnafdaaArg10
import Derived.Test.YtbagahlphnafdaaSms
import Derived.Test.YtbagahlphnafdaaCop
import Derived.Deep.Cut
namespace Go.Proofs.Ytbagahlphnafdaa
open Go.RowKit

theorem reap_length {X : List K} (h : Sor K.key X) {k : ByteArray} : (reapT X k).length = X.length := by
  unfold reapT
  cases hf : fndG K.key k X with
  | none => rfl
  | some u =>
    show (if _ then _ else _ : List K).length = _
    split
    · rfl
    · rw [len_putG K.key h]
      show (if (fndG K.key k X).isSome = true then _ else _) = _
      rw [hf]
      rfl
theorem join_sor {X : List K} (h : Sor K.key X) (k : ByteArray) (f : Nat → Int) (l : List A) : Sor K.key (joinR X k f l).x := by
  rcases joinR_ways X k f l with ⟨-, e⟩ | ⟨-, -, -, -, e⟩ | ⟨-, -, -, -, e⟩ | ⟨u, -, -, -, e⟩
  · rw [e]; exact h
  · rw [e]; exact h
  · rw [e]; exact sor_putG K.key h
  · rw [e]; exact sor_putG K.key h
theorem join_mono {X : List K} (h : Sor K.key X) (k : ByteArray) (f : Nat → Int) (l : List A) : X.length ≤ (joinR X k f l).x.length := by
  have hp : ∀ v : K, X.length ≤ (putG K.key v X).length := fun v => by
    rw [len_putG K.key h]
    split <;> omega
  rcases joinR_ways X k f l with ⟨-, e⟩ | ⟨-, -, -, -, e⟩ | ⟨-, -, -, -, e⟩ | ⟨u, -, -, -, e⟩
  · rw [e]; exact Nat.le_refl _
  · rw [e]; exact Nat.le_refl _
  · rw [e]; exact hp _
  · rw [e]; exact hp _
theorem joins_len (X : List K) : ∀ (es : List E), Sor K.key X → X.length ≤ (joins X es).length
  | [], _ => Nat.le_refl _
  | e :: es, h => Nat.le_trans (join_mono h e.key e.f (cont e.l)) (joins_len (jo X e) es (join_sor h e.key e.f (cont e.l)))
set_option maxRecDepth 100000 in
set_option maxHeartbeats 4000000 in
theorem copies_walk (a : Option Addr) (cap : Nat) (es : List E) (am : Option Addr) (cm : Nat) (ms : List E) (w : World) (hE : Ens w a cap es) (_ : ∀ e ∈ es, e.key.size ≤ maxLen) (hM : Ens w am cm ms) (_ : ∀ e ∈ ms, e.key.size ≤ maxLen) :
    Calls Try.prog 7 #[.slice a es.length cap, .slice am ms.length cm] w fun e w' => e = .returned (.bool true) ∧ Off (fun _ => False) w w' := by
  have hnot := not_any
  have hqp := eql_ptr
  have HE : Hid _ := hE
  have HM : Hid _ := hM
  clear hE hM
  cases hl : lightE es
  · go_enter Try.func7, Try.ntmps7
    go_wp2_with fail
    refine (light_any a cap es w HE.out).mono ?_
    rw [hl]
    rintro e w1 ⟨rfl, o1⟩
    go_wp2_with fail
    refine (awake_any _).mono ?_
    rintro e va ⟨rfl, oa⟩
    go_wp2_with fail
    go_ret
    exact ⟨rfl, o1.trans oa (fun _ _ h => h)⟩
  · have H60 : Hid (es.length ≤ 60) := (light_iff.1 hl).1
    cases hl2 : lightE ms
    · go_enter Try.func7, Try.ntmps7
      go_wp2_with fail
      refine (light_any a cap es w HE.out).mono ?_
      rw [hl]
      rintro e w1 ⟨rfl, o1⟩
      go_wp2_with fail
      refine (light_any am cm ms _ (HM.out.off o1)).mono ?_
      rw [hl2]
      rintro e w2 ⟨rfl, o2⟩
      go_wp2_with fail
      refine (awake_any _).mono ?_
      rintro e va ⟨rfl, oa⟩
      go_wp2_with fail
      go_ret
      exact ⟨rfl, o1.trans (o2.trans oa (fun _ _ h => h)) (fun _ _ h => h)⟩
    · have HM60 : Hid (ms.length ≤ 60) := (light_iff.1 hl2).1
      go_enter Try.func7, Try.ntmps7
      go_wp2_with fail
      refine (light_any a cap es w HE.out).mono ?_
      rw [hl]
      rintro e w1 ⟨rfl, o1⟩
      go_wp2_with fail
      refine (light_any am cm ms _ (HM.out.off o1)).mono ?_
      rw [hl2]
      rintro e w2 ⟨rfl, o2⟩
      go_wp2_with fail
      refine (tnew_any _).mono ?_
      rintro e w5 ⟨p, b, rfl, tb, hp, hb, o5⟩
      have HB : Hid (w.heap.size ≤ b) := Nat.le_trans (o1.trans o2 (fun _ _ h => h)).size hb
      have HT0 : Hid _ := tb
      have HO0 : Hid _ := (o1.trans o2 (fun _ _ h => h)).trans o5 (fun _ _ h => h)
      clear tb hp hb o1 o2 o5 hl hl2
      go_wp2_with fail
      go_loopw [26] (fun y wr => ∃ (n : Nat) (t : List E), y = .int .i64 (n : Int) ∧ n ≤ es.length ∧ absE t = joins [] (es.take n) ∧ Tab p b t wr ∧ Off (fun _ => False) w wr) (fun y _ => (es.length - intOf y).toNat)
      case atStart => exact ⟨0, [], rfl, by omega, rfl, HT0.out, HO0.out⟩
      case round =>
        obtain ⟨n, t, rfl, hn, hj, ht, O⟩ := hrel
        have HJ : Hid _ := hj
        have HT : Hid _ := ht
        have HO : Hid _ := O

        have h60 := H60.out
        clear hj ht O
        by_cases hlt : n < es.length
        · have e1 : decide ((n : Int) < (es.length : Int)) = true := decide_eq_true (by omega)
          have e2 : decide (n < es.length) = true := decide_eq_true hlt
          obtain ⟨x, hx⟩ : ∃ x, es[n]? = some x := ⟨_, List.getElem?_eq_getElem hlt⟩
          have hE := HE.out.off HO.out
          obtain ⟨bx, ox, rfl, kx, rx⟩ := hE.at_ n x hx
          obtain ⟨k0, k1, k2, k3, k4, k5, k6, k7, k8, k9⟩ := ent10 kx
          have hix := idx_ents hlt
          have HRX : Hid _ := rx
          clear kx rx
          clear hE
          go_upto_region 7 with fail
          have Cq7 := Cel.new wr 37 #[.string x.key, .int .i64 (x.f 0), .int .i64 (x.f 1), .int .i64 (x.f 2), .int .i64 (x.f 3), .int .i64 (x.f 4), .int .i64 (x.f 5), .int .i64 (x.f 6), .int .i64 (x.f 7), .slice x.a x.l.length x.cap]
          have OA : Off (fun _ => False) wr (wr.alloc (.cells #[.string x.key, .int .i64 (x.f 0), .int .i64 (x.f 1), .int .i64 (x.f 2), .int .i64 (x.f 3), .int .i64 (x.f 4), .int .i64 (x.f 5), .int .i64 (x.f 6), .int .i64 (x.f 7), .slice x.a x.l.length x.cap] 37)) := (Off.refl _ wr).alloc _
          generalize hq : wr.heap.size = q7 at Cq7 ⊢
          generalize hv : wr.alloc (.cells #[.string x.key, .int .i64 (x.f 0), .int .i64 (x.f 1), .int .i64 (x.f 2), .int .i64 (x.f 3), .int .i64 (x.f 4), .int .i64 (x.f 5), .int .i64 (x.f 6), .int .i64 (x.f 7), .slice x.a x.l.length x.cap] 37) = V7 at Cq7 OA ⊢
          clear hq hv
          clear k0 k1 k2 k3 k4 k5 k6 k7 k8 k9 hix
          obtain ⟨x0, x1, x2, x3, x4, x5, x6, x7, x8, x9⟩ := cel10 Cq7
          have HTV : Hid _ := HT.out.free OA
          have HRV : Hid _ := HRX.out.off OA
          have HOV : Hid _ := HO.out.trans OA (fun _ _ h => h)
          have HOA : Hid _ := OA
          clear OA Cq7
          go_wp2_with fail
          clear x0 x1 x2 x3 x4 x5 x6 x7 x8 x9
          refine (tjoin_any p b t x.key x.f x.a x.cap x.l _ HTV.out HRV.out).mono ?_
          rintro e w3 ⟨g, a', c', l', sm, er, t', rfl, hj, -, -, tb, o3⟩
          have HJ3 : Hid (absE t' = jo (absE t) x) := (congrArg JR.x hj).symm
          have HT3 : Hid _ := tb
          have HO3 : Hid _ := HOV.out.trans o3 (fun i hi e => by have := HB.out; omega)
          have HO3' : Hid _ := o3
          clear hj tb o3
          go_wp2_with fail
          go_roundw
          case rel =>
            refine ⟨n + 1, t', by go_num, by omega, ?_, HT3.out, HO3.out⟩
            rw [joins_step [] hx, HJ3.out, HJ.out]
          case measure => simp [intOf]; omega
        · obtain rfl : n = es.length := by omega
          have e1 : decide ((es.length : Int) < (es.length : Int)) = false := decide_eq_false (by omega)
          have e2 : decide (es.length < es.length) = false := decide_eq_false (by omega)
          rw [joins_all] at HJ
          have HOK : Hid (OkT (absE t)) := by show OkT _; rw [HJ.out]; exact okT_joins okT_nil es
          go_wp2_with fail
          refine (tall_any p b t _ HT.out (okT_few HOK.out rfl)).mono ?_
          rintro e w3 ⟨ar, cr, rs, rfl, hrs, ogr, rwr, -, o3⟩
          have HRS : Hid (absE rs = absE t) := hrs
          have HEN : Hid _ := ogr.ens rwr
          have HT3 : Hid _ := HT.out.free o3
          have HO3 : Hid _ := HO.out.trans o3 (fun _ _ h => h)
          have HRL : Hid (rs.length ≤ 256) := by have h1 := congrArg List.length hrs; rw [absE_len, absE_len] at h1; have := HT.out.few; show _ ≤ _; omega
          have HM3 : Hid _ := HM.out.off HO3.out
          clear hrs ogr rwr o3 HT HO
          go_wp2_with fail
          refine (tcopyT_any p b t _ HT3.out (okT_few HOK.out rfl)).mono ?_
          rintro e w4 ⟨q, cc, s, rfl, hsa, tbs, hq, hcc, o4⟩
          have HSA : Hid (absE s = absE t) := hsa
          have HCC : Hid (w3.heap.size ≤ cc) := hcc
          have HTC : Hid _ := tbs
          have HOC : Hid _ := o4
          clear hsa tbs hq hcc o4
          go_wp2_with fail
          go_loopw [42] (fun y wr => ∃ (n : Nat) (s2 : List E), y = .int .i64 (n : Int) ∧ n ≤ ms.length ∧ absE s2 = joins (absE s) (ms.take n) ∧ Tab q cc s2 wr ∧ Off (fun _ => False) w3 wr) (fun y _ => (ms.length - intOf y).toNat)
          case atStart => exact ⟨0, s, rfl, by omega, rfl, HTC.out, HOC.out⟩
          case round =>
            obtain ⟨n, s2, rfl, hn, hj, ht, O⟩ := hrel
            have HJ : Hid _ := hj
            have HT : Hid _ := ht
            have HO : Hid _ := O

            have h60 := HM60.out
            clear hj ht O
            by_cases hlt : n < ms.length
            · have e1 : decide ((n : Int) < (ms.length : Int)) = true := decide_eq_true (by omega)
              have e2 : decide (n < ms.length) = true := decide_eq_true hlt
              obtain ⟨x, hx⟩ : ∃ x, ms[n]? = some x := ⟨_, List.getElem?_eq_getElem hlt⟩
              have hE := HM3.out.off HO.out
              obtain ⟨bx, ox, rfl, kx, rx⟩ := hE.at_ n x hx
              obtain ⟨k0, k1, k2, k3, k4, k5, k6, k7, k8, k9⟩ := ent10 kx
              have hix := idx_ents hlt
              have HRX : Hid _ := rx
              clear kx rx
              clear hE
              go_upto_region 16 with fail
              have Cq7 := Cel.new wr 37 #[.string x.key, .int .i64 (x.f 0), .int .i64 (x.f 1), .int .i64 (x.f 2), .int .i64 (x.f 3), .int .i64 (x.f 4), .int .i64 (x.f 5), .int .i64 (x.f 6), .int .i64 (x.f 7), .slice x.a x.l.length x.cap]
              have OA : Off (fun _ => False) wr (wr.alloc (.cells #[.string x.key, .int .i64 (x.f 0), .int .i64 (x.f 1), .int .i64 (x.f 2), .int .i64 (x.f 3), .int .i64 (x.f 4), .int .i64 (x.f 5), .int .i64 (x.f 6), .int .i64 (x.f 7), .slice x.a x.l.length x.cap] 37)) := (Off.refl _ wr).alloc _
              generalize hq : wr.heap.size = q7 at Cq7 ⊢
              generalize hv : wr.alloc (.cells #[.string x.key, .int .i64 (x.f 0), .int .i64 (x.f 1), .int .i64 (x.f 2), .int .i64 (x.f 3), .int .i64 (x.f 4), .int .i64 (x.f 5), .int .i64 (x.f 6), .int .i64 (x.f 7), .slice x.a x.l.length x.cap] 37) = V7 at Cq7 OA ⊢
              clear hq hv
              clear k0 k1 k2 k3 k4 k5 k6 k7 k8 k9 hix
              obtain ⟨x0, x1, x2, x3, x4, x5, x6, x7, x8, x9⟩ := cel10 Cq7
              have HTV : Hid _ := HT.out.free OA
              have HRV : Hid _ := HRX.out.off OA
              have HOV : Hid _ := HO.out.trans OA (fun _ _ h => h)
              have HOA : Hid _ := OA
              clear OA Cq7
              go_wp2_with fail
              clear x0 x1 x2 x3 x4 x5 x6 x7 x8 x9
              refine (tjoin_any q cc s2 x.key x.f x.a x.cap x.l _ HTV.out HRV.out).mono ?_
              rintro e w3 ⟨g, a', c', l', sm, er, t', rfl, hj, -, -, tb, o3⟩
              have HJ3 : Hid (absE t' = jo (absE s2) x) := (congrArg JR.x hj).symm
              have HT3 : Hid _ := tb
              have HO3 : Hid _ := HOV.out.trans o3 (fun i hi e => by have := HCC.out; omega)
              have HO3' : Hid _ := o3
              clear hj tb o3
              go_wp2_with fail
              go_roundw
              case rel =>
                refine ⟨n + 1, t', by go_num, by omega, ?_, HT3.out, HO3.out⟩
                rw [joins_step (absE s) hx, HJ3.out, HJ.out]
              case measure => simp [intOf]; omega
            · obtain rfl : n = ms.length := by omega
              have e1 : decide ((ms.length : Int) < (ms.length : Int)) = false := decide_eq_false (by omega)
              have e2 : decide (ms.length < ms.length) = false := decide_eq_false (by omega)
              rw [joins_all] at HJ
              have HJ2 : Hid _ := HJ.out
              have HS2 : Hid _ := HT.out
              have HO2 : Hid _ := HO.out
              clear HJ HT HO
              have HLN : Hid (rs.length ≤ s2.length) := by
                have h1 := joins_len (absE s) ms (by rw [HSA.out]; exact abs_sor.2 HT3.out.sor)
                rw [← HJ2.out, absE_len, absE_len] at h1
                have h2 := congrArg List.length HRS.out
                rw [absE_len, absE_len] at h2
                have h3 := congrArg List.length HSA.out
                rw [absE_len, absE_len] at h3
                show _ ≤ _
                omega
              go_wp2_with fail
              go_loopw [52] (fun y wr => ∃ (n : Nat) (s3 : List E), y = .int .i64 (n : Int) ∧ n ≤ rs.length ∧ rs.length ≤ s3.length ∧ Tab q cc s3 wr ∧ Off (fun _ => False) w3 wr) (fun y _ => (rs.length - intOf y).toNat)
              case atStart => exact ⟨0, s2, rfl, by omega, HLN.out, HS2.out, HO2.out⟩
              case round =>
                clear HS2 HO2
                obtain ⟨n, s3, rfl, hn, hln, hts, O⟩ := hrel
                have HLN3 : Hid _ := hln
                have HS7 : Hid _ := hts
                have HO7 : Hid _ := O
                clear hln hts O
                have hrl := HRL.out
                by_cases hlt : n < rs.length
                · have e1 : decide ((n : Int) < (rs.length : Int)) = true := decide_eq_true (by omega)
                  have e2 : decide (n < rs.length) = true := decide_eq_true hlt
                  obtain ⟨x, hx⟩ : ∃ x, rs[n]? = some x := ⟨_, List.getElem?_eq_getElem hlt⟩
                  have hE := HEN.out.off HO7.out
                  obtain ⟨bx, ox, rfl, kx, rx⟩ := hE.at_ n x hx
                  obtain ⟨k0, k1, k2, k3, k4, k5, k6, k7, k8, k9⟩ := ent10 kx
                  have hix := idx_ents hlt
                  have HRX : Hid _ := rx
                  clear kx rx
                  clear hE
                  go_upto_region 21 with fail
                  have Cq13 := Cel.new wr 37 #[.string x.key, .int .i64 (x.f 0), .int .i64 (x.f 1), .int .i64 (x.f 2), .int .i64 (x.f 3), .int .i64 (x.f 4), .int .i64 (x.f 5), .int .i64 (x.f 6), .int .i64 (x.f 7), .slice x.a x.l.length x.cap]
                  have OA : Off (fun _ => False) wr (wr.alloc (.cells #[.string x.key, .int .i64 (x.f 0), .int .i64 (x.f 1), .int .i64 (x.f 2), .int .i64 (x.f 3), .int .i64 (x.f 4), .int .i64 (x.f 5), .int .i64 (x.f 6), .int .i64 (x.f 7), .slice x.a x.l.length x.cap] 37)) := (Off.refl _ wr).alloc _
                  generalize hq : wr.heap.size = q13 at Cq13 ⊢
                  generalize hv : wr.alloc (.cells #[.string x.key, .int .i64 (x.f 0), .int .i64 (x.f 1), .int .i64 (x.f 2), .int .i64 (x.f 3), .int .i64 (x.f 4), .int .i64 (x.f 5), .int .i64 (x.f 6), .int .i64 (x.f 7), .slice x.a x.l.length x.cap] 37) = V13 at Cq13 OA ⊢
                  clear hq hv
                  clear k0 k1 k2 k3 k4 k5 k6 k7 k8 k9 hix
                  have x0 : V13.cell? ⟨q13, 0, none⟩ = some (.string x.key) := Cq13.cell 0
                  have HS13 : Hid _ := HS7.out.free OA
                  have HO13 : Hid _ := HO7.out.trans OA (fun _ _ h => h)
                  have hxk : x.key.size ≤ maxLen := by
                    have h1 := HOK.out.key x.abs (by rw [← HRS.out]; exact List.mem_map.2 ⟨x, List.mem_of_getElem? hx, rfl⟩)
                    simp only [keyB, Bool.and_eq_true, decide_eq_true_eq] at h1
                    have h2 : x.key.size ≤ 32 := h1.2
                    unfold maxLen
                    omega
                  clear OA Cq13
                  go_wp2_with fail
                  refine (treap_any q cc s3 x.key hxk _ HS13.out).mono ?_
                  rintro e w14 ⟨rfl, s4, tb4, ha4, o14⟩
                  have HL4 : Hid (rs.length ≤ s4.length) := by
                    have h1 := congrArg List.length ha4
                    rw [absE_len, reap_length (abs_sor.2 HS13.out.sor), absE_len] at h1
                    have := HLN3.out
                    show _ ≤ _
                    omega
                  have HT14 : Hid _ := tb4
                  have HO14 : Hid _ := HO13.out.trans o14 (fun i hi e => by have := HCC.out; omega)
                  clear tb4 ha4 o14 x0
                  go_wp2_with fail
                  go_roundw
                  case rel => exact ⟨n + 1, s4, by go_num, by omega, HL4.out, HT14.out, HO14.out⟩
                  case measure => simp [intOf]; omega
                · obtain rfl : n = rs.length := by omega
                  have e1 : decide ((rs.length : Int) < (rs.length : Int)) = false := decide_eq_false (by omega)
                  have e2 : decide (rs.length < rs.length) = false := decide_eq_false (by omega)
                  go_wp2_with fail
                  refine (tall_any p b t _ (HT3.out.free HO7.out) (okT_few HOK.out rfl)).mono ?_
                  rintro e w8 ⟨ab, cb, bs, rfl, hbs, ogb, rwb, -, o8⟩
                  have HBS : Hid (absE bs = absE rs) := by show _ = _; rw [hbs, HRS.out]
                  have HEB : Hid _ := ogb.ens rwb
                  have HER : Hid _ := (HEN.out.off HO7.out).off o8
                  have HT8 : Hid _ := HS7.out.free o8
                  have HO8 : Hid _ := HO7.out.trans o8 (fun _ _ h => h)
                  have hbl : bs.length ≤ 1000 := by have h1 := congrArg List.length hbs; rw [absE_len, absE_len] at h1; have := HT3.out.few; omega
                  clear hbs ogb rwb o8
                  go_wp2_with fail
                  refine (sameents_any ab ar cb cr bs rs _ HEB.out HER.out HBS.out hbl).mono ?_
                  rintro e w9 ⟨rfl, o9⟩
                  have HT9 : Hid _ := HT8.out.free o9
                  have HO9 : Hid _ := HO8.out.trans o9 (fun _ _ h => h)
                  clear o9
                  go_wp2_with fail
                  refine (tlen_any q cc s3 _ HT9.out).mono ?_
                  rintro e w10 ⟨rfl, hw10⟩
                  rw [hw10]
                  clear hw10 w10
                  have d1 : decide ((rs.length : Int) ≤ (s3.length : Int)) = true := decide_eq_true (by have := HLN3.out; omega)
                  have d2 : decide (rs.length ≤ s3.length) = true := decide_eq_true HLN3.out
                  go_wp2_with fail
                  refine (awake_any _).mono ?_
                  rintro e va ⟨rfl, oa⟩
                  go_wp2_with fail
                  go_ret
                  exact ⟨rfl, HO3.out.trans (HO9.out.trans oa (fun _ _ h => h)) (fun _ _ h => h)⟩
end Go.Proofs.Ytbagahlphnafdaa
