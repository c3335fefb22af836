/- few; the walk of TableOrder. -/
import Derived.Test.YtbagahlphnafdaaOrdT
import Derived.Test.YtbagahlphnafdaaArg10
import Derived.Test.YtbagahlphnafdaaSms
import Derived.Deep.Cut
namespace Go.Proofs.Ytbagahlphnafdaa
open Go.RowKit

/-- How many values there are. -/
def sumL (es : List E) : Nat := (es.map fun e => e.l.length).sum
theorem sumL_step {es : List E} {n : Nat} {x : E} (hx : es[n]? = some x) : sumL (es.take (n + 1)) = sumL (es.take n) + x.l.length := by
  unfold sumL
  rw [List.take_add_one, hx]
  show ((es.take n ++ [x]).map _).sum = _
  rw [List.map_append, List.sum_append]
  simp
/-- All values. -/
def uni (es : List E) : List A := es.flatMap fun e => cont e.l
theorem uni_len (es : List E) : (uni es).length = sumL es := by
  unfold uni sumL
  rw [List.length_flatMap]
  simp [cont_len]
theorem mem_uni {es : List E} {x : E} (hx : x ∈ es) {a : A} (ha : a ∈ x.abs.l) : a ∈ uni es := List.mem_flatMap.2 ⟨x, hx, ha⟩
theorem take_abs {es : List E} {n : Nat} {x : E} (hx : es[n]? = some x) : (es.take (n + 1)).map E.abs = (es.take n).map E.abs ++ [x.abs] := by
  rw [List.take_add_one, hx]
  show ((es.take n ++ [x]).map _) = _
  rw [List.map_append]
  rfl
/-- Each one twice. -/
def dbl (es : List E) : List K := es.flatMap fun e => [e.abs, e.abs]
theorem dbl_len (es : List E) : (dbl es).length = 2 * es.length := by
  unfold dbl
  induction es with
  | nil => rfl
  | cons e es ih =>
    rw [List.flatMap_cons, List.length_append, ih]
    simp only [List.length_cons, List.length_nil]
    omega
theorem dbl_step {es : List E} {n : Nat} {x : E} (hx : es[n]? = some x) : dbl (es.take (n + 1)) = dbl (es.take n) ++ [x.abs] ++ [x.abs] := by
  rw [List.take_add_one, hx]
  show dbl (es.take n ++ [x]) = _
  unfold dbl
  rw [List.flatMap_append]
  simp
theorem mem_dbl {es : List E} {v : K} : v ∈ es.map E.abs ↔ v ∈ dbl es.reverse := by
  unfold dbl
  rw [List.mem_map, List.mem_flatMap]
  constructor
  · rintro ⟨e, he, rfl⟩
    exact ⟨e, by simpa using he, by simp⟩
  · rintro ⟨e, he, hv⟩
    exact ⟨e, by simpa using he, by simp at hv; exact hv.symm⟩
theorem cells_offN {D : Nat → Prop} {w w' : World} {b o : Nat} {e : E} (k : Off D w w') (hN : NoI D w) (h : ∀ j u, (ecs e)[j]? = some u → w.cell? ⟨b, o + j, none⟩ = some u) : ∀ j u, (ecs e)[j]? = some u → w'.cell? ⟨b, o + j, none⟩ = some u := by
  intro j u hj
  have h1 := h j u hj
  have h2 := h 1 _ rfl
  rw [← h1]
  exact World.cell?_of_block (a := ⟨b, o + j, none⟩) (k.block b (cell_lt h1) (fun hd => hN.no ⟨b, o + 1, none⟩ hd _ _ h2))
set_option maxRecDepth 100000 in
set_option maxHeartbeats 1000000 in
theorem few_any (a : Option Addr) (cap : Nat) (es : List E) (w : World) (h : Ens w a cap es) (h60 : es.length ≤ 60) (h20 : ∀ x ∈ es, x.l.length ≤ 20) : Calls Try.prog 25 #[.slice a es.length cap] w fun e w' => e = .returned (.bool (decide (sumL es ≤ 16))) ∧ Off (fun _ => False) w w' := by
  have HE : Hid _ := h
  have H20 : Hid _ := h20
  clear h h20
  go_enter Try.func25, Try.ntmps25
  go_wp2_with fail
  go_loopw [3, 8] (fun y z wr => ∃ n : Nat, y = .int .i64 ((sumL (es.take n) : Nat) : Int) ∧ z = .int .i64 (n : Int) ∧ n ≤ es.length ∧ sumL (es.take n) ≤ n * 20 ∧ Off (fun _ => False) w wr) (fun _ z _ => (es.length - intOf z).toNat)
  case atStart => exact ⟨0, rfl, rfl, by omega, by simp [sumL], Off.refl _ w⟩
  case round =>
    obtain ⟨n, rfl, rfl, hn, hs, O⟩ := hrel
    have HO : Hid _ := O
    have hE := HE.out.off O
    clear O
    by_cases hlt : n < es.length
    · have e1 : decide ((n : Int) < (es.length : Int)) = true := decide_eq_true (by omega)
      have e2 : decide (n < es.length) = true := decide_eq_true hlt
      obtain ⟨x, hx⟩ : ∃ x, es[n]? = some x := ⟨_, List.getElem?_eq_getElem hlt⟩
      obtain ⟨bx, ox, rfl, kx, rx⟩ := hE.at_ n x hx
      obtain ⟨k0, k1, k2, k3, k4, k5, k6, k7, k8, k9⟩ := ent10 kx
      have hix := idx_ents hlt
      have HRX : Hid _ := rx
      clear kx rx
      clear hE
      go_upto_region 5 with fail
      have Cq5 := Cel.new wr 37 #[.string x.key, .int .i64 (x.f 0), .int .i64 (x.f 1), .int .i64 (x.f 2), .int .i64 (x.f 3), .int .i64 (x.f 4), .int .i64 (x.f 5), .int .i64 (x.f 6), .int .i64 (x.f 7), .slice x.a x.l.length x.cap]
      have OA : Off (fun _ => False) wr (wr.alloc (.cells #[.string x.key, .int .i64 (x.f 0), .int .i64 (x.f 1), .int .i64 (x.f 2), .int .i64 (x.f 3), .int .i64 (x.f 4), .int .i64 (x.f 5), .int .i64 (x.f 6), .int .i64 (x.f 7), .slice x.a x.l.length x.cap] 37)) := (Off.refl _ wr).alloc _
      generalize hq : wr.heap.size = q5 at Cq5 ⊢
      generalize hv : wr.alloc (.cells #[.string x.key, .int .i64 (x.f 0), .int .i64 (x.f 1), .int .i64 (x.f 2), .int .i64 (x.f 3), .int .i64 (x.f 4), .int .i64 (x.f 5), .int .i64 (x.f 6), .int .i64 (x.f 7), .slice x.a x.l.length x.cap] 37) = V5 at Cq5 OA ⊢
      clear hq hv
      clear k0 k1 k2 k3 k4 k5 k6 k7 k8 k9 hix
      have c9 : V5.cell? ⟨q5, 9, none⟩ = some (.slice x.a x.l.length x.cap) := Cq5.cell 9
      have HO5 : Hid _ := HO.out.trans OA (fun _ _ h => h)
      have hx20 := H20.out x (List.mem_of_getElem? hx)
      have HST : Hid (sumL (es.take (n + 1)) = sumL (es.take n) + x.l.length) := sumL_step hx
      generalize hsm : sumL (es.take n) = sm at hs HST ⊢
      clear OA Cq5 hsm
      go_wp2_with fail
      go_roundw
      case rel => exact ⟨n + 1, by rw [HST.out]; go_num, by go_num, by omega, by rw [HST.out]; omega, HO5.out⟩
      case measure => simp [intOf]; omega
    · obtain rfl : n = es.length := by omega
      have e1 : decide ((es.length : Int) < (es.length : Int)) = false := decide_eq_false (by omega)
      have e2 : decide (es.length < es.length) = false := decide_eq_false (by omega)
      rw [List.take_length] at hs ⊢
      by_cases h16 : sumL es ≤ 16
      · have d1 : decide (((sumL es : Nat) : Int) ≤ 16) = true := decide_eq_true (by omega)
        have d2 : decide (sumL es ≤ 16) = true := decide_eq_true h16
        go_wp2_with fail
        go_ret
        exact ⟨by rw [d2]; rfl, HO.out⟩
      · have d1 : decide (((sumL es : Nat) : Int) ≤ 16) = false := decide_eq_false (by omega)
        have d2 : decide (sumL es ≤ 16) = false := decide_eq_false h16
        go_wp2_with fail
        go_ret
        exact ⟨by rw [d2]; rfl, HO.out⟩
set_option maxRecDepth 100000 in
set_option maxHeartbeats 4000000 in
theorem order_walk (a : Option Addr) (cap : Nat) (es : List E) (w : World) (hE : Ens w a cap es) (_ : ∀ e ∈ es, e.key.size ≤ maxLen) :
    Calls Try.prog 6 #[.slice a es.length cap] w fun e w' => e = .returned (.bool true) ∧ Off (fun _ => False) w w' := by
  have hnot := not_any
  have HE : Hid _ := hE
  clear hE
  cases hl : lightE es
  · go_enter Try.func6, Try.ntmps6
    go_wp2_with fail
    refine (light_any a cap es w HE.out).mono ?_
    rw [hl]
    rintro e w1 ⟨rfl, o1⟩
    go_wp2_with fail
    refine (awake_any _).mono ?_
    rintro e va ⟨rfl, oa⟩
    go_wp2_with fail
    go_ret
    exact ⟨rfl, o1.trans oa (fun _ _ h => h)⟩
  · cases hf : decide (sumL es ≤ 16)
    · go_enter Try.func6, Try.ntmps6
      go_wp2_with fail
      refine (light_any a cap es w HE.out).mono ?_
      rw [hl]
      rintro e w1 ⟨rfl, o1⟩
      go_wp2_with fail
      refine (few_any a cap es _ (HE.out.off o1) (light_iff.1 hl).1 (light_iff.1 hl).2).mono ?_
      rw [hf]
      rintro e w2 ⟨rfl, o2⟩
      go_wp2_with fail
      refine (awake_any _).mono ?_
      rintro e va ⟨rfl, oa⟩
      go_wp2_with fail
      go_ret
      exact ⟨rfl, o1.trans (o2.trans oa (fun _ _ h => h)) (fun _ _ h => h)⟩
    · have H60 : Hid (es.length ≤ 60) := (light_iff.1 hl).1
      have HU : Hid ((uni es).length ≤ 16) := by show _ ≤ _; rw [uni_len]; exact of_decide_eq_true hf
      go_enter Try.func6, Try.ntmps6
      go_wp2_with fail
      refine (light_any a cap es w HE.out).mono ?_
      rw [hl]
      rintro e w1 ⟨rfl, o1⟩
      go_wp2_with fail
      refine (few_any a cap es _ (HE.out.off o1) (light_iff.1 hl).1 (light_iff.1 hl).2).mono ?_
      rw [hf]
      rintro e w2 ⟨rfl, o2⟩
      go_wp2_with fail
      refine (tnew_any _).mono ?_
      rintro e w3 ⟨pa, ba, rfl, tb3, hpa, hba, o3⟩
      go_wp2_with fail
      refine (tnew_any _).mono ?_
      rintro e w4 ⟨pb, bb, rfl, tb4, hpb, hbb, o4⟩
      have HNE : Hid (bb ≠ ba) := by have h1 := tb3.ltb; show _ ≠ _; omega
      have HBA : Hid (w.heap.size ≤ ba) := Nat.le_trans (o1.trans o2 (fun _ _ h => h)).size hba
      have HBB : Hid (w.heap.size ≤ bb) := Nat.le_trans ((o1.trans o2 (fun _ _ h => h)).trans o3 (fun _ _ h => h)).size hbb
      have HTA0 : Hid _ := tb3.free o4
      have HTB0 : Hid _ := tb4
      have HO0 : Hid _ := ((o1.trans o2 (fun _ _ h => h)).trans o3 (fun _ _ h => h)).trans o4 (fun _ _ h => h)
      clear hl hf o1 o2 o3 o4 tb3 tb4 hpa hpb hba hbb
      go_wp2_with fail
      go_loopw [24] (fun y wr => ∃ (n : Nat) (ta tb : List E), y = .int .i64 (n : Int) ∧ n ≤ es.length ∧ Spc (uni es) ((es.take n).map E.abs) (absE ta) ∧ Spc (uni es) (dbl (es.reverse.take n)) (absE tb) ∧ Tab pa ba ta wr ∧ Tab pb bb tb wr ∧ Off (fun _ => False) w wr) (fun y _ => (es.length - intOf y).toNat)
      case atStart => exact ⟨0, [], [], rfl, by omega, spc_nil _, spc_nil _, HTA0.out, HTB0.out, HO0.out⟩
      case round =>
        clear HTA0 HTB0 HO0
        obtain ⟨n, ta, tb, rfl, hn, hsa, hsb, hta, htb, O⟩ := hrel
        have HSA : Hid _ := hsa
        have HSB : Hid _ := hsb
        have HTA : Hid _ := hta
        have HTB : Hid _ := htb
        have HO : Hid _ := O
        clear hsa hsb hta htb O
        have h60 := H60.out
        by_cases hlt : n < es.length
        · have e1 : decide ((n : Int) < (es.length : Int)) = true := decide_eq_true (by omega)
          have e2 : decide (n < es.length) = true := decide_eq_true hlt
          obtain ⟨x, hx⟩ : ∃ x, es[n]? = some x := ⟨_, List.getElem?_eq_getElem hlt⟩
          obtain ⟨m, HM, hmi, hmlt⟩ : ∃ m : Nat, Hid (m = es.length - 1 - n) ∧ (es.length : Int) - 1 - (n : Int) = (m : Int) ∧ m < es.length := ⟨es.length - 1 - n, rfl, by omega, by omega⟩
          obtain ⟨y, hy⟩ : ∃ y, es[m]? = some y := ⟨_, List.getElem?_eq_getElem hmlt⟩
          have hE := HE.out.off HO.out
          obtain ⟨bx, ox, rfl, kx, rx⟩ := hE.at_ n x hx
          obtain ⟨b2, o2, e0, ky, ry⟩ := hE.at_ m y hy
          simp only [Option.some.injEq, Addr.mk.injEq, and_true] at e0
          obtain ⟨rfl, rfl⟩ := e0
          have HKX : Hid _ := kx
          have HKY : Hid _ := ky
          have HRX : Hid _ := rx
          have HRY : Hid _ := ry
          obtain ⟨k0, k1, k2, k3, k4, k5, k6, k7, k8, k9⟩ := ent10 kx
          have hix := idx_ents hlt
          clear kx ky rx ry hE
          go_wp2_with fail
          clear k0 k1 k2 k3 k4 k5 k6 k7 k8 k9 hix
          refine (tjoin_any pa ba ta x.key x.f x.a x.cap x.l _ HTA.out HRX.out).mono ?_
          rintro e v1 ⟨g1, a1, c1, l1, sm1, er1, ta', rfl, hj1, -, -, tb1, o1⟩
          have HJ1 : Hid (absE ta' = kjo (absE ta) x.abs) := (congrArg JR.x hj1).symm
          have hN1 := HTA.out.noI
          have HTA1 : Hid _ := tb1
          have HTB1 : Hid _ := HTB.out.beside HTA.out o1 HNE.out
          have HKY1 : Hid _ := cells_offN o1 hN1 HKY.out
          have HRY1 : Hid _ := HRY.out.offN o1 hN1
          have HO1 : Hid _ := HO.out.trans o1 (fun i hi e => by have := HBA.out; omega)
          clear hj1 hN1 tb1 o1
          have hix := idx_ents hmlt
          obtain ⟨k0, k1, k2, k3, k4, k5, k6, k7, k8, k9⟩ := ent10 HKY1.out
          go_wp2_with fail
          clear k0 k1 k2 k3 k4 k5 k6 k7 k8 k9
          refine (tjoin_any pb bb tb y.key y.f y.a y.cap y.l _ HTB1.out HRY1.out).mono ?_
          rintro e v2 ⟨g2, a2, c2, l2, sm2, er2, tb', rfl, hj2, -, -, tb2, o2⟩
          have HJ2 : Hid (absE tb' = kjo (absE tb) y.abs) := (congrArg JR.x hj2).symm
          have hN2 := HTB1.out.noI
          have HTB2 : Hid _ := tb2
          have HTA2 : Hid _ := HTA1.out.beside HTB1.out o2 (fun e => HNE.out e.symm)
          have HKY2 : Hid _ := cells_offN o2 hN2 HKY1.out
          have HRY2 : Hid _ := HRY1.out.offN o2 hN2
          have HO2 : Hid _ := HO1.out.trans o2 (fun i hi e => by have := HBB.out; omega)
          clear hj2 hN2 tb2 o2
          obtain ⟨k0, k1, k2, k3, k4, k5, k6, k7, k8, k9⟩ := ent10 HKY2.out
          go_wp2_with fail
          clear k0 k1 k2 k3 k4 k5 k6 k7 k8 k9 hix
          refine (tjoin_any pb bb tb' y.key y.f y.a y.cap y.l _ HTB2.out HRY2.out).mono ?_
          rintro e v3 ⟨g3, a3, c3, l3, sm3, er3, tb'', rfl, hj3, -, -, tb3, o3⟩
          have HJ3 : Hid (absE tb'' = kjo (absE tb') y.abs) := (congrArg JR.x hj3).symm
          have HTB3 : Hid _ := tb3
          have HTA3 : Hid _ := HTA2.out.beside HTB2.out o3 (fun e => HNE.out e.symm)
          have HO3 : Hid _ := HO2.out.trans o3 (fun i hi e => by have := HBB.out; omega)
          clear hj3 tb3 o3
          go_wp2_with fail
          go_roundw
          case rel =>
            refine ⟨n + 1, ta', tb'', by go_num, by omega, ?_, ?_, HTA3.out, HTB3.out, HO3.out⟩
            · rw [HJ1.out, take_abs hx]
              exact spc_step HU.out HSA.out (fun a ha => mem_uni (List.mem_of_getElem? hx) ha) (by rw [List.length_map, List.length_take]; omega)
            · have hry : es.reverse[n]? = some y := by
                rw [List.getElem?_reverse hlt, ← HM.out]
                exact hy
              have s1 := spc_step HU.out HSB.out (v := y.abs) (fun a ha => mem_uni (List.mem_of_getElem? hy) ha) (by rw [dbl_len, List.length_take]; omega)
              have s2 := spc_step HU.out s1 (v := y.abs) (fun a ha => mem_uni (List.mem_of_getElem? hy) ha) (by rw [List.length_append, dbl_len, List.length_take, List.length_singleton]; omega)
              rw [HJ3.out, HJ2.out, dbl_step hry]
              exact s2
          case measure => simp [intOf]; omega
        · obtain rfl : n = es.length := by omega
          have e1 : decide ((es.length : Int) < (es.length : Int)) = false := decide_eq_false (by omega)
          have e2 : decide (es.length < es.length) = false := decide_eq_false (by omega)
          have HEQ : Hid (absE ta = absE tb) := by
            have h1 := HSA.out
            have h2 := HSB.out
            rw [List.take_length] at h1
            rw [show es.reverse.take es.length = es.reverse from List.take_of_length_le (by simp)] at h2
            exact spc_same h1 h2 (fun v => mem_dbl)
          have HOKA : Hid (OkT (absE ta)) := HSA.out.ok
          have HOKB : Hid (OkT (absE tb)) := HSB.out.ok
          go_wp2_with fail
          refine (tall_any pa ba ta _ HTA.out (okT_few HOKA.out rfl)).mono ?_
          rintro e w4 ⟨a4, c4, r4, rfl, h4, og4, rw4, -, o4⟩
          have HE4 : Hid _ := og4.ens rw4
          have HR4 : Hid (absE r4 = absE ta) := h4
          have HO4 : Hid _ := HO.out.trans o4 (fun _ _ h => h)
          have HTA4 : Hid _ := HTA.out.free o4
          have HTB4 : Hid _ := HTB.out.free o4
          clear h4 og4 rw4 o4
          go_wp2_with fail
          refine (tall_any pb bb tb _ HTB4.out (okT_few HOKB.out rfl)).mono ?_
          rintro e w5 ⟨a5, c5, r5, rfl, h5, og5, rw5, -, o5⟩
          have HE5 : Hid _ := og5.ens rw5
          have HR5 : Hid (absE r5 = absE tb) := h5
          have HE45 : Hid _ := HE4.out.off o5
          have HO5 : Hid _ := HO4.out.trans o5 (fun _ _ h => h)
          have HTA5 : Hid _ := HTA4.out.free o5
          have HTB5 : Hid _ := HTB4.out.free o5
          clear h5 og5 rw5 o5
          have h4l : r4.length ≤ 1000 := by have h1 := congrArg List.length HR4.out; rw [absE_len, absE_len] at h1; have := HTA5.out.few; omega
          go_wp2_with fail
          refine (sameents_any a4 a5 c4 c5 r4 r5 _ HE45.out HE5.out (by rw [HR4.out, HR5.out, HEQ.out]) h4l).mono ?_
          rintro e w6 ⟨rfl, o6⟩
          have HO6 : Hid _ := HO5.out.trans o6 (fun _ _ h => h)
          have HTA6 : Hid _ := HTA5.out.free o6
          have HTB6 : Hid _ := HTB5.out.free o6
          clear o6
          go_wp2_with fail
          refine (tall_any pa ba ta _ HTA6.out (okT_few HOKA.out rfl)).mono ?_
          rintro e w7 ⟨ar, cr, rs, rfl, hrs, ogr, rwr, -, o7⟩
          have HRS : Hid (absE rs = absE ta) := hrs
          have HER : Hid _ := ogr.ens rwr
          have HO7 : Hid _ := HO6.out.trans o7 (fun _ _ h => h)
          have HTB7 : Hid _ := HTB6.out.free o7
          have HRL : Hid (rs.length ≤ 256) := by have h1 := congrArg List.length hrs; rw [absE_len, absE_len] at h1; have := HTA6.out.few; show _ ≤ _; omega
          clear hrs ogr rwr o7
          go_wp2_with fail
          go_loopw [63] (fun y wr => ∃ (n : Nat) (tb : List E), y = .int .i64 (n : Int) ∧ n ≤ rs.length ∧ absE tb = absE ta ∧ Tab pb bb tb wr ∧ Ens wr ar cr rs ∧ Off (fun _ => False) w wr) (fun y _ => (rs.length - intOf y).toNat)
          case atStart => exact ⟨0, tb, rfl, by omega, HEQ.out.symm, HTB7.out, HER.out, HO7.out⟩
          case round =>
            obtain ⟨n, tb, rfl, hn, hab, htb, hen, O⟩ := hrel
            have HAB : Hid _ := hab
            have HTB8 : Hid _ := htb
            have HE8 : Hid _ := hen
            have HO8 : Hid _ := O
            clear hab htb hen O
            have hrl := HRL.out
            by_cases hlt : n < rs.length
            · have e1 : decide ((n : Int) < (rs.length : Int)) = true := decide_eq_true (by omega)
              have e2 : decide (n < rs.length) = true := decide_eq_true hlt
              obtain ⟨x, hx⟩ : ∃ x, rs[n]? = some x := ⟨_, List.getElem?_eq_getElem hlt⟩
              obtain ⟨bx, ox, rfl, kx, rx⟩ := HE8.out.at_ n x hx
              obtain ⟨k0, k1, k2, k3, k4, k5, k6, k7, k8, k9⟩ := ent10 kx
              have hix := idx_ents hlt
              have HRX : Hid _ := rx
              clear kx rx
              go_upto_region 16 with fail
              have Cq7 := Cel.new wr 37 #[.string x.key, .int .i64 (x.f 0), .int .i64 (x.f 1), .int .i64 (x.f 2), .int .i64 (x.f 3), .int .i64 (x.f 4), .int .i64 (x.f 5), .int .i64 (x.f 6), .int .i64 (x.f 7), .slice x.a x.l.length x.cap]
              have OA : Off (fun _ => False) wr (wr.alloc (.cells #[.string x.key, .int .i64 (x.f 0), .int .i64 (x.f 1), .int .i64 (x.f 2), .int .i64 (x.f 3), .int .i64 (x.f 4), .int .i64 (x.f 5), .int .i64 (x.f 6), .int .i64 (x.f 7), .slice x.a x.l.length x.cap] 37)) := (Off.refl _ wr).alloc _
              generalize hq : wr.heap.size = q7 at Cq7 ⊢
              generalize hv : wr.alloc (.cells #[.string x.key, .int .i64 (x.f 0), .int .i64 (x.f 1), .int .i64 (x.f 2), .int .i64 (x.f 3), .int .i64 (x.f 4), .int .i64 (x.f 5), .int .i64 (x.f 6), .int .i64 (x.f 7), .slice x.a x.l.length x.cap] 37) = V7 at Cq7 OA ⊢
              clear hq hv
              clear k0 k1 k2 k3 k4 k5 k6 k7 k8 k9 hix
              obtain ⟨x0, x1, x2, x3, x4, x5, x6, x7, x8, x9⟩ := cel10 Cq7
              have HTV : Hid _ := HTB8.out.free OA
              have HRV : Hid _ := HRX.out.off OA
              have HEV : Hid _ := HE8.out.off OA
              have HOV : Hid _ := HO8.out.trans OA (fun _ _ h => h)
              have hxm : x.abs ∈ absE tb := by rw [HAB.out, ← HRS.out]; exact List.mem_map.2 ⟨x, List.mem_of_getElem? hx, rfl⟩
              have hself : joinR (absE tb) x.key x.f (cont x.l) = ⟨absE tb, x.f, cont x.l, true, 0⟩ := kjo_self (abs_sor.2 HTB8.out.sor) (by rw [HAB.out]; exact HOKA.out) hxm
              have HSF : Hid _ := hself
              clear OA Cq7 hxm hself
              go_wp2_with fail
              clear x0 x1 x2 x3 x4 x5 x6 x7 x8 x9
              refine (tjoin_any pb bb tb x.key x.f x.a x.cap x.l _ HTV.out HRV.out).mono ?_
              rintro e w9 ⟨g, a', c', l', sm, er, t', rfl, hj, -, -, tb9, o9⟩
              rw [HSF.out] at hj
              simp only [JR.mk.injEq] at hj
              obtain ⟨hj1, hj2, hj3, rfl, rfl⟩ := hj
              have HAB9 : Hid (absE t' = absE ta) := by rw [← hj1]; exact HAB.out
              have HT9 : Hid _ := tb9
              have HE9 : Hid _ := HEV.out.offD o9 HTV.out.noI
              have HO9 : Hid _ := HOV.out.trans o9 (fun i hi e => by have := HBB.out; omega)
              clear hj1 hj2 hj3 tb9 o9
              go_upto_region 17 with fail
              have Cq8 := Cel.new w9 35 #[.int .i64 (g 0), .int .i64 (g 1), .int .i64 (g 2), .int .i64 (g 3), .int .i64 (g 4), .int .i64 (g 5), .int .i64 (g 6), .int .i64 (g 7), .slice a' l'.length c']
              have OA : Off (fun _ => False) w9 (w9.alloc (.cells #[.int .i64 (g 0), .int .i64 (g 1), .int .i64 (g 2), .int .i64 (g 3), .int .i64 (g 4), .int .i64 (g 5), .int .i64 (g 6), .int .i64 (g 7), .slice a' l'.length c'] 35)) := (Off.refl _ w9).alloc _
              generalize hq : w9.heap.size = q8 at Cq8 ⊢
              generalize hv : w9.alloc (.cells #[.int .i64 (g 0), .int .i64 (g 1), .int .i64 (g 2), .int .i64 (g 3), .int .i64 (g 4), .int .i64 (g 5), .int .i64 (g 6), .int .i64 (g 7), .slice a' l'.length c'] 35) = V8 at Cq8 OA ⊢
              clear hq hv
              have HT10 : Hid _ := HT9.out.free OA
              have HE10 : Hid _ := HE9.out.off OA
              have HO10 : Hid _ := HO9.out.trans OA (fun _ _ h => h)
              clear OA Cq8
              go_wp2_with fail
              go_roundw
              case rel => exact ⟨n + 1, t', by go_num, by omega, HAB9.out, HT10.out, HE10.out, HO10.out⟩
              case measure => simp [intOf]; omega
            · obtain rfl : n = rs.length := by omega
              have e1 : decide ((rs.length : Int) < (rs.length : Int)) = false := decide_eq_false (by omega)
              have e2 : decide (rs.length < rs.length) = false := decide_eq_false (by omega)
              go_wp2_with fail
              refine (awake_any _).mono ?_
              rintro e va ⟨rfl, oa⟩
              go_wp2_with fail
              go_ret
              exact ⟨rfl, HO8.out.trans oa (fun _ _ h => h)⟩
end Go.Proofs.Ytbagahlphnafdaa
