/- Items of several texts. -/
import Derived.Test.YtpnnpdfmoldiiaaQLaw10
import Derived.Test.YtpnnpdfmoldiiaaQTol
import Derived.Test.YtpnnpdfmoldiiaaQLck
import Derived.Test.YtpnnpdfmoldiiaaQSiz
namespace Go.Proofs.Ytpnnpdfmoldiiaa
set_option maxRecDepth 100000
open Go.RowKit
def lackK (gs : List G) (e : E) : Bool := match fstK gs e.key with
 | none => true
 | some g => lacksB e.key e.f (cont e.l) g.abs
def sndF (gs : List G) : List E → Int → Bool → List E
 | [], _, _ => []
 | e :: r, room, has => if lackK gs e = true then (if room - (sizE e.key e.f (cont e.l) : Int) < 0 ∧ has = true then [] else e :: sndF gs r (room - (sizE e.key e.f (cont e.l) : Int)) true) else sndF gs r room has
theorem sndF_skip {gs : List G} {e : E} {r : List E} {room : Int} {has : Bool} (h : lackK gs e = false) : sndF gs (e :: r) room has = sndF gs r room has := by
 rw [sndF, h]
 rfl
theorem sndF_stop {gs : List G} {e : E} {r : List E} {room : Int} {has : Bool} (h : lackK gs e = true) (hc : room - (sizE e.key e.f (cont e.l) : Int) < 0 ∧ has = true) : sndF gs (e :: r) room has = [] := by
 rw [sndF, if_pos h, if_pos hc]
theorem sndF_take {gs : List G} {e : E} {r : List E} {room : Int} {has : Bool} (h : lackK gs e = true) (hc : ¬ (room - (sizE e.key e.f (cont e.l) : Int) < 0 ∧ has = true)) : sndF gs (e :: r) room has = e :: sndF gs r (room - (sizE e.key e.f (cont e.l) : Int)) true := by
 rw [sndF, if_pos h, if_neg hc]
theorem drop_get {es : List E} {n : Nat} {x : E} (h : es[n]? = some x) : es.drop n = x :: es.drop (n + 1) := by
 obtain ⟨hl, e⟩ := List.getElem?_eq_some_iff.1 h
 rw [List.drop_eq_getElem_cons hl, e]
theorem absE_cons (x : E) (r : List E) : absE (x :: r) = x.abs :: absE r := rfl
theorem fst_mem {gs : List G} {key : ByteArray} {g : G} (h : fstK gs key = some g) : g ∈ gs := List.mem_of_find?_eq_some h
structure OkN (x : E) : Prop where
 few : x.l.length ≤ 1000
 key : x.key.size ≤ 140737488351232
 rng : ∀ j, j < 8 → -9223372036854775808 ≤ x.f j ∧ x.f j ≤ 9223372036854775807
 sum : 120 + x.key.size + vsum (cont x.l) ≤ 140737488355328
theorem rowD_mem {w : World} {t : Option Addr} {c : Nat} {gs : List G} (h : Dgs w t c gs) {g : G} (hg : g ∈ gs) : RowD w g.a g.cap g.ds := by
 obtain ⟨i, hi, e⟩ := List.mem_iff_getElem.1 hg
 obtain ⟨-, -, -, -, h1⟩ := h.at_ i g (by rw [List.getElem?_eq_getElem hi, e])
 exact h1
set_option maxHeartbeats 4000000 in
theorem send_any (a t : Option Addr) (ca c : Nat) (es : List E) (gs : List G) (most : Int) (hm : -9223372036854775808 ≤ most ∧ most ≤ 9223372036854775807) (w : World) (hE : Ens w a ca es) (hG : Dgs w t c gs) (hgl : gs.length ≤ 1000000) (hel : es.length ≤ 1000) (hok : ∀ e ∈ es, OkN e) :
  Calls Try.prog 23 #[.slice a es.length ca, .slice t gs.length c, .int .i64 most] w fun e w' => ∃ (tq : Option Addr) (co : Nat) (os : List E), e = .returned (.slice tq os.length co) ∧ absE os = absE (sndF gs es (max most 0) false) ∧ OwnG 40 10 ecs w' tq co os ∧ (∀ e ∈ os, Row w' e.a e.cap e.l ∧ Far w.heap.size e.a e.l) ∧ (∀ x, blk tq = some x → w.heap.size ≤ x) ∧ Off (fun _ => False) w w' := by
 have HFI : Hid _ := firsts_any t c gs hgl w hG
 have HE0 : Hid _ := hE
 have HG0 : Hid _ := hG
 have HOKS : Hid (∀ e ∈ es, OkN e) := hok
 have hnot := not_any
 clear hE hG hok
 go_enter Try.func23, Try.ntmps23
 go_wp2_with fail
 refine Calls.mono HFI.out ?_
 rintro e wS ⟨q, rfl, fir, oS⟩
 have HFS : Hid _ := fir
 have HOS : Hid _ := oS
 have HES : Hid _ := HE0.out.off oS
 have HGS : Hid _ := HG0.out.off oS
 clear fir oS HFI HE0 HG0
 go_wp2_with fail
 have hR0 : 0 ≤ max most 0 := by omega
 have hR1 : max most 0 ≤ 9223372036854775807 := by omega
 generalize hRR : max most 0 = R0 at hR0 hR1 ⊢
 have HRR : Hid (max most 0 = R0) := hRR
 clear hRR
 go_loopw [8, 9, 20] (fun y8 y9 z wr => ∃ (n : Nat) (room : Int) (tq : Option Addr) (co : Nat) (os : List E), y8 = .int .i64 room ∧ y9 = .slice tq os.length co ∧ z = .int .i64 (n : Int) ∧ n ≤ es.length ∧ (-140737488355328 ≤ room ∧ room ≤ 9223372036854775807) ∧ (0 ≤ room ∨ os ≠ []) ∧ absE os ++ absE (sndF gs (es.drop n) room (!os.isEmpty)) = absE (sndF gs es R0 false) ∧ os.length ≤ n ∧ OwnG 40 10 ecs wr tq co os ∧ (∀ e ∈ os, Row wr e.a e.cap e.l ∧ Apt tq e.a e.l ∧ Far w.heap.size e.a e.l) ∧ (∀ x, blk tq = some x → wS.heap.size ≤ x) ∧ Off (fun _ => False) wS wr) (fun _ _ z _ => (es.length - intOf z).toNat)
 case atStart =>
  exact ⟨0, R0, none, 0, [], rfl, rfl, rfl, by omega, ⟨by omega, hR1⟩, .inl hR0, rfl, by simp, OwnG.nil _ _ _ _, fun e he => by simp at he, fun x hx => by simp [blk] at hx, Off.refl _ wS⟩
 case round =>
  obtain ⟨n, room, tq, co, os, rfl, rfl, rfl, hn, hrm, hpos, hdat, hol, hog, hrs, hnw, O⟩ := hrel
  have HEL : Hid (os.length ≤ n) := hol
  have HPO : Hid (0 ≤ room ∨ os ≠ []) := hpos
  have HDA : Hid _ := hdat
  have HOG : Hid _ := hog
  have HRS : Hid (∀ e ∈ os, Row wr e.a e.cap e.l ∧ Apt tq e.a e.l ∧ Far w.heap.size e.a e.l) := hrs
  have HNW : Hid _ := hnw
  have HO : Hid _ := O
  obtain ⟨hrm1, hrm2⟩ := hrm
  clear hol hpos hdat hog hrs hnw O
  by_cases hlt : n < es.length
  ·have e1 : decide ((n : Int) < (es.length : Int)) = true := decide_eq_true (by omega)
   have e2 : decide (n < es.length) = true := decide_eq_true hlt
   obtain ⟨x, hx⟩ : ∃ x, es[n]? = some x := ⟨_, List.getElem?_eq_getElem hlt⟩
   obtain ⟨bx, ox, rfl, kx, rx⟩ := (HES.out.off HO.out).at_ n x hx
   obtain ⟨k0, k1, k2, k3, k4, k5, k6, k7, k8, k9⟩ := ent10 kx
   have hix := idx_ents hlt
   have HX : Hid _ := hx
   have HOK : Hid (OkN x) := HOKS.out x (List.mem_of_getElem? hx)
   have CE := Cel.new wr 40 #[.string x.key, .int .i64 (x.f 0), .int .i64 (x.f 1), .int .i64 (x.f 2), .int .i64 (x.f 3), .int .i64 (x.f 4), .int .i64 (x.f 5), .int .i64 (x.f 6), .int .i64 (x.f 7), .slice x.a x.l.length x.cap]
   have OV : Off (fun _ => False) wr (wr.alloc (.cells #[.string x.key, .int .i64 (x.f 0), .int .i64 (x.f 1), .int .i64 (x.f 2), .int .i64 (x.f 3), .int .i64 (x.f 4), .int .i64 (x.f 5), .int .i64 (x.f 6), .int .i64 (x.f 7), .slice x.a x.l.length x.cap] 40)) := (Off.refl _ wr).alloc _
   clear kx hx
   go_upto_region 7 with fail
   generalize hqe : wr.heap.size = qe at CE ⊢
   generalize hve : wr.alloc (.cells #[.string x.key, .int .i64 (x.f 0), .int .i64 (x.f 1), .int .i64 (x.f 2), .int .i64 (x.f 3), .int .i64 (x.f 4), .int .i64 (x.f 5), .int .i64 (x.f 6), .int .i64 (x.f 7), .slice x.a x.l.length x.cap] 40) = V1 at CE OV ⊢
   clear hqe hve k0 k1 k2 k3 k4 k5 k6 k7 k8 k9 hix
   have HCE1 : Hid _ := CE
   have HRX1 : Hid _ := rx.off OV
   have HOG1 : Hid _ := HOG.out.off OV (fun _ _ _ h => h)
   have HRS1 : Hid (∀ e ∈ os, Row V1 e.a e.cap e.l ∧ Apt tq e.a e.l ∧ Far w.heap.size e.a e.l) := fun e he => ⟨(HRS.out e he).1.off OV, (HRS.out e he).2⟩
   have HO1 : Hid _ := HO.out.trans OV (fun _ _ h => h)
   clear CE OV rx HOG HRS HO
   obtain ⟨y0, y1, y2, y3, y4, y5, y6, y7, y8, y9⟩ := cel10 HCE1.out
   have HTD : Hid _ := told_any w.heap.size q gs x.key V1 (HFS.out.off HO1.out (fun _ h => h.elim)) hgl
   go_wp2_with fail
   clear y0 y1 y2 y3 y4 y5 y6 y7 y8 y9
   refine Calls.mono HTD.out ?_
   rintro e V2 ⟨d, rfl, hd, o2⟩
   have HD : Hid (d = (fstK gs x.key).getD zG) := hd
   have CD := Cel.new V2 27 #[.string d.key, .int .i64 (d.f 0), .int .i64 (d.f 1), .int .i64 (d.f 2), .int .i64 (d.f 3), .int .i64 (d.f 4), .int .i64 (d.f 5), .int .i64 (d.f 6), .int .i64 (d.f 7), .slice d.a d.ds.length d.cap]
   have OD : Off (fun _ => False) V2 (V2.alloc (.cells #[.string d.key, .int .i64 (d.f 0), .int .i64 (d.f 1), .int .i64 (d.f 2), .int .i64 (d.f 3), .int .i64 (d.f 4), .int .i64 (d.f 5), .int .i64 (d.f 6), .int .i64 (d.f 7), .slice d.a d.ds.length d.cap] 27)) := (Off.refl _ V2).alloc _
   have HOA : Hid _ := o2.trans OD (fun _ _ h => h)
   clear hd HTD o2
   go_upto_region 8 with fail
   generalize hqd : V2.heap.size = qd at CD ⊢
   generalize hvd : V2.alloc (.cells #[.string d.key, .int .i64 (d.f 0), .int .i64 (d.f 1), .int .i64 (d.f 2), .int .i64 (d.f 3), .int .i64 (d.f 4), .int .i64 (d.f 5), .int .i64 (d.f 6), .int .i64 (d.f 7), .slice d.a d.ds.length d.cap] 27) = V3 at CD OD HOA ⊢
   clear hqd hvd OD
   have HCD : Hid _ := CD
   have HCE2 : Hid _ := HCE1.out.off HOA.out (fun h => h)
   have HRX2 : Hid _ := HRX1.out.off HOA.out
   have HOG2 : Hid _ := HOG1.out.off HOA.out (fun _ _ _ h => h)
   have HRS2 : Hid (∀ e ∈ os, Row V3 e.a e.cap e.l ∧ Apt tq e.a e.l ∧ Far w.heap.size e.a e.l) := fun e he => ⟨(HRS1.out e he).1.off HOA.out, (HRS1.out e he).2⟩
   have HO2 : Hid _ := HO1.out.trans HOA.out (fun _ _ h => h)
   clear CD HCE1 HRX1 HOG1 HRS1 HO1 HOA
   cases hfk : fstK gs x.key with
   | none =>
    have HLK : Hid (lackK gs x = true) := by show _ = _; unfold lackK; rw [hfk]
    clear hfk HD HCD
    simp only [Option.isSome_none]
    obtain ⟨y0, y1, y2, y3, y4, y5, y6, y7, y8, y9⟩ := cel10 HCE2.out
    go_wp2_with fail
    clear y0 y1 y2 y3 y4 y5 y6 y7 y8 y9
    have HSE : Hid _ := size_any x.key HOK.out.key x.f HOK.out.rng x.a x.cap x.l _ HRX2.out HOK.out.sum
    have HZL : Hid (sizE x.key x.f (cont x.l) ≤ 140737488355328) := by show _ ≤ _; have h1 := sizE_le x.key x.f HOK.out.rng x.l (fun v hv => ⟨⟨(HRX2.out.ok v hv).m0, (HRX2.out.ok v hv).m1⟩, (HRX2.out.ok v hv).len⟩) HOK.out.key (by have := HOK.out.few; omega); have h2 := HOK.out.sum; omega
    have hzl : sizE x.key x.f (cont x.l) ≤ 140737488355328 := HZL.out
    clear HZL
    generalize hZ : sizE x.key x.f (cont x.l) = Z at HSE hzl
    have HZE : Hid (sizE x.key x.f (cont x.l) = Z) := hZ
    clear hZ
    refine Calls.mono HSE.out ?_
    rintro e w1 ⟨rfl, o1⟩
    have HCE3 : Hid _ := HCE2.out.off o1 (fun h => h)
    have HRX3 : Hid _ := HRX2.out.off o1
    have HOG3 : Hid _ := HOG2.out.off o1 (fun _ _ _ h => h)
    have HRS3 : Hid (∀ e ∈ os, Row w1 e.a e.cap e.l ∧ Apt tq e.a e.l ∧ Far w.heap.size e.a e.l) := fun e he => ⟨(HRS2.out e he).1.off o1, (HRS2.out e he).2⟩
    have HO3 : Hid _ := HO2.out.trans o1 (fun _ _ h => h)
    clear o1 HCE2 HRX2 HOG2 HRS2 HO2 HSE
    by_cases hneg : room - (Z : Int) < 0
    ·have e3 : decide (room - (Z : Int) < 0) = true := decide_eq_true hneg
     by_cases hem : os = []
     ·have HCN : Hid (¬ (room - (Z : Int) < 0 ∧ (!os.isEmpty) = true)) := fun h => by rw [hem] at h; simp at h
      have hz0 : os.length = 0 := by rw [hem]; rfl
      have e4 : decide ((0 : Int) < (os.length : Int)) = false := decide_eq_false (by omega)
      have e5 : decide (0 < os.length) = false := decide_eq_false (by omega)
      have HLW : Hid (-140737488355328 ≤ room - (Z : Int)) := by show _ ≤ _; exact HPO.out.elim (fun h => by omega) (fun h => absurd hem h)
      clear hz0 hem
      obtain ⟨y0, y1, y2, y3, y4, y5, y6, y7, y8, y9⟩ := cel10 HCE3.out
      go_wp2_with fail
      clear y0 y1 y2 y3 y4 y5 y6 y7 y8 y9
      refine (ecopy_any x.key x.f x.a x.cap x.l _ HRX3.out HOK.out.few).mono ?_
      rintro e w2 ⟨a1, c1, l1, rfl, hc1, hr1, hf1, o2⟩
      have HC1 : Hid _ := hc1
      have HR1 : Hid _ := hr1
      have HF1 : Hid _ := hf1
      have HOG2 : Hid _ := HOG3.out.off o2 (fun _ _ _ h => h)
      have HRS2 : Hid (∀ e ∈ os, Row w2 e.a e.cap e.l ∧ Apt tq e.a e.l ∧ Far w.heap.size e.a e.l) := fun e he => ⟨(HRS3.out e he).1.off o2, (HRS3.out e he).2⟩
      have HO2 : Hid _ := HO3.out.trans o2 (fun _ _ h => h)
      have HTO : Hid (∀ c, blk tq = some c → c < w1.heap.size) := HOG3.out.lt
      have HSW : Hid (wS.heap.size ≤ w1.heap.size) := HO3.out.size
      clear hc1 hr1 hf1 o2 HOG3 HRS3 HO3 HCE3 HRX3
      have G : Cel w2.heap.size 40 #[.string x.key, .int .i64 (x.f 0), .int .i64 (x.f 1), .int .i64 (x.f 2), .int .i64 (x.f 3), .int .i64 (x.f 4), .int .i64 (x.f 5), .int .i64 (x.f 6), .int .i64 (x.f 7), .slice a1 l1.length c1] (w2.alloc (.cells #[.string x.key, .int .i64 (x.f 0), .int .i64 (x.f 1), .int .i64 (x.f 2), .int .i64 (x.f 3), .int .i64 (x.f 4), .int .i64 (x.f 5), .int .i64 (x.f 6), .int .i64 (x.f 7), .slice a1 l1.length c1] 40)) := Cel.new w2 _ _
      have OA : Off (fun _ => False) w2 (w2.alloc (.cells #[.string x.key, .int .i64 (x.f 0), .int .i64 (x.f 1), .int .i64 (x.f 2), .int .i64 (x.f 3), .int .i64 (x.f 4), .int .i64 (x.f 5), .int .i64 (x.f 6), .int .i64 (x.f 7), .slice a1 l1.length c1] 40)) := (Off.refl _ w2).alloc _
      have G2 : ∀ j u, (ecs ⟨x.key, x.f, a1, c1, l1⟩)[j]? = some u → (w2.alloc (.cells #[.string x.key, .int .i64 (x.f 0), .int .i64 (x.f 1), .int .i64 (x.f 2), .int .i64 (x.f 3), .int .i64 (x.f 4), .int .i64 (x.f 5), .int .i64 (x.f 6), .int .i64 (x.f 7), .slice a1 l1.length c1] 40)).cell? ⟨w2.heap.size, j, none⟩ = some u := fun j u hj => by
       rw [G.cell j, ← hj, List.getElem?_toArray]
       rfl
      have HG2 : Hid _ := G2
      have HOA : Hid _ := OA
      clear G G2 OA
      go_wp2_with (at_builtin; refine wpList_appG (cs := ecs) rfl (.tmp 49) (.tmp 52) Try.underlying22 Try.infoE rfl (by decide) (by decide) ecs_len ecs_one rfl tq co os rfl (HOG2.out.off HOA.out (fun _ _ _ h => h)) w2.heap.size 1 ⟨x.key, x.f, a1, c1, l1⟩ rfl HG2.out (by have := HEL.out; omega) ?_; intro tq' co' w3 ys hys own3 o3 at3; have HOWN3 : Hid _ := own3; have HO3 : Hid _ := o3; have HAT : Hid _ := at3; clear own3 o3 at3)
      go_roundw
      case rel =>
       have fo : Off (fun c => blk tq = some c) w2 w3 := (HOA.out.mono (fun _ _ h => h.elim)).trans HO3.out (fun _ _ h => h)
       have hat : blk tq' = blk tq ∨ blk tq' = some (w2.heap.size + 1) := by
        have e := HAT.out
        simpa [World.size_alloc] using e
       have hap : Apt tq a1 l1 := ⟨fun _ c hc e => by have h1 := HF1.out.row c hc; have h2 := HTO.out c e; omega, fun v hv _ c hc e => by have h1 := HF1.out.val v hv c hc; have h2 := HTO.out c e; omega⟩
       have hsz : wS.heap.size ≤ w2.heap.size := HO2.out.size
       have hww : w.heap.size ≤ wS.heap.size := HOS.out.size
       have hw1 := HSW.out
       refine ⟨n + 1, room - Z, tq', co', ys, rfl, rfl, by go_num, by omega, ⟨HLW.out, by omega⟩, .inr (by rw [hys.out]; simp), ?_, by rw [hys.out, List.length_append]; have := HEL.out; simp; omega, HOWN3.out, ?_, ?_, ?_⟩
       ·refine Eq.trans ?_ HDA.out
        have hd : es.drop n = x :: es.drop (n + 1) := drop_get HX.out
        have hne : ys.isEmpty = false := by rw [hys.out]; simp
        rw [hd, sndF_take HLK.out (HZE.out ▸ HCN.out), hys.out, snoc_abs, absE_cons, HZE.out, List.append_assoc]
        congr 1
        rw [← hys.out, hne]
        show [(⟨x.key, x.f, cont l1⟩ : K)] ++ _ = _
        rw [HC1.out]
        rfl
       ·intro e he
        rw [hys.out, List.mem_append, List.mem_singleton] at he
        rcases he with he | rfl
        ·exact ⟨(HRS2.out e he).2.1.row_off (HRS2.out e he).1 fo, (HRS2.out e he).2.1.step (HRS2.out e he).1 (by omega) hat, (HRS2.out e he).2.2⟩
        ·exact ⟨hap.row_off HR1.out fo, hap.step HR1.out (by omega) hat, HF1.out.mono (by omega)⟩
       ·intro c hc
        rcases hat with h | h
        ·exact HNW.out c (h ▸ hc)
        ·rw [h] at hc
         simp at hc
         omega
       ·exact HO2.out.trans fo (fun i hi h => by have := HNW.out i h; omega)
      case measure => simp [intOf]; omega
     ·have hpos : 0 < os.length := by cases os with | nil => exact absurd rfl hem | cons _ _ => simp
      have e4 : decide ((0 : Int) < (os.length : Int)) = true := decide_eq_true (by omega)
      have e5 : decide (0 < os.length) = true := decide_eq_true hpos
      have HCN : Hid (room - (Z : Int) < 0 ∧ (!os.isEmpty) = true) := ⟨hneg, by cases os with | nil => exact absurd rfl hem | cons _ _ => rfl⟩
      go_wp2_with fail
      go_ret
      have hd : es.drop n = x :: es.drop (n + 1) := drop_get HX.out
      have hda := HDA.out
      rw [hd, sndF_stop HLK.out (HZE.out ▸ HCN.out)] at hda
      exact ⟨tq, co, os, rfl, by rw [HRR.out, ← hda]; simp [absE], HOG3.out, fun e he => ⟨(HRS3.out e he).1, (HRS3.out e he).2.2⟩, fun k hk => Nat.le_trans HOS.out.size (HNW.out k hk), HOS.out.trans HO3.out (fun _ _ h => h)⟩
    ·have e3 : decide (room - (Z : Int) < 0) = false := decide_eq_false hneg
     have HCN : Hid (¬ (room - (Z : Int) < 0 ∧ (!os.isEmpty) = true)) := fun h => hneg h.1
     have HLW : Hid (-140737488355328 ≤ room - (Z : Int)) := by show _ ≤ _; omega
     obtain ⟨y0, y1, y2, y3, y4, y5, y6, y7, y8, y9⟩ := cel10 HCE3.out
     go_wp2_with fail
     clear y0 y1 y2 y3 y4 y5 y6 y7 y8 y9
     refine (ecopy_any x.key x.f x.a x.cap x.l _ HRX3.out HOK.out.few).mono ?_
     rintro e w2 ⟨a1, c1, l1, rfl, hc1, hr1, hf1, o2⟩
     have HC1 : Hid _ := hc1
     have HR1 : Hid _ := hr1
     have HF1 : Hid _ := hf1
     have HOG2 : Hid _ := HOG3.out.off o2 (fun _ _ _ h => h)
     have HRS2 : Hid (∀ e ∈ os, Row w2 e.a e.cap e.l ∧ Apt tq e.a e.l ∧ Far w.heap.size e.a e.l) := fun e he => ⟨(HRS3.out e he).1.off o2, (HRS3.out e he).2⟩
     have HO2 : Hid _ := HO3.out.trans o2 (fun _ _ h => h)
     have HTO : Hid (∀ c, blk tq = some c → c < w1.heap.size) := HOG3.out.lt
     have HSW : Hid (wS.heap.size ≤ w1.heap.size) := HO3.out.size
     clear hc1 hr1 hf1 o2 HOG3 HRS3 HO3 HCE3 HRX3
     have G : Cel w2.heap.size 40 #[.string x.key, .int .i64 (x.f 0), .int .i64 (x.f 1), .int .i64 (x.f 2), .int .i64 (x.f 3), .int .i64 (x.f 4), .int .i64 (x.f 5), .int .i64 (x.f 6), .int .i64 (x.f 7), .slice a1 l1.length c1] (w2.alloc (.cells #[.string x.key, .int .i64 (x.f 0), .int .i64 (x.f 1), .int .i64 (x.f 2), .int .i64 (x.f 3), .int .i64 (x.f 4), .int .i64 (x.f 5), .int .i64 (x.f 6), .int .i64 (x.f 7), .slice a1 l1.length c1] 40)) := Cel.new w2 _ _
     have OA : Off (fun _ => False) w2 (w2.alloc (.cells #[.string x.key, .int .i64 (x.f 0), .int .i64 (x.f 1), .int .i64 (x.f 2), .int .i64 (x.f 3), .int .i64 (x.f 4), .int .i64 (x.f 5), .int .i64 (x.f 6), .int .i64 (x.f 7), .slice a1 l1.length c1] 40)) := (Off.refl _ w2).alloc _
     have G2 : ∀ j u, (ecs ⟨x.key, x.f, a1, c1, l1⟩)[j]? = some u → (w2.alloc (.cells #[.string x.key, .int .i64 (x.f 0), .int .i64 (x.f 1), .int .i64 (x.f 2), .int .i64 (x.f 3), .int .i64 (x.f 4), .int .i64 (x.f 5), .int .i64 (x.f 6), .int .i64 (x.f 7), .slice a1 l1.length c1] 40)).cell? ⟨w2.heap.size, j, none⟩ = some u := fun j u hj => by
      rw [G.cell j, ← hj, List.getElem?_toArray]
      rfl
     have HG2 : Hid _ := G2
     have HOA : Hid _ := OA
     clear G G2 OA
     go_wp2_with (at_builtin; refine wpList_appG (cs := ecs) rfl (.tmp 49) (.tmp 52) Try.underlying22 Try.infoE rfl (by decide) (by decide) ecs_len ecs_one rfl tq co os rfl (HOG2.out.off HOA.out (fun _ _ _ h => h)) w2.heap.size 1 ⟨x.key, x.f, a1, c1, l1⟩ rfl HG2.out (by have := HEL.out; omega) ?_; intro tq' co' w3 ys hys own3 o3 at3; have HOWN3 : Hid _ := own3; have HO3 : Hid _ := o3; have HAT : Hid _ := at3; clear own3 o3 at3)
     go_roundw
     case rel =>
      have fo : Off (fun c => blk tq = some c) w2 w3 := (HOA.out.mono (fun _ _ h => h.elim)).trans HO3.out (fun _ _ h => h)
      have hat : blk tq' = blk tq ∨ blk tq' = some (w2.heap.size + 1) := by
       have e := HAT.out
       simpa [World.size_alloc] using e
      have hap : Apt tq a1 l1 := ⟨fun _ c hc e => by have h1 := HF1.out.row c hc; have h2 := HTO.out c e; omega, fun v hv _ c hc e => by have h1 := HF1.out.val v hv c hc; have h2 := HTO.out c e; omega⟩
      have hsz : wS.heap.size ≤ w2.heap.size := HO2.out.size
      have hww : w.heap.size ≤ wS.heap.size := HOS.out.size
      have hw1 := HSW.out
      refine ⟨n + 1, room - Z, tq', co', ys, rfl, rfl, by go_num, by omega, ⟨HLW.out, by omega⟩, .inr (by rw [hys.out]; simp), ?_, by rw [hys.out, List.length_append]; have := HEL.out; simp; omega, HOWN3.out, ?_, ?_, ?_⟩
      ·refine Eq.trans ?_ HDA.out
       have hd : es.drop n = x :: es.drop (n + 1) := drop_get HX.out
       have hne : ys.isEmpty = false := by rw [hys.out]; simp
       rw [hd, sndF_take HLK.out (HZE.out ▸ HCN.out), hys.out, snoc_abs, absE_cons, HZE.out, List.append_assoc]
       congr 1
       rw [← hys.out, hne]
       show [(⟨x.key, x.f, cont l1⟩ : K)] ++ _ = _
       rw [HC1.out]
       rfl
      ·intro e he
       rw [hys.out, List.mem_append, List.mem_singleton] at he
       rcases he with he | rfl
       ·exact ⟨(HRS2.out e he).2.1.row_off (HRS2.out e he).1 fo, (HRS2.out e he).2.1.step (HRS2.out e he).1 (by omega) hat, (HRS2.out e he).2.2⟩
       ·exact ⟨hap.row_off HR1.out fo, hap.step HR1.out (by omega) hat, HF1.out.mono (by omega)⟩
      ·intro c hc
       rcases hat with h | h
       ·exact HNW.out c (h ▸ hc)
       ·rw [h] at hc
        simp at hc
        omega
      ·exact HO2.out.trans fo (fun i hi h => by have := HNW.out i h; omega)
     case measure => simp [intOf]; omega
   | some g =>
    have HLG : Hid (lackK gs x = lacksB x.key x.f (cont x.l) g.abs) := by show _ = _; unfold lackK; rw [hfk]
    obtain rfl : d = g := by have e := HD.out; rw [hfk] at e; exact e
    have HRD : Hid _ := rowD_mem (HGS.out.off HO2.out) (fst_mem hfk)
    clear hfk HD
    simp only [Option.isSome_some]
    obtain ⟨y0, y1, y2, y3, y4, y5, y6, y7, y8, y9⟩ := cel10 HCE2.out
    obtain ⟨z0, z1, z2, z3, z4, z5, z6, z7, z8, z9⟩ := cel10 HCD.out
    have HLA : Hid _ := lacks_any x d V3 HRX2.out HOK.out.few HRD.out
    generalize hB : lacksB x.key x.f (cont x.l) d.abs = b at HLG HLA
    clear hB
    go_wp2_with fail
    clear y0 y1 y2 y3 y4 y5 y6 y7 y8 y9 z0 z1 z2 z3 z4 z5 z6 z7 z8 z9
    refine Calls.mono HLA.out ?_
    rintro e V4 ⟨rfl, o4⟩
    have HCE4 : Hid _ := HCE2.out.off o4 (fun h => h)
    have HRX4 : Hid _ := HRX2.out.off o4
    have HOG4 : Hid _ := HOG2.out.off o4 (fun _ _ _ h => h)
    have HRS4 : Hid (∀ e ∈ os, Row V4 e.a e.cap e.l ∧ Apt tq e.a e.l ∧ Far w.heap.size e.a e.l) := fun e he => ⟨(HRS2.out e he).1.off o4, (HRS2.out e he).2⟩
    have HO4 : Hid _ := HO2.out.trans o4 (fun _ _ h => h)
    clear HCE2 HRX2 HOG2 HRS2 HO2 o4 HLA HRD HCD
    have HCE2 : Hid _ := HCE4.out
    have HRX2 : Hid _ := HRX4.out
    have HOG2 : Hid _ := HOG4.out
    have HRS2 : Hid (∀ e ∈ os, Row V4 e.a e.cap e.l ∧ Apt tq e.a e.l ∧ Far w.heap.size e.a e.l) := HRS4.out
    have HO2 : Hid _ := HO4.out
    clear HCE4 HRX4 HOG4 HRS4 HO4
    cases b with
    | false =>
     have HLK : Hid (lackK gs x = false) := HLG.out
     clear HLG
     go_wp2_with fail
     go_roundw
     case rel =>
      refine ⟨n + 1, room, tq, co, os, rfl, rfl, by go_num, by omega, ⟨hrm1, hrm2⟩, HPO.out, ?_, by have := HEL.out; omega, HOG2.out, HRS2.out, HNW.out, HO2.out⟩
      have hd : es.drop n = x :: es.drop (n + 1) := drop_get HX.out
      have hda := HDA.out
      rw [hd, sndF_skip HLK.out] at hda
      exact hda
     case measure => simp [intOf]; omega
    | true =>
     have HLK : Hid (lackK gs x = true) := HLG.out
     clear HLG
     obtain ⟨y0, y1, y2, y3, y4, y5, y6, y7, y8, y9⟩ := cel10 HCE2.out
     go_wp2_with fail
     clear y0 y1 y2 y3 y4 y5 y6 y7 y8 y9
     have HSE : Hid _ := size_any x.key HOK.out.key x.f HOK.out.rng x.a x.cap x.l _ HRX2.out HOK.out.sum
     have HZL : Hid (sizE x.key x.f (cont x.l) ≤ 140737488355328) := by show _ ≤ _; have h1 := sizE_le x.key x.f HOK.out.rng x.l (fun v hv => ⟨⟨(HRX2.out.ok v hv).m0, (HRX2.out.ok v hv).m1⟩, (HRX2.out.ok v hv).len⟩) HOK.out.key (by have := HOK.out.few; omega); have h2 := HOK.out.sum; omega
     have hzl : sizE x.key x.f (cont x.l) ≤ 140737488355328 := HZL.out
     clear HZL
     generalize hZ : sizE x.key x.f (cont x.l) = Z at HSE hzl
     have HZE : Hid (sizE x.key x.f (cont x.l) = Z) := hZ
     clear hZ
     refine Calls.mono HSE.out ?_
     rintro e w1 ⟨rfl, o1⟩
     have HCE3 : Hid _ := HCE2.out.off o1 (fun h => h)
     have HRX3 : Hid _ := HRX2.out.off o1
     have HOG3 : Hid _ := HOG2.out.off o1 (fun _ _ _ h => h)
     have HRS3 : Hid (∀ e ∈ os, Row w1 e.a e.cap e.l ∧ Apt tq e.a e.l ∧ Far w.heap.size e.a e.l) := fun e he => ⟨(HRS2.out e he).1.off o1, (HRS2.out e he).2⟩
     have HO3 : Hid _ := HO2.out.trans o1 (fun _ _ h => h)
     clear o1 HCE2 HRX2 HOG2 HRS2 HO2 HSE
     by_cases hneg : room - (Z : Int) < 0
     ·have e3 : decide (room - (Z : Int) < 0) = true := decide_eq_true hneg
      by_cases hem : os = []
      ·have HCN : Hid (¬ (room - (Z : Int) < 0 ∧ (!os.isEmpty) = true)) := fun h => by rw [hem] at h; simp at h
       have hz0 : os.length = 0 := by rw [hem]; rfl
       have e4 : decide ((0 : Int) < (os.length : Int)) = false := decide_eq_false (by omega)
       have e5 : decide (0 < os.length) = false := decide_eq_false (by omega)
       have HLW : Hid (-140737488355328 ≤ room - (Z : Int)) := by show _ ≤ _; exact HPO.out.elim (fun h => by omega) (fun h => absurd hem h)
       clear hz0 hem
       obtain ⟨y0, y1, y2, y3, y4, y5, y6, y7, y8, y9⟩ := cel10 HCE3.out
       go_wp2_with fail
       clear y0 y1 y2 y3 y4 y5 y6 y7 y8 y9
       refine (ecopy_any x.key x.f x.a x.cap x.l _ HRX3.out HOK.out.few).mono ?_
       rintro e w2 ⟨a1, c1, l1, rfl, hc1, hr1, hf1, o2⟩
       have HC1 : Hid _ := hc1
       have HR1 : Hid _ := hr1
       have HF1 : Hid _ := hf1
       have HOG2 : Hid _ := HOG3.out.off o2 (fun _ _ _ h => h)
       have HRS2 : Hid (∀ e ∈ os, Row w2 e.a e.cap e.l ∧ Apt tq e.a e.l ∧ Far w.heap.size e.a e.l) := fun e he => ⟨(HRS3.out e he).1.off o2, (HRS3.out e he).2⟩
       have HO2 : Hid _ := HO3.out.trans o2 (fun _ _ h => h)
       have HTO : Hid (∀ c, blk tq = some c → c < w1.heap.size) := HOG3.out.lt
       have HSW : Hid (wS.heap.size ≤ w1.heap.size) := HO3.out.size
       clear hc1 hr1 hf1 o2 HOG3 HRS3 HO3 HCE3 HRX3
       have G : Cel w2.heap.size 40 #[.string x.key, .int .i64 (x.f 0), .int .i64 (x.f 1), .int .i64 (x.f 2), .int .i64 (x.f 3), .int .i64 (x.f 4), .int .i64 (x.f 5), .int .i64 (x.f 6), .int .i64 (x.f 7), .slice a1 l1.length c1] (w2.alloc (.cells #[.string x.key, .int .i64 (x.f 0), .int .i64 (x.f 1), .int .i64 (x.f 2), .int .i64 (x.f 3), .int .i64 (x.f 4), .int .i64 (x.f 5), .int .i64 (x.f 6), .int .i64 (x.f 7), .slice a1 l1.length c1] 40)) := Cel.new w2 _ _
       have OA : Off (fun _ => False) w2 (w2.alloc (.cells #[.string x.key, .int .i64 (x.f 0), .int .i64 (x.f 1), .int .i64 (x.f 2), .int .i64 (x.f 3), .int .i64 (x.f 4), .int .i64 (x.f 5), .int .i64 (x.f 6), .int .i64 (x.f 7), .slice a1 l1.length c1] 40)) := (Off.refl _ w2).alloc _
       have G2 : ∀ j u, (ecs ⟨x.key, x.f, a1, c1, l1⟩)[j]? = some u → (w2.alloc (.cells #[.string x.key, .int .i64 (x.f 0), .int .i64 (x.f 1), .int .i64 (x.f 2), .int .i64 (x.f 3), .int .i64 (x.f 4), .int .i64 (x.f 5), .int .i64 (x.f 6), .int .i64 (x.f 7), .slice a1 l1.length c1] 40)).cell? ⟨w2.heap.size, j, none⟩ = some u := fun j u hj => by
        rw [G.cell j, ← hj, List.getElem?_toArray]
        rfl
       have HG2 : Hid _ := G2
       have HOA : Hid _ := OA
       clear G G2 OA
       go_wp2_with (at_builtin; refine wpList_appG (cs := ecs) rfl (.tmp 49) (.tmp 52) Try.underlying22 Try.infoE rfl (by decide) (by decide) ecs_len ecs_one rfl tq co os rfl (HOG2.out.off HOA.out (fun _ _ _ h => h)) w2.heap.size 1 ⟨x.key, x.f, a1, c1, l1⟩ rfl HG2.out (by have := HEL.out; omega) ?_; intro tq' co' w3 ys hys own3 o3 at3; have HOWN3 : Hid _ := own3; have HO3 : Hid _ := o3; have HAT : Hid _ := at3; clear own3 o3 at3)
       go_roundw
       case rel =>
        have fo : Off (fun c => blk tq = some c) w2 w3 := (HOA.out.mono (fun _ _ h => h.elim)).trans HO3.out (fun _ _ h => h)
        have hat : blk tq' = blk tq ∨ blk tq' = some (w2.heap.size + 1) := by
         have e := HAT.out
         simpa [World.size_alloc] using e
        have hap : Apt tq a1 l1 := ⟨fun _ c hc e => by have h1 := HF1.out.row c hc; have h2 := HTO.out c e; omega, fun v hv _ c hc e => by have h1 := HF1.out.val v hv c hc; have h2 := HTO.out c e; omega⟩
        have hsz : wS.heap.size ≤ w2.heap.size := HO2.out.size
        have hww : w.heap.size ≤ wS.heap.size := HOS.out.size
        have hw1 := HSW.out
        refine ⟨n + 1, room - Z, tq', co', ys, rfl, rfl, by go_num, by omega, ⟨HLW.out, by omega⟩, .inr (by rw [hys.out]; simp), ?_, by rw [hys.out, List.length_append]; have := HEL.out; simp; omega, HOWN3.out, ?_, ?_, ?_⟩
        ·refine Eq.trans ?_ HDA.out
         have hd : es.drop n = x :: es.drop (n + 1) := drop_get HX.out
         have hne : ys.isEmpty = false := by rw [hys.out]; simp
         rw [hd, sndF_take HLK.out (HZE.out ▸ HCN.out), hys.out, snoc_abs, absE_cons, HZE.out, List.append_assoc]
         congr 1
         rw [← hys.out, hne]
         show [(⟨x.key, x.f, cont l1⟩ : K)] ++ _ = _
         rw [HC1.out]
         rfl
        ·intro e he
         rw [hys.out, List.mem_append, List.mem_singleton] at he
         rcases he with he | rfl
         ·exact ⟨(HRS2.out e he).2.1.row_off (HRS2.out e he).1 fo, (HRS2.out e he).2.1.step (HRS2.out e he).1 (by omega) hat, (HRS2.out e he).2.2⟩
         ·exact ⟨hap.row_off HR1.out fo, hap.step HR1.out (by omega) hat, HF1.out.mono (by omega)⟩
        ·intro c hc
         rcases hat with h | h
         ·exact HNW.out c (h ▸ hc)
         ·rw [h] at hc
          simp at hc
          omega
        ·exact HO2.out.trans fo (fun i hi h => by have := HNW.out i h; omega)
       case measure => simp [intOf]; omega
      ·have hpos : 0 < os.length := by cases os with | nil => exact absurd rfl hem | cons _ _ => simp
       have e4 : decide ((0 : Int) < (os.length : Int)) = true := decide_eq_true (by omega)
       have e5 : decide (0 < os.length) = true := decide_eq_true hpos
       have HCN : Hid (room - (Z : Int) < 0 ∧ (!os.isEmpty) = true) := ⟨hneg, by cases os with | nil => exact absurd rfl hem | cons _ _ => rfl⟩
       go_wp2_with fail
       go_ret
       have hd : es.drop n = x :: es.drop (n + 1) := drop_get HX.out
       have hda := HDA.out
       rw [hd, sndF_stop HLK.out (HZE.out ▸ HCN.out)] at hda
       exact ⟨tq, co, os, rfl, by rw [HRR.out, ← hda]; simp [absE], HOG3.out, fun e he => ⟨(HRS3.out e he).1, (HRS3.out e he).2.2⟩, fun k hk => Nat.le_trans HOS.out.size (HNW.out k hk), HOS.out.trans HO3.out (fun _ _ h => h)⟩
     ·have e3 : decide (room - (Z : Int) < 0) = false := decide_eq_false hneg
      have HCN : Hid (¬ (room - (Z : Int) < 0 ∧ (!os.isEmpty) = true)) := fun h => hneg h.1
      have HLW : Hid (-140737488355328 ≤ room - (Z : Int)) := by show _ ≤ _; omega
      obtain ⟨y0, y1, y2, y3, y4, y5, y6, y7, y8, y9⟩ := cel10 HCE3.out
      go_wp2_with fail
      clear y0 y1 y2 y3 y4 y5 y6 y7 y8 y9
      refine (ecopy_any x.key x.f x.a x.cap x.l _ HRX3.out HOK.out.few).mono ?_
      rintro e w2 ⟨a1, c1, l1, rfl, hc1, hr1, hf1, o2⟩
      have HC1 : Hid _ := hc1
      have HR1 : Hid _ := hr1
      have HF1 : Hid _ := hf1
      have HOG2 : Hid _ := HOG3.out.off o2 (fun _ _ _ h => h)
      have HRS2 : Hid (∀ e ∈ os, Row w2 e.a e.cap e.l ∧ Apt tq e.a e.l ∧ Far w.heap.size e.a e.l) := fun e he => ⟨(HRS3.out e he).1.off o2, (HRS3.out e he).2⟩
      have HO2 : Hid _ := HO3.out.trans o2 (fun _ _ h => h)
      have HTO : Hid (∀ c, blk tq = some c → c < w1.heap.size) := HOG3.out.lt
      have HSW : Hid (wS.heap.size ≤ w1.heap.size) := HO3.out.size
      clear hc1 hr1 hf1 o2 HOG3 HRS3 HO3 HCE3 HRX3
      have G : Cel w2.heap.size 40 #[.string x.key, .int .i64 (x.f 0), .int .i64 (x.f 1), .int .i64 (x.f 2), .int .i64 (x.f 3), .int .i64 (x.f 4), .int .i64 (x.f 5), .int .i64 (x.f 6), .int .i64 (x.f 7), .slice a1 l1.length c1] (w2.alloc (.cells #[.string x.key, .int .i64 (x.f 0), .int .i64 (x.f 1), .int .i64 (x.f 2), .int .i64 (x.f 3), .int .i64 (x.f 4), .int .i64 (x.f 5), .int .i64 (x.f 6), .int .i64 (x.f 7), .slice a1 l1.length c1] 40)) := Cel.new w2 _ _
      have OA : Off (fun _ => False) w2 (w2.alloc (.cells #[.string x.key, .int .i64 (x.f 0), .int .i64 (x.f 1), .int .i64 (x.f 2), .int .i64 (x.f 3), .int .i64 (x.f 4), .int .i64 (x.f 5), .int .i64 (x.f 6), .int .i64 (x.f 7), .slice a1 l1.length c1] 40)) := (Off.refl _ w2).alloc _
      have G2 : ∀ j u, (ecs ⟨x.key, x.f, a1, c1, l1⟩)[j]? = some u → (w2.alloc (.cells #[.string x.key, .int .i64 (x.f 0), .int .i64 (x.f 1), .int .i64 (x.f 2), .int .i64 (x.f 3), .int .i64 (x.f 4), .int .i64 (x.f 5), .int .i64 (x.f 6), .int .i64 (x.f 7), .slice a1 l1.length c1] 40)).cell? ⟨w2.heap.size, j, none⟩ = some u := fun j u hj => by
       rw [G.cell j, ← hj, List.getElem?_toArray]
       rfl
      have HG2 : Hid _ := G2
      have HOA : Hid _ := OA
      clear G G2 OA
      go_wp2_with (at_builtin; refine wpList_appG (cs := ecs) rfl (.tmp 49) (.tmp 52) Try.underlying22 Try.infoE rfl (by decide) (by decide) ecs_len ecs_one rfl tq co os rfl (HOG2.out.off HOA.out (fun _ _ _ h => h)) w2.heap.size 1 ⟨x.key, x.f, a1, c1, l1⟩ rfl HG2.out (by have := HEL.out; omega) ?_; intro tq' co' w3 ys hys own3 o3 at3; have HOWN3 : Hid _ := own3; have HO3 : Hid _ := o3; have HAT : Hid _ := at3; clear own3 o3 at3)
      go_roundw
      case rel =>
       have fo : Off (fun c => blk tq = some c) w2 w3 := (HOA.out.mono (fun _ _ h => h.elim)).trans HO3.out (fun _ _ h => h)
       have hat : blk tq' = blk tq ∨ blk tq' = some (w2.heap.size + 1) := by
        have e := HAT.out
        simpa [World.size_alloc] using e
       have hap : Apt tq a1 l1 := ⟨fun _ c hc e => by have h1 := HF1.out.row c hc; have h2 := HTO.out c e; omega, fun v hv _ c hc e => by have h1 := HF1.out.val v hv c hc; have h2 := HTO.out c e; omega⟩
       have hsz : wS.heap.size ≤ w2.heap.size := HO2.out.size
       have hww : w.heap.size ≤ wS.heap.size := HOS.out.size
       have hw1 := HSW.out
       refine ⟨n + 1, room - Z, tq', co', ys, rfl, rfl, by go_num, by omega, ⟨HLW.out, by omega⟩, .inr (by rw [hys.out]; simp), ?_, by rw [hys.out, List.length_append]; have := HEL.out; simp; omega, HOWN3.out, ?_, ?_, ?_⟩
       ·refine Eq.trans ?_ HDA.out
        have hd : es.drop n = x :: es.drop (n + 1) := drop_get HX.out
        have hne : ys.isEmpty = false := by rw [hys.out]; simp
        rw [hd, sndF_take HLK.out (HZE.out ▸ HCN.out), hys.out, snoc_abs, absE_cons, HZE.out, List.append_assoc]
        congr 1
        rw [← hys.out, hne]
        show [(⟨x.key, x.f, cont l1⟩ : K)] ++ _ = _
        rw [HC1.out]
        rfl
       ·intro e he
        rw [hys.out, List.mem_append, List.mem_singleton] at he
        rcases he with he | rfl
        ·exact ⟨(HRS2.out e he).2.1.row_off (HRS2.out e he).1 fo, (HRS2.out e he).2.1.step (HRS2.out e he).1 (by omega) hat, (HRS2.out e he).2.2⟩
        ·exact ⟨hap.row_off HR1.out fo, hap.step HR1.out (by omega) hat, HF1.out.mono (by omega)⟩
       ·intro c hc
        rcases hat with h | h
        ·exact HNW.out c (h ▸ hc)
        ·rw [h] at hc
         simp at hc
         omega
       ·exact HO2.out.trans fo (fun i hi h => by have := HNW.out i h; omega)
      case measure => simp [intOf]; omega
  ·obtain rfl : n = es.length := by omega
   have e1 : decide ((es.length : Int) < (es.length : Int)) = false := decide_eq_false (by omega)
   have e2 : decide (es.length < es.length) = false := decide_eq_false (by omega)
   go_wp2_with fail
   go_ret
   have hda := HDA.out
   rw [List.drop_length] at hda
   exact ⟨tq, co, os, rfl, by rw [HRR.out, ← hda]; simp [absE, sndF], HOG.out, fun e he => ⟨(HRS.out e he).1, (HRS.out e he).2.2⟩, fun k hk => Nat.le_trans HOS.out.size (HNW.out k hk), HOS.out.trans HO.out (fun _ _ h => h)⟩
end Go.Proofs.Ytpnnpdfmoldiiaa
