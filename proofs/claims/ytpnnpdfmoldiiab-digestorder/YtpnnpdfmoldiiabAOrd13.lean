/- Items of several texts. -/
import Derived.Test.YtpnnpdfmoldiiabABks
import Derived.Test.YtpnnpdfmoldiiabABel13
namespace Go.Proofs.Ytpnnpdfmoldiiab
set_option maxRecDepth 100000
open Go.RowKit
theorem okS {q : Nat} {xs : List E} {w : World} (h : RTab q xs w) : Sor E.key xs := h.sor
theorem snd_at {gs : List G} {xs os : List E} (h : absE os = absE (xs.filter (lackK gs))) {n : Nat} {e : E} (he : os[n]? = some e) : ∃ x, (xs.filter (lackK gs))[n]? = some x ∧ x.abs = e.abs := by
 have h1 : (absE os)[n]? = some e.abs := by simp [absE, he]
 rw [h] at h1
 obtain ⟨x, hx, ex⟩ : ∃ x, (xs.filter (lackK gs))[n]? = some x ∧ x.abs = e.abs := by simpa [absE] using h1
 exact ⟨x, hx, ex⟩
theorem lack_abs {gs : List G} {x e : E} (h : x.abs = e.abs) : lackK gs x = lackK gs e := by
 have h1 : x.key = e.key := congrArg K.key h
 have h2 : x.f = e.f := congrArg K.f h
 have h3 : cont x.l = cont e.l := congrArg K.l h
 unfold lackK
 rw [h1, h2, h3]
theorem snd_lack {gs : List G} {xs os : List E} (h : absE os = absE (xs.filter (lackK gs))) {n : Nat} {e : E} (he : os[n]? = some e) : lackK gs e = true := by
 obtain ⟨x, hx, ex⟩ := snd_at h he
 rw [← lack_abs ex]
 exact (List.mem_filter.1 (List.mem_of_getElem? hx)).2
theorem snd_get {gs : List G} {xs os : List E} (hs : Sor E.key xs) (h : absE os = absE (xs.filter (lackK gs))) {n : Nat} {e : E} (he : os[n]? = some e) : (fndG E.key e.key xs).isSome = true ∧ sameS (getE xs e.key).f e.f (cont (getE xs e.key).l) (cont e.l) = true := by
 obtain ⟨x, hx, ex⟩ := snd_at h he
 have h1 : x.key = e.key := congrArg K.key ex
 have h2 : x.f = e.f := congrArg K.f ex
 have h3 : cont x.l = cont e.l := congrArg K.l ex
 have hf := (fnd_some E.key hs (k := e.key)).2 ⟨(List.mem_filter.1 (List.mem_of_getElem? hx)).1, h1⟩
 unfold getE
 rw [hf]
 refine ⟨rfl, ?_⟩
 show sameS x.f e.f (cont x.l) (cont e.l) = true
 rw [h2, h3]
 exact same_refl _ _
theorem snd_few {gs : List G} {xs os : List E} (ok : OkT (absE xs)) (h : absE os = absE (xs.filter (lackK gs))) {n : Nat} {e : E} (he : os[n]? = some e) : e.l.length ≤ 1000 := by
 obtain ⟨x, hx, ex⟩ := snd_at h he
 have h3 : cont x.l = cont e.l := congrArg K.l ex
 have h4 := (okT_okN ok x (List.mem_filter.1 (List.mem_of_getElem? hx)).1).few
 have h5 := congrArg List.length h3
 rw [cont_len, cont_len] at h5
 omega
theorem snd_rise {gs : List G} {xs os : List E} (hs : Sor E.key xs) (h : absE os = absE (xs.filter (lackK gs))) {n : Nat} {y e : E} (hy : os[n - 1]? = some y) (he : os[n]? = some e) (hn : 0 < n) : blt y.key e.key = true := by
 obtain ⟨x, hx, ex⟩ := snd_at h he
 obtain ⟨z, hz, ez⟩ := snd_at h hy
 have hp : Sor E.key (xs.filter (lackK gs)) := List.Pairwise.sublist List.filter_sublist hs
 obtain ⟨l1, e1⟩ := List.getElem?_eq_some_iff.1 hx
 obtain ⟨l2, e2⟩ := List.getElem?_eq_some_iff.1 hz
 have := List.pairwise_iff_getElem.1 hp (n - 1) n l2 l1 (by omega)
 rw [e1, e2] at this
 have k1 : x.key = e.key := congrArg K.key ex
 have k2 : z.key = y.key := congrArg K.key ez
 rwa [k1, k2] at this
theorem lack_first {gs : List G} {x : E} (h : lackK gs x = true) {m : Nat} {g : G} (hg : gs[m]? = some g) (hk : g.key = x.key) (hno : ∀ i g, i < m → gs[i]? = some g → g.key ≠ x.key) : lacksB x.key x.f (cont x.l) g.abs = true := by
 have hf : fstK gs x.key = some g := by
  unfold fstK
  obtain ⟨l1, e1⟩ := List.getElem?_eq_some_iff.1 hg
  rw [List.find?_eq_some_iff_getElem]
  refine ⟨by simpa using hk, m, l1, e1, fun j hj => ?_⟩
  have := hno j gs[j] hj (List.getElem?_eq_getElem (by omega))
  simpa using this
 unfold lackK at h
 rw [hf] at h
 exact h
set_option maxHeartbeats 4000000 in
theorem order_walk (a : Option Addr) (cap : Nat) (es : List E) (tg : Option Addr) (cg : Nat) (gs : List G) (w : World) (hE : Ens w a cap es) (_ : ∀ e ∈ es, e.key.size ≤ maxLen ∧ (∀ j, j < 8 → -9223372036854775808 ≤ e.f j ∧ e.f j ≤ 9223372036854775807)) (hG : Dgs w tg cg gs) (_ : ∀ e ∈ gs, e.key.size ≤ reachBytes ∧ RgD e.ds ∧ RgF e.f) :
  Calls Try.prog 5 #[.slice a es.length cap, .slice tg gs.length cg] w fun e w' => e = .returned (.bool true) ∧ Off (fun _ => False) w w' := by
 have HE : Hid _ := hE
 have HG : Hid _ := hG
 have hnot := not_any
 have hb := hE.bound
 have hb2 := hE.len
 have hb3 := hG.bound
 have hb4 := hG.len
 clear hE hG
 go_enter Try.func5, Try.ntmps5
 go_wp2_with fail
 refine (light_any a cap es _ HE.out).mono ?_
 rintro e w1 ⟨rfl, o1⟩
 have H1 : Hid _ := o1
 clear o1
 cases hlt : light13 es
 ·go_wp2_with fail
  refine (awake_any _).mono ?_
  rintro e ua ⟨rfl, oa⟩
  go_wp2_with fail
  go_ret
  exact ⟨rfl, H1.out.trans oa (fun _ _ h => h)⟩
 clear hlt
 go_wp2_with fail
 refine (thin_any tg cg gs _ (HG.out.off H1.out)).mono ?_
 rintro e w3 ⟨rfl, o2⟩
 have H3 : Hid _ := H1.out.trans o2 (fun _ _ h => h)
 clear o2
 cases htn : thinG gs
 ·go_wp2_with fail
  refine (awake_any _).mono ?_
  rintro e ua ⟨rfl, oa⟩
  go_wp2_with fail
  go_ret
  exact ⟨rfl, H3.out.trans oa (fun _ _ h => h)⟩
 have HTN : Hid _ := thin_iff.1 htn
 clear htn
 go_wp2_with fail
 refine (lmay_any a cap es _ (HE.out.off H3.out)).mono ?_
 rintro e w2 ⟨rfl, o2⟩
 have H2 : Hid _ := H3.out.trans o2 (fun _ _ h => h)
 clear o2
 cases hmy : mayEs es
 ·go_wp2_with fail
  refine (awake_any _).mono ?_
  rintro e ua ⟨rfl, oa⟩
  go_wp2_with fail
  go_ret
  exact ⟨rfl, H2.out.trans oa (fun _ _ h => h)⟩
 clear hmy
 go_upto_region 4 with fail
 have CT := Cel.new w2 40 #[.slice none 0 0]
 have OT : Off (fun _ => False) w2 (w2.alloc (.cells #[.slice none 0 0] 40)) := (Off.refl _ w2).alloc _
 have hqs : w.heap.size ≤ w2.heap.size := H2.out.size
 generalize hqt : w2.heap.size = q at CT hqs ⊢
 generalize hvt : w2.alloc (.cells #[.slice none 0 0] 40) = V at CT OT ⊢
 clear hqt hvt
 have HO0 : Hid _ := H2.out.trans OT (fun _ _ h => h)
 have HT0 : Hid (RTab q [] V) := ⟨⟨none, 0, CT, ens_none V, fun _ => rfl⟩, List.Pairwise.nil, by simp⟩
 have HQ : Hid (w.heap.size ≤ q) := hqs
 clear CT OT hqs
 go_wp2_with fail
 go_loopw [33] (fun y wr => ∃ (n : Nat) (xs : List E), y = .int .i64 (n : Int) ∧ n ≤ es.length ∧ RTab q xs wr ∧ OkT (absE xs) ∧ Off (fun _ => False) w wr) (fun y _ => (es.length - intOf y).toNat)
 case atStart => exact ⟨0, [], rfl, by omega, HT0.out, okT_nil, HO0.out⟩
 case round =>
  obtain ⟨n, xs, rfl, hn, ht, ok, O⟩ := hrel
  have HT : Hid _ := ht
  have HOK : Hid _ := ok
  have HO : Hid _ := O
  have hE := HE.out.off O
  clear ht ok O HT0 HO0
  by_cases hlt : n < es.length
  ·have e1 : decide ((n : Int) < (es.length : Int)) = true := decide_eq_true (by omega)
   have e2 : decide (n < es.length) = true := decide_eq_true hlt
   obtain ⟨x, hx⟩ : ∃ x, es[n]? = some x := ⟨_, List.getElem?_eq_getElem hlt⟩
   obtain ⟨bx, ox, rfl, kx, rx⟩ := hE.at_ n x hx
   obtain ⟨k0, k1, k2, k3, k4, k5, k6, k7, k8, k9⟩ := ent10 kx
   have hix := idx_ents hlt
   clear kx hE hx
   go_upto_region 7 with fail
   have Cq4 := Cel.new wr 35 #[.string x.key, .int .i64 (x.f 0), .int .i64 (x.f 1), .int .i64 (x.f 2), .int .i64 (x.f 3), .int .i64 (x.f 4), .int .i64 (x.f 5), .int .i64 (x.f 6), .int .i64 (x.f 7), .slice x.a x.l.length x.cap]
   have OA : Off (fun _ => False) wr (wr.alloc (.cells #[.string x.key, .int .i64 (x.f 0), .int .i64 (x.f 1), .int .i64 (x.f 2), .int .i64 (x.f 3), .int .i64 (x.f 4), .int .i64 (x.f 5), .int .i64 (x.f 6), .int .i64 (x.f 7), .slice x.a x.l.length x.cap] 35)) := (Off.refl _ wr).alloc _
   generalize hq : wr.heap.size = q4 at Cq4 ⊢
   generalize hv : wr.alloc (.cells #[.string x.key, .int .i64 (x.f 0), .int .i64 (x.f 1), .int .i64 (x.f 2), .int .i64 (x.f 3), .int .i64 (x.f 4), .int .i64 (x.f 5), .int .i64 (x.f 6), .int .i64 (x.f 7), .slice x.a x.l.length x.cap] 35) = V4 at Cq4 OA ⊢
   clear hq hv k0 k1 k2 k3 k4 k5 k6 k7 k8 k9 hix
   obtain ⟨y0, y1, y2, y3, y4, y5, y6, y7, y8, y9⟩ := cel10 Cq4
   have HOA : Hid _ := HO.out.trans OA (fun _ _ h => h)
   have HRX : Hid _ := rx.off OA
   have HT4 : Hid _ := HT.out.free OA
   clear OA Cq4 rx
   go_wp2_with fail
   refine (rjoin_any q xs x.key x.f x.a x.cap x.l _ HT4.out HRX.out).mono ?_
   rintro e w1 ⟨g9, a9, c9, l9, sm, er, xs', rfl, hj, -, ht', o1⟩
   clear y0 y1 y2 y3 y4 y5 y6 y7 y8 y9
   have HT1 : Hid _ := ht'
   have HOK1 : Hid (OkT (absE xs')) := by
    have h := okT_join HOK.out x.key x.f (cont x.l)
    rw [hj] at h
    exact h
   have HO1 : Hid (Off (fun _ => False) w w1) := HOA.out.trans o1 (fun k hk e => absurd hk (by have := HQ.out; omega))
   clear ht' hj o1
   go_wp2_with fail
   go_roundw
   case rel => exact ⟨n + 1, xs', by go_num, by omega, HT1.out, HOK1.out, HO1.out⟩
   case measure => simp [intOf]; omega
  ·obtain rfl : n = es.length := by omega
   have e1 : decide ((es.length : Int) < (es.length : Int)) = false := decide_eq_false (by omega)
   have e2 : decide (es.length < es.length) = false := decide_eq_false (by omega)
   clear hlt hE
   obtain ⟨ta, tc, ct, en, -⟩ := HT.out.is
   have HEN : Hid _ := en
   have HF : Hid (xs.length ≤ 256) := HT.out.few
   have z0 : wr.cell? ⟨q, 0, none⟩ = some (.slice ta xs.length tc) := ct.cell 0
   clear ct en
   go_wp2_with fail
   clear z0
   refine (send_any ta tg tc cg xs gs 1099511627776 (by omega) _ HEN.out (HG.out.off HO.out) (by have := HTN.out.1; omega) (by have := HF.out; omega) (okT_okN HOK.out)).mono ?_
   rintro e v2 ⟨tq, co, os, rfl, hos, own2, rows2, -, o2⟩
   have HOS : Hid (absE os = absE (xs.filter (lackK gs))) := by
    show _ = _
    rw [hos, snd_room HOK.out HF.out gs _ (by omega)]
   have HEO : Hid (Ens v2 tq co os) := own2.ens (fun e he => (rows2 e he).1)
   have HRV : Hid (∀ x ∈ os, Row v2 x.a x.cap x.l) := fun x hx => (rows2 x hx).1
   have HO2 : Hid _ := HO.out.trans o2 (fun _ _ h => h)
   have HTV : Hid _ := HT.out.free o2
   have HGV : Hid _ := HG.out.off HO2.out
   have hosl : os.length ≤ 9223372036854775807 := Nat.le_trans HEO.out.len HEO.out.bound
   clear hos own2 rows2 o2
   go_wp2_with fail
   go_loopw [49] (fun y wr => ∃ n : Nat, y = .int .i64 (n : Int) ∧ n ≤ os.length ∧ Off (fun _ => False) v2 wr) (fun y _ => (os.length - intOf y).toNat)
   case atStart => exact ⟨0, rfl, by omega, Off.refl _ _⟩
   case round =>
    obtain ⟨n, rfl, hn, O⟩ := hrel
    have HP : Hid _ := O
    clear O
    by_cases hlt2 : n < os.length
    ·have e1 : decide ((n : Int) < (os.length : Int)) = true := decide_eq_true (by omega)
     have e2 : decide (n < os.length) = true := decide_eq_true hlt2
     obtain ⟨x, hx⟩ : ∃ x, os[n]? = some x := ⟨_, List.getElem?_eq_getElem hlt2⟩
     obtain ⟨bx, ox, e9, kx, rx⟩ := (HEO.out.off HP.out).at_ n x hx
     subst e9
     obtain ⟨k0, k1, k2, k3, k4, k5, k6, k7, k8, k9⟩ := ent10 kx
     have hix := idx_ents hlt2
     clear kx
     have HXX : Hid _ := snd_get (okS HTV.out) HOS.out hx
     have HLX : Hid _ := snd_lack HOS.out hx
     have HFX : Hid (x.l.length ≤ 1000) := snd_few HOK.out HOS.out hx
     go_upto_region 13 with fail
     have C10 := Cel.new wr 35 #[.string x.key, .int .i64 (x.f 0), .int .i64 (x.f 1), .int .i64 (x.f 2), .int .i64 (x.f 3), .int .i64 (x.f 4), .int .i64 (x.f 5), .int .i64 (x.f 6), .int .i64 (x.f 7), .slice x.a x.l.length x.cap]
     have OA : Off (fun _ => False) wr (wr.alloc (.cells #[.string x.key, .int .i64 (x.f 0), .int .i64 (x.f 1), .int .i64 (x.f 2), .int .i64 (x.f 3), .int .i64 (x.f 4), .int .i64 (x.f 5), .int .i64 (x.f 6), .int .i64 (x.f 7), .slice x.a x.l.length x.cap] 35)) := (Off.refl _ wr).alloc _
     generalize hq : wr.heap.size = q10 at C10 ⊢
     generalize hv : wr.alloc (.cells #[.string x.key, .int .i64 (x.f 0), .int .i64 (x.f 1), .int .i64 (x.f 2), .int .i64 (x.f 3), .int .i64 (x.f 4), .int .i64 (x.f 5), .int .i64 (x.f 6), .int .i64 (x.f 7), .slice x.a x.l.length x.cap] 35) = V5 at C10 OA ⊢
     clear hq hv k0 k1 k2 k3 k4 k5 k6 k7 k8 k9 hix
     have HP5 : Hid _ := HP.out.trans OA (fun _ _ h => h)
     have HRX5 : Hid _ := rx.off OA
     have HRXV : Hid _ := rx
     have HC10 : Hid _ := C10
     clear OA rx
     go_cut [66] from 54 to 66 (fun b wc => b = .bool false ∧ Off (fun _ => False) V5 wc)
     case first =>
      by_cases h0 : n = 0
      ·subst h0
       clear hx C10
       refine wp_region_held_drew (S := Off (fun _ => False) V5) (by kernel_rfl) ((Off.refl _ V5).drew) (fun hS => ?_)
       refine take_at (i := 0) 54 (v := .int .i64 0) rfl rfl (by kernel_rfl) (by kernel_rfl) (by kernel_rfl) (fun _ _ _ h => h) (Or.inl ⟨by rfl, fun w' hw' => by go_simp⟩) hS ?_
       simp only [Act.put, lsA, lsZ, lsS]
       refine take_at (i := 1) 55 (v := .bool false) rfl rfl (by kernel_rfl) (by kernel_rfl) (by kernel_rfl) (fun _ _ _ h => h) (Or.inl ⟨by rfl, fun w' hw' => by go_simp⟩) hS ?_
       simp only [Act.put, lsA, lsZ, lsS]
       refine take_at (i := 2) 56 (v := .bool false) rfl rfl (by kernel_rfl) (by kernel_rfl) (by kernel_rfl) (fun _ _ _ h => h) (Or.inl ⟨by rfl, fun w' hw' => by go_simp⟩) hS ?_
       simp only [Act.put, lsA, lsZ, lsS]
       refine take_at (i := 3) 57 (v := undef) rfl rfl (by kernel_rfl) (by kernel_rfl) (by kernel_rfl) (fun _ _ _ h => h) (Or.inr ⟨by rfl, rfl⟩) hS ?_
       simp only [Act.put, lsA, lsZ, lsS]
       refine take_at (i := 4) 58 (v := undef) rfl rfl (by kernel_rfl) (by kernel_rfl) (by kernel_rfl) (fun _ _ _ h => h) (Or.inr ⟨by rfl, rfl⟩) hS ?_
       simp only [Act.put, lsA, lsZ, lsS]
       refine take_at (i := 5) 59 (v := undef) rfl rfl (by kernel_rfl) (by kernel_rfl) (by kernel_rfl) (fun _ _ _ h => h) (Or.inr ⟨by rfl, rfl⟩) hS ?_
       simp only [Act.put, lsA, lsZ, lsS]
       refine take_at (i := 6) 60 (v := undef) rfl rfl (by kernel_rfl) (by kernel_rfl) (by kernel_rfl) (fun _ _ _ h => h) (Or.inr ⟨by rfl, rfl⟩) hS ?_
       simp only [Act.put, lsA, lsZ, lsS]
       refine take_at (i := 7) 61 (v := undef) rfl rfl (by kernel_rfl) (by kernel_rfl) (by kernel_rfl) (fun _ _ _ h => h) (Or.inr ⟨by rfl, rfl⟩) hS ?_
       simp only [Act.put, lsA, lsZ, lsS]
       refine take_at (i := 8) 62 (v := undef) rfl rfl (by kernel_rfl) (by kernel_rfl) (by kernel_rfl) (fun _ _ _ h => h) (Or.inr ⟨by rfl, rfl⟩) hS ?_
       simp only [Act.put, lsA, lsZ, lsS]
       refine take_at (i := 9) 63 (v := undef) rfl rfl (by kernel_rfl) (by kernel_rfl) (by kernel_rfl) (fun _ _ _ h => h) (Or.inr ⟨by rfl, rfl⟩) hS ?_
       simp only [Act.put, lsA, lsZ, lsS]
       refine take_at (i := 10) 64 (v := undef) rfl rfl (by kernel_rfl) (by kernel_rfl) (by kernel_rfl) (fun _ _ _ h => h) (Or.inr ⟨by rfl, rfl⟩) hS ?_
       simp only [Act.put, lsA, lsZ, lsS]
       refine take_at (i := 11) 65 (v := undef) rfl rfl (by kernel_rfl) (by kernel_rfl) (by kernel_rfl) (fun _ _ _ h => h) (Or.inr ⟨by rfl, rfl⟩) hS ?_
       simp only [Act.put, lsA, lsZ, lsS]
       refine take_at (i := 12) 66 (v := .bool false) rfl rfl (by kernel_rfl) (by kernel_rfl) (by kernel_rfl) (fun _ _ _ h => h) (Or.inl ⟨by rfl, fun w' hw' => by go_simp⟩) hS ?_
       simp only [Act.put, lsA, lsZ, lsS]
       refine wpAnyH_done (by kernel_rfl) ?_ _
       go_wp2_with fail
       go_meet
       case rel => exact ⟨rfl, hS⟩
      ·obtain ⟨y, hy⟩ : ∃ y, os[n - 1]? = some y := ⟨_, List.getElem?_eq_getElem (by omega)⟩
       have hn1 : n - 1 < os.length := by omega
       obtain ⟨by_, oy, ey, ky, -⟩ := (HEO.out.off HP5.out).at_ (n - 1) y hy
       obtain ⟨rfl, rfl⟩ : bx = by_ ∧ ox = oy := by simpa using ey
       have HKY : Hid (∀ w', Off (fun _ => False) V5 w' → w'.cell? ⟨bx, ox + (n - 1) * 10, none⟩ = some (.string y.key)) := fun w' o => by
        have h := (ent10 ky).1
        rw [← h]
        exact World.cell?_of_block (a := ⟨bx, ox + (n - 1) * 10, none⟩) (o.block bx (cell_lt h) (fun h => h))
       have HLS : Hid (Op.bytesLess y.key.toList x.key.toList = true) := by
        show _ = true
        rw [less_kb]
        exact snd_rise (okS HTV.out) HOS.out hy hx (by omega)
       clear ey ky hy hx C10
       refine wp_region_held_drew (S := Off (fun _ => False) V5) (by kernel_rfl) ((Off.refl _ V5).drew) (fun hS => ?_)
       refine take_at (i := 0) 54 (v := .int .i64 (n : Int)) rfl rfl (by kernel_rfl) (by kernel_rfl) (by kernel_rfl) (fun _ _ _ h => h) (Or.inl ⟨by rfl, fun w' hw' => by go_simp⟩) hS ?_
       simp only [Act.put, lsA, lsZ, lsS]
       refine take_at (i := 1) 55 (v := .bool true) rfl rfl (by kernel_rfl) (by kernel_rfl) (by kernel_rfl) (fun _ _ _ h => h) (Or.inl ⟨by rfl, fun w' hw' => by go_simp; omega⟩) hS ?_
       simp only [Act.put, lsA, lsZ, lsS]
       refine take_at (i := 2) 56 (v := .bool true) rfl rfl (by kernel_rfl) (by kernel_rfl) (by kernel_rfl) (fun _ _ _ h => h) (Or.inl ⟨by rfl, fun w' hw' => by go_simp⟩) hS ?_
       simp only [Act.put, lsA, lsZ, lsS]
       refine take_at (i := 3) 57 (v := .slice (some ⟨bx, ox, none⟩) os.length co) rfl rfl (by kernel_rfl) (by kernel_rfl) (by kernel_rfl) (fun _ _ _ h => h) (Or.inl ⟨by rfl, fun w' hw' => by go_simp⟩) hS ?_
       simp only [Act.put, lsA, lsZ, lsS]
       refine take_at (i := 4) 58 (v := .int .i64 (n : Int)) rfl rfl (by kernel_rfl) (by kernel_rfl) (by kernel_rfl) (fun _ _ _ h => h) (Or.inl ⟨by rfl, fun w' hw' => by go_simp⟩) hS ?_
       simp only [Act.put, lsA, lsZ, lsS]
       refine take_at (i := 5) 59 (v := .int .i64 ((n - 1 : Nat) : Int)) rfl rfl (by kernel_rfl) (by kernel_rfl) (by kernel_rfl) (fun _ _ _ h => h) (Or.inl ⟨by rfl, fun w' hw' => by go_simp; rw [IntKind.wrap_i64]; omega⟩) hS ?_
       simp only [Act.put, lsA, lsZ, lsS]
       refine take_at (i := 6) 60 (v := .pointer (some ⟨bx, ox + (n - 1) * 10, none⟩)) rfl rfl (by kernel_rfl) (by kernel_rfl) (by kernel_rfl) (fun _ _ _ h => h) (Or.inl ⟨by rfl, fun w' hw' => exec_idx10 rfl (idx_ents hn1 co bx ox w')⟩) hS ?_
       simp only [Act.put, lsA, lsZ, lsS]
       refine take_at (i := 7) 61 (v := .pointer (some ⟨bx, ox + (n - 1) * 10, none⟩)) rfl rfl (by kernel_rfl) (by kernel_rfl) (by kernel_rfl) (fun _ _ _ h => h) (Or.inl ⟨by rfl, fun w' hw' => by go_simp⟩) hS ?_
       simp only [Act.put, lsA, lsZ, lsS]
       refine take_at (i := 8) 62 (v := .string y.key) rfl rfl (by kernel_rfl) (by kernel_rfl) (by kernel_rfl) (fun _ _ _ h => h) (Or.inl ⟨by rfl, fun w' hw' => by have z0 := HKY.out w' hw'; go_simp⟩) hS ?_
       simp only [Act.put, lsA, lsZ, lsS]
       refine take_at (i := 9) 63 (v := .pointer (some ⟨q10, 0, none⟩)) rfl rfl (by kernel_rfl) (by kernel_rfl) (by kernel_rfl) (fun _ _ _ h => h) (Or.inl ⟨by rfl, fun w' hw' => by go_simp⟩) hS ?_
       simp only [Act.put, lsA, lsZ, lsS]
       refine take_at (i := 10) 64 (v := .string x.key) rfl rfl (by kernel_rfl) (by kernel_rfl) (by kernel_rfl) (fun _ _ _ h => h) (Or.inl ⟨by rfl, fun w' hw' => by have z0 := (HC10.out.off hw' (fun h => h)).cell 0; simp at z0; go_simp⟩) hS ?_
       simp only [Act.put, lsA, lsZ, lsS]
       refine take_at (i := 11) 65 (v := .bool false) rfl rfl (by kernel_rfl) (by kernel_rfl) (by kernel_rfl) (fun _ _ _ h => h) (Or.inl ⟨by rfl, fun w' hw' => exec_bin10 rfl (by go_simp) (geq_str HLS.out _ w')⟩) hS ?_
       simp only [Act.put, lsA, lsZ, lsS]
       refine take_at (i := 12) 66 (v := .bool false) rfl rfl (by kernel_rfl) (by kernel_rfl) (by kernel_rfl) (fun _ _ _ h => h) (Or.inl ⟨by rfl, fun w' hw' => by go_simp⟩) hS ?_
       simp only [Act.put, lsA, lsZ, lsS]
       refine wpAnyH_done (by kernel_rfl) ?_ _
       go_wp2_with fail
       go_meet
       case rel => exact ⟨rfl, hS⟩
     case rest =>
      obtain ⟨rfl, o⟩ := hcut
      have HP5b : Hid _ := HP5.out.trans o (fun _ _ h => h)
      have HRX5b : Hid _ := HRX5.out.off o
      have C10b := HC10.out.off o (fun h => h)
      obtain ⟨y0, y1, y2, y3, y4, y5, y6, y7, y8, y9⟩ := cel10 C10b
      clear HC10 HP5 HRX5 C10
      have HC10 : Hid _ := C10b
      have HP5 : Hid _ := HP5b.out
      have HRX5 : Hid (Row v2 x.a x.cap x.l) := HRV.out x (List.mem_of_getElem? hx)
      clear hx o C10b HP5b HRX5b
      go_wp2_with fail
      clear y0 y1 y2 y3 y4 y5 y6 y7 y8 y9
      refine (rget_any q xs x.key _ (HTV.out.free HP5.out)).mono ?_
      rintro e w6 ⟨rfl, rw6, o6⟩
      obtain ⟨hsm, hsame⟩ := HXX.out
      rw [hsm]
      have HP6 : Hid _ := HP5.out.trans o6 (fun _ _ h => h)
      have HO56 : Hid _ := o6
      have HR6 : Hid _ := rw6
      have HSS : Hid _ := hsame
      generalize getE xs x.key = z at *
      clear o6 rw6 hsm hsame
      have C11 := Cel.new w6 33 #[.int .i64 (z.f 0), .int .i64 (z.f 1), .int .i64 (z.f 2), .int .i64 (z.f 3), .int .i64 (z.f 4), .int .i64 (z.f 5), .int .i64 (z.f 6), .int .i64 (z.f 7), .slice z.a z.l.length z.cap]
      have OA6 : Off (fun _ => False) w6 (w6.alloc (.cells #[.int .i64 (z.f 0), .int .i64 (z.f 1), .int .i64 (z.f 2), .int .i64 (z.f 3), .int .i64 (z.f 4), .int .i64 (z.f 5), .int .i64 (z.f 6), .int .i64 (z.f 7), .slice z.a z.l.length z.cap] 33)) := (Off.refl _ w6).alloc _
      go_upto_region 16 with fail
      generalize hq : w6.heap.size = q11 at C11 ⊢
      generalize hv : w6.alloc (.cells #[.int .i64 (z.f 0), .int .i64 (z.f 1), .int .i64 (z.f 2), .int .i64 (z.f 3), .int .i64 (z.f 4), .int .i64 (z.f 5), .int .i64 (z.f 6), .int .i64 (z.f 7), .slice z.a z.l.length z.cap] 33) = V6 at C11 OA6 ⊢
      clear hq hv
      have HP6b : Hid _ := HP6.out.trans OA6 (fun _ _ h => h)
      have HRZ : Hid _ := HR6.out.off OA6
      obtain ⟨z0, z1, z2, z3, z4, z5, z6, z7, z8⟩ := cel9 C11
      have C10b := HC10.out.off ((HO56.out.trans OA6 (fun _ _ h => h))) (fun h => h)
      obtain ⟨y0, y1, y2, y3, y4, y5, y6, y7, y8, y9⟩ := cel10 C10b
      have HC106 : Hid _ := C10b
      clear OA6 C11 C10b HR6
      go_wp2_with fail
      clear y0 y1 y2 y3 y4 y5 y6 y7 y8 y9 z0 z1 z2 z3 z4 z5 z6 z7 z8
      have hs9 := ssame_any z.f x.f z.a x.a z.cap x.cap z.l x.l _ HRZ.out (HRX5.out.off HP6b.out)
      rw [HSS.out] at hs9
      refine hs9.mono ?_
      rintro e V7 ⟨rfl, o7⟩
      have HP7 : Hid _ := HP6b.out.trans o7 (fun _ _ h => h)
      have HC107 : Hid _ := HC106.out.off o7 (fun h => h)
      clear o7 hs9 HC10 HC106
      have HC10 : Hid _ := HC107.out
      clear HC107
      have HG7 : Hid _ := HGV.out.off HP7.out
      have HRX : Hid _ := HRX5.out.off HP7.out
      go_wp2_with fail
      go_loopw [85] (fun y wr => ∃ m : Nat, y = .int .i64 (m : Int) ∧ m ≤ gs.length ∧ (∀ i g, i < m → gs[i]? = some g → g.key ≠ x.key) ∧ Off (fun _ => False) V7 wr) (fun y _ => (gs.length - intOf y).toNat)
      case atStart => exact ⟨0, rfl, by omega, fun i g h => by omega, Off.refl _ _⟩
      case round =>
       obtain ⟨m, rfl, hm, hno, O⟩ := hrel
       have HNO : Hid _ := hno
       have HI : Hid _ := O
       clear hno O
       by_cases hlt3 : m < gs.length
       ·have e1 : decide ((m : Int) < (gs.length : Int)) = true := decide_eq_true (by omega)
        have e2 : decide (m < gs.length) = true := decide_eq_true hlt3
        obtain ⟨g, hg⟩ : ∃ g, gs[m]? = some g := ⟨_, List.getElem?_eq_getElem hlt3⟩
        obtain ⟨bg, og, rfl, kg, rg⟩ := (HG7.out.off HI.out).at_ m g hg
        obtain ⟨k0, k1, k2, k3, k4, k5, k6, k7, k8, k9⟩ := dg10 kg
        have hix := idx_dgs hlt3
        clear kg
        go_upto_region 21 with fail
        have C14 := Cel.new wr 50 #[.string g.key, .int .i64 (g.f 0), .int .i64 (g.f 1), .int .i64 (g.f 2), .int .i64 (g.f 3), .int .i64 (g.f 4), .int .i64 (g.f 5), .int .i64 (g.f 6), .int .i64 (g.f 7), .slice g.a g.ds.length g.cap]
        have OA : Off (fun _ => False) wr (wr.alloc (.cells #[.string g.key, .int .i64 (g.f 0), .int .i64 (g.f 1), .int .i64 (g.f 2), .int .i64 (g.f 3), .int .i64 (g.f 4), .int .i64 (g.f 5), .int .i64 (g.f 6), .int .i64 (g.f 7), .slice g.a g.ds.length g.cap] 50)) := (Off.refl _ wr).alloc _
        generalize hq : wr.heap.size = q14 at C14 ⊢
        generalize hv : wr.alloc (.cells #[.string g.key, .int .i64 (g.f 0), .int .i64 (g.f 1), .int .i64 (g.f 2), .int .i64 (g.f 3), .int .i64 (g.f 4), .int .i64 (g.f 5), .int .i64 (g.f 6), .int .i64 (g.f 7), .slice g.a g.ds.length g.cap] 50) = V8 at C14 OA ⊢
        clear hq hv k0 k1 k2 k3 k4 k5 k6 k7 k8 k9 hix
        have HI8 : Hid _ := HI.out.trans OA (fun _ _ h => h)
        have HRG : Hid _ := rg.off OA
        have HC14 : Hid _ := C14
        have C18 := HC10.out.off HI8.out (fun h => h)
        obtain ⟨y0, y1, y2, y3, y4, y5, y6, y7, y8, y9⟩ := cel10 C18
        obtain ⟨k0, k1, k2, k3, k4, k5, k6, k7, k8, k9⟩ := cel10 C14
        clear OA rg C14 C18
        by_cases hk : g.key = x.key
        ·have kq1 : (g.key.toList == x.key.toList) = true := by rw [hk]; simp
         have kq2 : g.key.toList = x.key.toList := by rw [hk]
         have HLK : Hid (lacksB x.key x.f (cont x.l) g.abs = true) := lack_first HLX.out hg hk HNO.out
         clear hk hg
         go_wp2_with fail
         clear y0 y1 y2 y3 y4 y5 y6 y7 y8 y9 k0 k1 k2 k3 k4 k5 k6 k7 k8 k9 kq1 kq2
         have hl9 := lacks_any x g _ (HRX.out.off HI8.out) HFX.out HRG.out
         rw [HLK.out] at hl9
         refine hl9.mono ?_
         rintro e w8 ⟨rfl, o8⟩
         have HI9 : Hid _ := HI8.out.trans o8 (fun _ _ h => h)
         clear o8 hl9
         go_wp2_with fail
         go_roundw
         case rel => exact ⟨n + 1, by go_num, by omega, HP7.out.trans HI9.out (fun _ _ h => h)⟩
         case measure => simp [intOf]; omega
        ·have kq1 : (g.key.toList == x.key.toList) = false := by rw [toL, toL, beq_eq_false_iff_ne]; exact fun e => hk (kb_inj e)
         have HK : Hid _ := hk
         have HGM : Hid _ := hg
         clear hk hg
         go_wp2_with fail
         go_roundw
         case rel =>
          refine ⟨m + 1, by go_num, by omega, fun i y hi hy => ?_, HI8.out⟩
          by_cases e : i = m
          ·subst e
           rw [HGM.out] at hy
           cases hy
           exact HK.out
          ·exact HNO.out i y (by omega) hy
         case measure => simp [intOf]; omega
       ·obtain rfl : m = gs.length := by omega
        have e1 : decide ((gs.length : Int) < (gs.length : Int)) = false := decide_eq_false (by omega)
        have e2 : decide (gs.length < gs.length) = false := decide_eq_false (by omega)
        go_wp2_with fail
        go_roundw
        case rel => exact ⟨n + 1, by go_num, by omega, HP7.out.trans HI.out (fun _ _ h => h)⟩
        case measure => simp [intOf]; omega
    ·obtain rfl : n = os.length := by omega
     have e1 : decide ((os.length : Int) < (os.length : Int)) = false := decide_eq_false (by omega)
     have e2 : decide (os.length < os.length) = false := decide_eq_false (by omega)
     have HZ : Hid _ := HO2.out.trans HP.out (fun _ _ h => h)
     go_wp2_with fail
     refine (awake_any _).mono ?_
     rintro e ua ⟨rfl, oa⟩
     go_wp2_with fail
     go_ret
     exact ⟨rfl, HZ.out.trans oa (fun _ _ h => h)⟩
end Go.Proofs.Ytpnnpdfmoldiiab
