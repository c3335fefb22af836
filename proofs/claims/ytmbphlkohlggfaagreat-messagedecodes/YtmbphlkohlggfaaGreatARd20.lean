/- Items of several texts. -/
import Derived.Deep.Cut
import Derived.Deep.RegionHeld
import Derived.Deep.CutRange
import Derived.Test.YtmbphlkohlggfaaGreatADot5
import Derived.Test.YtmbphlkohlggfaaGreatAQz18
import Derived.Test.YtmbphlkohlggfaaGreatAMay20
import Derived.Test.YtmbphlkohlggfaaGreatASRe
import Derived.Test.YtmbphlkohlggfaaGreatADr0
import Derived.Test.YtmbphlkohlggfaaGreatATh20
namespace Go.Proofs.YtmbphlkohlggfaaGreat
open Go.RowKit
set_option maxRecDepth 100000 in
set_option maxHeartbeats 1500000 in
theorem dread_any {D : Nat → Prop} {b : Nat} {s : RS} {w : World} (hR : Rdr 96 D b s w) :
  Calls Tryz.prog 52 #[.pointer (some ⟨b, 0, none⟩)] w fun e w' => ∃ (key : ByteArray) (h : Nat → Int) (a' : Option Addr) (c' : Nat) (ds : List (Int × Int)), e = .returned (.tuple #[.agg #[.string key, .int .i64 (h 0), .int .i64 (h 1), .int .i64 (h 2), .int .i64 (h 3), .int .i64 (h 4), .int .i64 (h 5), .int .i64 (h 6), .int .i64 (h 7), .slice a' ds.length c'], .bool (drB nodeP s)]) ∧ key = drKey nodeP s ∧ h = drF nodeP s ∧ ds = drL nodeP s ∧ RowD w' a' c' ds ∧ NewA w.heap.size a' ∧ Rdr 96 D b (drS s) w' ∧ Off (fun c => c = b) w w' := by
 have hnot := not_any
 have HB : Hid (b < w.heap.size) := hR.here
 have HLD : Hid (∀ c, D c → c < w.heap.size) := hR.lt
 obtain ⟨kt, hkt⟩ : ∃ x, x = (textS 32 s).1 := ⟨_, rfl⟩
 obtain ⟨s1, hs1⟩ : ∃ x, x = drT s := ⟨_, rfl⟩
 have HE : Hid (textS (32 : Int).toNat s = (kt, s1)) := by show _ = _; rw [hkt, hs1]; rfl
 have HKT : Hid (strOf kt = drK s) := by show _ = _; rw [hkt]; rfl
 obtain ⟨fF, hfF⟩ : ∃ f, f = readF s1 := ⟨_, rfl⟩
 obtain ⟨okB, hokB⟩ : ∃ x, x = readB s1 := ⟨_, rfl⟩
 obtain ⟨cnt, hcn⟩ : ∃ x, x = (countS 16 (rdV s1 8)).1 := ⟨_, rfl⟩
 obtain ⟨s2, hs2⟩ : ∃ x, x = (countS 16 (rdV s1 8)).2 := ⟨_, rfl⟩
 have HCN : Hid (countS 16 (rdV s1 8) = (cnt, s2)) := by show _ = _; rw [hcn, hs2]
 have hok1 : Ok s1 := by rw [hs1]; exact text_ok 32 hR.ok
 have hc16 : cnt ≤ 16 := by rw [hcn]; exact (count_ok 16 (rdV_ok hok1 8)).2.1
 have HDD : Hid (drD nodeP s = rdDs nodeP cnt s2) := by show _ = _; unfold drD; rw [hcn, hs2, hs1]
 have HDS : Hid (drS s = dtSt s2 cnt) := by show _ = _; unfold drS; rw [hcn, hs2, hs1]
 have HFF0 : Hid (fF = readF (drT s)) := by show _ = _; rw [hfF, hs1]
 have HOK0 : Hid (okB = readB (drT s)) := by show _ = _; rw [hokB, hs1]
 have HFF : Hid _ := hfF
 have HOK : Hid _ := hokB
 clear hkt hfF hokB hcn hs2 hok1 hs1
 have C2 := Cel.new w 49 #[.string ⟨#[]⟩, .int .i64 0, .int .i64 0, .int .i64 0, .int .i64 0, .int .i64 0, .int .i64 0, .int .i64 0, .int .i64 0, .slice none 0 0]
 have O : Off (fun _ => False) w (w.alloc (.cells #[.string ⟨#[]⟩, .int .i64 0, .int .i64 0, .int .i64 0, .int .i64 0, .int .i64 0, .int .i64 0, .int .i64 0, .int .i64 0, .slice none 0 0] 49)) := (Off.refl _ w).alloc _
 have R0 := hR.off O (fun h => h) (fun _ _ _ h => h)
 clear hR
 go_enter Tryz.func52, Tryz.ntmps52
 go_upto_region 1 with fail
 generalize hq : w.heap.size = q2 at C2 ⊢
 have HQ2 : Hid (w.heap.size ≤ q2) := by show _ ≤ _; omega
 generalize hv : w.alloc (.cells #[.string ⟨#[]⟩, .int .i64 0, .int .i64 0, .int .i64 0, .int .i64 0, .int .i64 0, .int .i64 0, .int .i64 0, .int .i64 0, .slice none 0 0] 49) = W at C2 O R0 ⊢
 clear hq hv
 go_wp2_with fail
 refine (rtext_any R0 32 (by decide) (by decide)).mono ?_
 rw [HE.out]
 dsimp only
 rintro e w1 ⟨tt, tc, rfl, own, -, R1, o1⟩
 have hcs := conv_src own.src
 rw [HKT.out] at hcs
 obtain ⟨ks, hks⟩ : ∃ x, x = drK s := ⟨_, rfl⟩
 rw [← hks] at hcs
 have HKS : Hid _ := hks
 replace C2 := C2.off o1 (fun e => by have := HB.out; have := HQ2.out; omega)
 have O1 : Off (fun c => c = b) w w1 := (O.mono (fun _ _ h => h.elim)).trans o1 (fun _ _ h => h)
 have HW1 : Hid (w.heap.size ≤ w1.heap.size) := O1.size
 clear R0 o1 O own hks
 go_wp2_with fail
 clear hcs
 refine (vread_any R1).mono ?_
 rw [← HFF.out, ← HOK.out]
 rintro e w2 ⟨rfl, R2, o2⟩
 replace C2 := C2.off o2 (fun e => by have := HB.out; have := HQ2.out; omega)
 have O2 := O1.trans o2 (fun _ _ h => h)
 have hl2 := C2.lt
 clear R1 o2 O1
 go_upto_region 3 with fail
 have C4 := Cel.new w2 41 #[.int .i64 (fF 0), .int .i64 (fF 1), .int .i64 (fF 2), .int .i64 (fF 3), .int .i64 (fF 4), .int .i64 (fF 5), .int .i64 (fF 6), .int .i64 (fF 7)]
 have OA : Off (fun _ => False) w2 (w2.alloc (.cells #[.int .i64 (fF 0), .int .i64 (fF 1), .int .i64 (fF 2), .int .i64 (fF 3), .int .i64 (fF 4), .int .i64 (fF 5), .int .i64 (fF 6), .int .i64 (fF 7)] 41)) := (Off.refl _ w2).alloc _
 generalize hq : w2.heap.size = q4 at C4 ⊢
 generalize hv : w2.alloc (.cells #[.int .i64 (fF 0), .int .i64 (fF 1), .int .i64 (fF 2), .int .i64 (fF 3), .int .i64 (fF 4), .int .i64 (fF 5), .int .i64 (fF 6), .int .i64 (fF 7)] 41) = w3 at C4 OA ⊢
 clear hq hv
 replace C2 := C2.off OA (fun h => h)
 have O3 := O2.trans (OA.mono (fun _ _ h => h.elim)) (fun _ _ h => h)
 have R3 := R2.off OA (fun h => h) (fun _ _ _ h => h)
 have hz2 := OA.size
 clear R2 OA O2
 obtain ⟨x0, x1, x2, x3, x4, x5, x6, x7⟩ := cel8 C4
 go_upto_region 4 with fail
 clear x0 x1 x2 x3 x4 x5 x6 x7
 have C6 := Cel.new w3 49 #[.string ks, .int .i64 (fF 0), .int .i64 (fF 1), .int .i64 (fF 2), .int .i64 (fF 3), .int .i64 (fF 4), .int .i64 (fF 5), .int .i64 (fF 6), .int .i64 (fF 7), .slice none 0 0]
 have OA : Off (fun _ => False) w3 (w3.alloc (.cells #[.string ks, .int .i64 (fF 0), .int .i64 (fF 1), .int .i64 (fF 2), .int .i64 (fF 3), .int .i64 (fF 4), .int .i64 (fF 5), .int .i64 (fF 6), .int .i64 (fF 7), .slice none 0 0] 49)) := (Off.refl _ w3).alloc _
 generalize hq : w3.heap.size = q6 at C6 ⊢
 have hq6 : q2 < q6 := by omega
 have hq7 : w.heap.size ≤ q6 := by have := O3.size; omega
 generalize hv : w3.alloc (.cells #[.string ks, .int .i64 (fF 0), .int .i64 (fF 1), .int .i64 (fF 2), .int .i64 (fF 3), .int .i64 (fF 4), .int .i64 (fF 5), .int .i64 (fF 6), .int .i64 (fF 7), .slice none 0 0] 49) = w4 at C6 OA ⊢
 clear hq hv hz2 hl2
 replace C2 := C2.off OA (fun h => h)
 have O4 := O3.trans (OA.mono (fun _ _ h => h.elim)) (fun _ _ h => h)
 have R4 := R3.off OA (fun h => h) (fun _ _ _ h => h)
 clear R3 OA O3 C4
 have HFF : Hid _ := HFF0.out
 have HOK : Hid _ := HOK0.out
 go_wp2_with fail
 refine (rcount_any R4 16 (by decide) (by decide)).mono ?_
 rw [show countS (16 : Int).toNat (rdV s1 8) = (cnt, s2) from HCN.out]
 dsimp only
 rintro e w8 ⟨rfl, R5, o4⟩
 have HQ6 : Hid (w.heap.size ≤ q6) := hq7
 have HC6 : Hid _ := C6.off o4 (fun e => by have := HB.out; omega)
 have H28 : Hid _ := C2.off o4 (fun e => by have := HB.out; have := HQ2.out; omega)
 have HO8 : Hid (Off (fun c => c = b) w w8) := O4.trans o4 (fun _ _ h => h)
 have HR8 : Hid _ := R5
 have HL6 : Hid (q6 < w8.heap.size) := HC6.out.lt
 have HL2 : Hid (q2 < w8.heap.size) := H28.out.lt
 have HN : Hid (w.heap.size ≤ w8.heap.size) := HO8.out.size
 have HQ26 : Hid (q2 ≠ q6) := by show _ ≠ _; omega
 clear C6 C2 O4 R4 R5 o4 hq6 hq7
 go_wp2_with fail
 go_loopw [21] (fun y wr => ∃ (i : Nat) (lo : List (Int × Int)) (ao : Option Addr) (co : Nat), y = .int .i64 (i : Int) ∧ i ≤ cnt ∧ Cel q6 49 #[.string ks, .int .i64 (fF 0), .int .i64 (fF 1), .int .i64 (fF 2), .int .i64 (fF 3), .int .i64 (fF 4), .int .i64 (fF 5), .int .i64 (fF 6), .int .i64 (fF 7), .slice ao lo.length co] wr ∧ OwnG 93 2 dcs wr ao co lo ∧ (∀ k, blk ao = some k → w8.heap.size ≤ k) ∧ lo.length ≤ i ∧ lo = rdDs nodeP i s2 ∧ Rdr 96 D b (dtSt s2 i) wr ∧ Off (fun c => c = b ∨ c = q6) w8 wr) (fun y _ => (cnt - intOf y).toNat)
 case atStart => exact ⟨0, [], none, 0, rfl, by omega, HC6.out, OwnG.nil _ _ _ _, fun k hk => by simp [blk] at hk, by simp, by simp [rdDs], HR8.out, Off.refl _ _⟩
 case round =>
  clear HC6 HR8
  obtain ⟨i, lo, ao, co, rfl, hi, bx, mk, mka, hlol, hlo, rd, po⟩ := hrel
  have HBX : Hid _ := bx
  have HMK : Hid _ := mk
  have HMA : Hid _ := mka
  have HLO : Hid _ := hlo
  have HRD : Hid _ := rd
  have HPO : Hid (Off (fun c => c = b ∨ c = q6) w8 wr) := po
  clear bx mk mka hlo rd po
  by_cases hil : i < cnt
  ·have i1 : decide ((i : Int) < (cnt : Int)) = true := decide_eq_true (by omega)
   have i2 : decide (i < cnt) = true := decide_eq_true hil
   go_upto_region 6 with fail
   have HSW : Hid (w8.heap.size ≤ wr.heap.size) := HPO.out.size
   refine wp_region_held_drew (S := fun w' => Off (fun c => c = b ∨ c = q6 ∨ blk ao = some c) wr w') (by kernel_rfl) ((Off.refl _ wr).drew) (fun hS => ?_)
   have BX := HBX.out.drew
   have OWN := HMK.out.off ((Off.refl (fun _ => False) wr).drew) (fun _ _ _ h => h)
   have RD := HRD.out.off ((Off.refl (fun _ => False) wr).drew) (fun h => h) (fun _ _ _ h => h)
   have MKA : Hid (∀ k, blk ao = some k → w8.heap.size ≤ k) := HMA.out
   have hv1 : wr.drew.heap.size = wr.heap.size := rfl
   generalize hdr : wr.drew = va at BX OWN RD hS hv1 ⊢
   clear hdr
   refine take_at (i := 0) 23 (v := .pointer (some ⟨q6, 9, none⟩)) rfl rfl (by kernel_rfl) (by kernel_rfl) (by kernel_rfl) (fun _ _ _ h => h) (Or.inl ⟨by rfl, fun w' hw' => by go_simp⟩) hS ?_
   simp only [Act.put, lsA, lsZ, lsS]
   refine take_at (i := 2) 25 (v := .pointer (some ⟨b, 0, none⟩)) rfl rfl (by kernel_rfl) (by kernel_rfl) (by kernel_rfl) (fun _ _ _ h => h) (Or.inl ⟨by rfl, fun w' hw' => by go_simp⟩) hS ?_
   simp only [Act.put, lsA, lsZ, lsS]
   refine wpAnyH_ready (rs := [1, 3]) (by kernel_rfl) (by simp) ?_
   refine AllReadyH.cons rfl (fun K' hK' => ?_) (AllReadyH.cons rfl (fun K' hK' => ?_) AllReadyH.nil)
   ·obtain ⟨y0, y1, y2, y3, y4, y5, y6, y7, y8, y9⟩ := cel10 BX
    go_simp
    refine hK'.out _ _ hS (fun hS => ?_)
    clear hK' K' y0 y1 y2 y3 y4 y5 y6 y7 y8 y9
    refine wpAnyH_ready (rs := [3]) (by kernel_rfl) (by simp) ?_
    refine AllReadyH.cons rfl (fun K' hK' => ?_) AllReadyH.nil
    go_simp
    refine (dreadDot_any RD).mono ?_
    rintro e vb ⟨rfl, RD2, o1⟩
    have hS1 := hS.trans (o1.mono (E := fun c => c = b ∨ c = q6 ∨ blk ao = some c) (fun _ _ h => .inl h)) (fun _ _ h => h)
    refine hK'.out _ _ hS1 (fun hS => ?_)
    clear hK' K' hS1
    replace BX := BX.off o1 (fun e => by have := HQ6.out; have := HB.out; omega)
    replace OWN := OWN.off o1 (fun k _ h1 e => by have := MKA.out k h1; have := HB.out; have := HN.out; omega)
    have HSZ : Hid (va.heap.size ≤ vb.heap.size) := o1.size
    obtain ⟨nu, hnu⟩ : ∃ x, x = nodeP (numS (dtSt s2 i)).1 := ⟨_, rfl⟩
    obtain ⟨iu, hiu⟩ : ∃ x, x = (intS (numS (dtSt s2 i)).2).1 := ⟨_, rfl⟩
    rw [← hnu, ← hiu]
    have HNU : Hid _ := hnu
    have HIU : Hid _ := hiu
    clear o1 RD hnu hiu
    refine wpAnyH_ready (rs := [4]) (by kernel_rfl) (by simp) ?_
    refine AllReadyH.cons rfl (fun K' hK' => ?_) AllReadyH.nil
    go_simp
    refine hK'.out _ _ (hS.alloc _) (fun hS => ?_)
    clear hK' K'
    have CB := Cel.new vb 93 #[.int .i64 (nu), .int .i64 (iu)]
    have OB : Off (fun _ => False) vb (vb.alloc (.cells #[.int .i64 (nu), .int .i64 (iu)] 93)) := (Off.refl _ vb).alloc _
    generalize hqb : vb.heap.size = qb at CB ⊢
    generalize hvb : vb.alloc (.cells #[.int .i64 (nu), .int .i64 (iu)] 93) = vc at CB OB hS ⊢
    clear hvb hqb
    replace BX := BX.off OB (fun h => h)
    replace OWN := OWN.off OB (fun _ _ _ h => h)
    replace RD2 := RD2.off OB (fun h => h) (fun _ _ _ h => h)
    have src2 : ∀ j u, (dcs (nu, iu))[j]? = some u → vc.cell? ⟨qb, j, none⟩ = some u := fun j u hj => by
     rw [CB.cell j, ← hj, List.getElem?_toArray]
     rfl
    obtain ⟨a2, c2, v2, hr, own2, o2, at2⟩ := app_one Tryz.underlying47 Tryz.infoDt rfl (by decide) (by decide) dcs_len dcs_one OWN src2 (by omega) (xc := 1) 47
    refine wpAnyH_ready (rs := [5]) (by kernel_rfl) (by simp) ?_
    refine AllReadyH.cons rfl (fun K' hK' => ?_) AllReadyH.nil
    refine wp_append_if rfl (.tmp 24) (.tmp 27) rfl rfl rfl hr 28 rfl ?_
    simp only [Act.put, lsA, lsZ, lsS]
    have hS2 := hS.trans (o2.mono (E := fun c => c = b ∨ c = q6 ∨ blk ao = some c) (fun _ _ h => .inr (.inr h))) (fun _ _ h => h)
    refine hK'.out _ _ hS2 (fun hS => ?_)
    clear hK' K' hr hS2
    refine take_at (i := 6) 29 (v := .pointer (some ⟨q6, 9, none⟩)) rfl rfl (by kernel_rfl) (by kernel_rfl) (by kernel_rfl) (fun _ _ _ h => h) (Or.inl ⟨by rfl, fun w' hw' => by go_simp⟩) hS ?_
    simp only [Act.put, lsA, lsZ, lsS]
    have szb := HSZ.out
    have szc := OB.size
    have BX2 := BX.off o2 (fun e => by have := MKA.out q6 e; have := HL6.out; omega)
    have RD3 := RD2.off o2 (fun e => by have := MKA.out b e; have := HB.out; have := HN.out; omega) (fun c _ hc e => by have := MKA.out c e; have := HLD.out c hc; have := HN.out; omega)
    have at3 : ∀ k, blk a2 = some k → w8.heap.size ≤ k := fun k hk => by
     rcases at2 with e | e
     ·exact MKA.out k (e ▸ hk)
     ·rw [e] at hk
      have := HSW.out
      simp at hk
      omega
    obtain ⟨y0, y1, y2, y3, y4, y5, y6, y7, y8, y9⟩ := cel10 BX2
    have fz := BX2.free
    obtain ⟨ys, hys⟩ : ∃ ys, ys = lo ++ [(nu, iu)] := ⟨_, rfl⟩
    have HYL : Hid (ys.length = lo.length + 1) := by show _ = _; rw [hys]; simp
    rw [← hys] at own2 ⊢
    have HYS : Hid _ := hys
    clear hys
    refine wpAnyH_ready (rs := [7]) (by kernel_rfl) (by simp) ?_
    refine AllReadyH.cons rfl (fun K' hK' => ?_) AllReadyH.nil
    go_simp
    have hS3 := hS.setCell (p := ⟨q6, 9, none⟩) (.inl (.inr (.inl rfl))) (.slice a2 ys.length c2)
    refine hK'.out _ _ hS3 (fun hS => ?_)
    clear hK' K' hS3
    refine wpAnyH_done (by kernel_rfl) ?_ _
    clear y0 y1 y2 y3 y4 y5 y6 y7 y8 y9 fz
    have os := (Off.refl (fun c => c = q6) v2).setCell (p := ⟨q6, 9, none⟩) (.inl rfl) (.slice a2 ys.length c2)
    have BX3 := BX2.set 9 (.slice a2 ys.length c2)
    simp only [lsA, lsZ, lsS] at BX3
    have OW3 := own2.off os (fun k _ h1 h2 => by have := at3 k h1; have := HL6.out; omega)
    have RD4 := RD3.off os (fun e => by have := HQ6.out; have := HB.out; omega) (fun c _ hc e => by have := HLD.out c hc; have := HQ6.out; omega)
    have OF := (HPO.out.mono (E := fun c => c = b ∨ c = q6 ∨ w8.heap.size ≤ c) (fun _ _ h => h.elim .inl (fun h => .inr (.inl h)))).trans hS (fun k _ h => h.elim .inl (fun h => h.elim (fun h => .inr (.inl h)) (fun e => .inr (.inr (MKA.out k e)))))
    have HB3 : Hid _ := BX3
    have HM3 : Hid _ := OW3
    have HR3 : Hid _ := RD4
    have HOF : Hid _ := OF
    have HA3 : Hid _ := at3
    have HLC : Hid (ys = rdDs nodeP (i + 1) s2) := by
     have e : rdDt nodeP (dtSt s2 i) = (nu, iu) := by unfold rdDt; rw [← HNU.out, ← HIU.out]
     show _ = _
     rw [rdDs_succ, ← HLO.out, e]
     exact HYS.out
    clear BX BX2 BX3 OWN own2 OW3 OF hS o2 at2 at3 CB OB szb szc RD2 RD3 RD4 os src2
    go_wp2_with fail
    go_roundw
    case rel => exact ⟨i + 1, ys, a2, c2, by go_num, by omega, HB3.out, HM3.out, HA3.out, by have := HYL.out; omega, HLC.out, HR3.out, HOF.out.mono (fun k hk h => h.elim .inl (fun h => h.elim .inr (fun e => by omega)))⟩
    case measure => simp [intOf]; omega
   ·go_simp
    refine (dreadDot_any RD).mono ?_
    rintro e vb ⟨rfl, RD2, o1⟩
    have hS1 := hS.trans (o1.mono (E := fun c => c = b ∨ c = q6 ∨ blk ao = some c) (fun _ _ h => .inl h)) (fun _ _ h => h)
    refine hK'.out _ _ hS1 (fun hS => ?_)
    clear hK' K' hS1
    replace BX := BX.off o1 (fun e => by have := HQ6.out; have := HB.out; omega)
    replace OWN := OWN.off o1 (fun k _ h1 e => by have := MKA.out k h1; have := HB.out; have := HN.out; omega)
    have HSZ : Hid (va.heap.size ≤ vb.heap.size) := o1.size
    obtain ⟨nu, hnu⟩ : ∃ x, x = nodeP (numS (dtSt s2 i)).1 := ⟨_, rfl⟩
    obtain ⟨iu, hiu⟩ : ∃ x, x = (intS (numS (dtSt s2 i)).2).1 := ⟨_, rfl⟩
    rw [← hnu, ← hiu]
    have HNU : Hid _ := hnu
    have HIU : Hid _ := hiu
    clear o1 RD hnu hiu
    refine wpAnyH_ready (rs := [1, 4]) (by kernel_rfl) (by simp) ?_
    refine AllReadyH.cons rfl (fun K' hK' => ?_) (AllReadyH.cons rfl (fun K' hK' => ?_) AllReadyH.nil)
    ·obtain ⟨y0, y1, y2, y3, y4, y5, y6, y7, y8, y9⟩ := cel10 BX
     go_simp
     refine hK'.out _ _ hS (fun hS => ?_)
     clear hK' K' y0 y1 y2 y3 y4 y5 y6 y7 y8 y9
     refine wpAnyH_ready (rs := [4]) (by kernel_rfl) (by simp) ?_
     refine AllReadyH.cons rfl (fun K' hK' => ?_) AllReadyH.nil
     go_simp
     refine hK'.out _ _ (hS.alloc _) (fun hS => ?_)
     clear hK' K'
     have CB := Cel.new vb 93 #[.int .i64 (nu), .int .i64 (iu)]
     have OB : Off (fun _ => False) vb (vb.alloc (.cells #[.int .i64 (nu), .int .i64 (iu)] 93)) := (Off.refl _ vb).alloc _
     generalize hqb : vb.heap.size = qb at CB ⊢
     generalize hvb : vb.alloc (.cells #[.int .i64 (nu), .int .i64 (iu)] 93) = vc at CB OB hS ⊢
     clear hvb hqb
     replace BX := BX.off OB (fun h => h)
     replace OWN := OWN.off OB (fun _ _ _ h => h)
     replace RD2 := RD2.off OB (fun h => h) (fun _ _ _ h => h)
     have src2 : ∀ j u, (dcs (nu, iu))[j]? = some u → vc.cell? ⟨qb, j, none⟩ = some u := fun j u hj => by
      rw [CB.cell j, ← hj, List.getElem?_toArray]
      rfl
     obtain ⟨a2, c2, v2, hr, own2, o2, at2⟩ := app_one Tryz.underlying47 Tryz.infoDt rfl (by decide) (by decide) dcs_len dcs_one OWN src2 (by omega) (xc := 1) 47
     refine wpAnyH_ready (rs := [5]) (by kernel_rfl) (by simp) ?_
     refine AllReadyH.cons rfl (fun K' hK' => ?_) AllReadyH.nil
     refine wp_append_if rfl (.tmp 24) (.tmp 27) rfl rfl rfl hr 28 rfl ?_
     simp only [Act.put, lsA, lsZ, lsS]
     have hS2 := hS.trans (o2.mono (E := fun c => c = b ∨ c = q6 ∨ blk ao = some c) (fun _ _ h => .inr (.inr h))) (fun _ _ h => h)
     refine hK'.out _ _ hS2 (fun hS => ?_)
     clear hK' K' hr hS2
     refine take_at (i := 6) 29 (v := .pointer (some ⟨q6, 9, none⟩)) rfl rfl (by kernel_rfl) (by kernel_rfl) (by kernel_rfl) (fun _ _ _ h => h) (Or.inl ⟨by rfl, fun w' hw' => by go_simp⟩) hS ?_
     simp only [Act.put, lsA, lsZ, lsS]
     have szb := HSZ.out
     have szc := OB.size
     have BX2 := BX.off o2 (fun e => by have := MKA.out q6 e; have := HL6.out; omega)
     have RD3 := RD2.off o2 (fun e => by have := MKA.out b e; have := HB.out; have := HN.out; omega) (fun c _ hc e => by have := MKA.out c e; have := HLD.out c hc; have := HN.out; omega)
     have at3 : ∀ k, blk a2 = some k → w8.heap.size ≤ k := fun k hk => by
      rcases at2 with e | e
      ·exact MKA.out k (e ▸ hk)
      ·rw [e] at hk
       have := HSW.out
       simp at hk
       omega
     obtain ⟨y0, y1, y2, y3, y4, y5, y6, y7, y8, y9⟩ := cel10 BX2
     have fz := BX2.free
     obtain ⟨ys, hys⟩ : ∃ ys, ys = lo ++ [(nu, iu)] := ⟨_, rfl⟩
     have HYL : Hid (ys.length = lo.length + 1) := by show _ = _; rw [hys]; simp
     rw [← hys] at own2 ⊢
     have HYS : Hid _ := hys
     clear hys
     refine wpAnyH_ready (rs := [7]) (by kernel_rfl) (by simp) ?_
     refine AllReadyH.cons rfl (fun K' hK' => ?_) AllReadyH.nil
     go_simp
     have hS3 := hS.setCell (p := ⟨q6, 9, none⟩) (.inl (.inr (.inl rfl))) (.slice a2 ys.length c2)
     refine hK'.out _ _ hS3 (fun hS => ?_)
     clear hK' K' hS3
     refine wpAnyH_done (by kernel_rfl) ?_ _
     clear y0 y1 y2 y3 y4 y5 y6 y7 y8 y9 fz
     have os := (Off.refl (fun c => c = q6) v2).setCell (p := ⟨q6, 9, none⟩) (.inl rfl) (.slice a2 ys.length c2)
     have BX3 := BX2.set 9 (.slice a2 ys.length c2)
     simp only [lsA, lsZ, lsS] at BX3
     have OW3 := own2.off os (fun k _ h1 h2 => by have := at3 k h1; have := HL6.out; omega)
     have RD4 := RD3.off os (fun e => by have := HQ6.out; have := HB.out; omega) (fun c _ hc e => by have := HLD.out c hc; have := HQ6.out; omega)
     have OF := (HPO.out.mono (E := fun c => c = b ∨ c = q6 ∨ w8.heap.size ≤ c) (fun _ _ h => h.elim .inl (fun h => .inr (.inl h)))).trans hS (fun k _ h => h.elim .inl (fun h => h.elim (fun h => .inr (.inl h)) (fun e => .inr (.inr (MKA.out k e)))))
     have HB3 : Hid _ := BX3
     have HM3 : Hid _ := OW3
     have HR3 : Hid _ := RD4
     have HOF : Hid _ := OF
     have HA3 : Hid _ := at3
     have HLC : Hid (ys = rdDs nodeP (i + 1) s2) := by
      have e : rdDt nodeP (dtSt s2 i) = (nu, iu) := by unfold rdDt; rw [← HNU.out, ← HIU.out]
      show _ = _
      rw [rdDs_succ, ← HLO.out, e]
      exact HYS.out
     clear BX BX2 BX3 OWN own2 OW3 OF hS o2 at2 at3 CB OB szb szc RD2 RD3 RD4 os src2
     go_wp2_with fail
     go_roundw
     case rel => exact ⟨i + 1, ys, a2, c2, by go_num, by omega, HB3.out, HM3.out, HA3.out, by have := HYL.out; omega, HLC.out, HR3.out, HOF.out.mono (fun k hk h => h.elim .inl (fun h => h.elim .inr (fun e => by omega)))⟩
     case measure => simp [intOf]; omega
    ·go_simp
     refine hK'.out _ _ (hS.alloc _) (fun hS => ?_)
     clear hK' K'
     have CB := Cel.new vb 93 #[.int .i64 (nu), .int .i64 (iu)]
     have OB : Off (fun _ => False) vb (vb.alloc (.cells #[.int .i64 (nu), .int .i64 (iu)] 93)) := (Off.refl _ vb).alloc _
     generalize hqb : vb.heap.size = qb at CB ⊢
     generalize hvb : vb.alloc (.cells #[.int .i64 (nu), .int .i64 (iu)] 93) = vc at CB OB hS ⊢
     clear hvb hqb
     replace BX := BX.off OB (fun h => h)
     replace OWN := OWN.off OB (fun _ _ _ h => h)
     replace RD2 := RD2.off OB (fun h => h) (fun _ _ _ h => h)
     refine wpAnyH_ready (rs := [1]) (by kernel_rfl) (by simp) ?_
     refine AllReadyH.cons rfl (fun K' hK' => ?_) AllReadyH.nil
     obtain ⟨y0, y1, y2, y3, y4, y5, y6, y7, y8, y9⟩ := cel10 BX
     go_simp
     refine hK'.out _ _ hS (fun hS => ?_)
     clear hK' K' y0 y1 y2 y3 y4 y5 y6 y7 y8 y9
     have src2 : ∀ j u, (dcs (nu, iu))[j]? = some u → vc.cell? ⟨qb, j, none⟩ = some u := fun j u hj => by
      rw [CB.cell j, ← hj, List.getElem?_toArray]
      rfl
     obtain ⟨a2, c2, v2, hr, own2, o2, at2⟩ := app_one Tryz.underlying47 Tryz.infoDt rfl (by decide) (by decide) dcs_len dcs_one OWN src2 (by omega) (xc := 1) 47
     refine wpAnyH_ready (rs := [5]) (by kernel_rfl) (by simp) ?_
     refine AllReadyH.cons rfl (fun K' hK' => ?_) AllReadyH.nil
     refine wp_append_if rfl (.tmp 24) (.tmp 27) rfl rfl rfl hr 28 rfl ?_
     simp only [Act.put, lsA, lsZ, lsS]
     have hS2 := hS.trans (o2.mono (E := fun c => c = b ∨ c = q6 ∨ blk ao = some c) (fun _ _ h => .inr (.inr h))) (fun _ _ h => h)
     refine hK'.out _ _ hS2 (fun hS => ?_)
     clear hK' K' hr hS2
     refine take_at (i := 6) 29 (v := .pointer (some ⟨q6, 9, none⟩)) rfl rfl (by kernel_rfl) (by kernel_rfl) (by kernel_rfl) (fun _ _ _ h => h) (Or.inl ⟨by rfl, fun w' hw' => by go_simp⟩) hS ?_
     simp only [Act.put, lsA, lsZ, lsS]
     have szb := HSZ.out
     have szc := OB.size
     have BX2 := BX.off o2 (fun e => by have := MKA.out q6 e; have := HL6.out; omega)
     have RD3 := RD2.off o2 (fun e => by have := MKA.out b e; have := HB.out; have := HN.out; omega) (fun c _ hc e => by have := MKA.out c e; have := HLD.out c hc; have := HN.out; omega)
     have at3 : ∀ k, blk a2 = some k → w8.heap.size ≤ k := fun k hk => by
      rcases at2 with e | e
      ·exact MKA.out k (e ▸ hk)
      ·rw [e] at hk
       have := HSW.out
       simp at hk
       omega
     obtain ⟨y0, y1, y2, y3, y4, y5, y6, y7, y8, y9⟩ := cel10 BX2
     have fz := BX2.free
     obtain ⟨ys, hys⟩ : ∃ ys, ys = lo ++ [(nu, iu)] := ⟨_, rfl⟩
     have HYL : Hid (ys.length = lo.length + 1) := by show _ = _; rw [hys]; simp
     rw [← hys] at own2 ⊢
     have HYS : Hid _ := hys
     clear hys
     refine wpAnyH_ready (rs := [7]) (by kernel_rfl) (by simp) ?_
     refine AllReadyH.cons rfl (fun K' hK' => ?_) AllReadyH.nil
     go_simp
     have hS3 := hS.setCell (p := ⟨q6, 9, none⟩) (.inl (.inr (.inl rfl))) (.slice a2 ys.length c2)
     refine hK'.out _ _ hS3 (fun hS => ?_)
     clear hK' K' hS3
     refine wpAnyH_done (by kernel_rfl) ?_ _
     clear y0 y1 y2 y3 y4 y5 y6 y7 y8 y9 fz
     have os := (Off.refl (fun c => c = q6) v2).setCell (p := ⟨q6, 9, none⟩) (.inl rfl) (.slice a2 ys.length c2)
     have BX3 := BX2.set 9 (.slice a2 ys.length c2)
     simp only [lsA, lsZ, lsS] at BX3
     have OW3 := own2.off os (fun k _ h1 h2 => by have := at3 k h1; have := HL6.out; omega)
     have RD4 := RD3.off os (fun e => by have := HQ6.out; have := HB.out; omega) (fun c _ hc e => by have := HLD.out c hc; have := HQ6.out; omega)
     have OF := (HPO.out.mono (E := fun c => c = b ∨ c = q6 ∨ w8.heap.size ≤ c) (fun _ _ h => h.elim .inl (fun h => .inr (.inl h)))).trans hS (fun k _ h => h.elim .inl (fun h => h.elim (fun h => .inr (.inl h)) (fun e => .inr (.inr (MKA.out k e)))))
     have HB3 : Hid _ := BX3
     have HM3 : Hid _ := OW3
     have HR3 : Hid _ := RD4
     have HOF : Hid _ := OF
     have HA3 : Hid _ := at3
     have HLC : Hid (ys = rdDs nodeP (i + 1) s2) := by
      have e : rdDt nodeP (dtSt s2 i) = (nu, iu) := by unfold rdDt; rw [← HNU.out, ← HIU.out]
      show _ = _
      rw [rdDs_succ, ← HLO.out, e]
      exact HYS.out
     clear BX BX2 BX3 OWN own2 OW3 OF hS o2 at2 at3 CB OB szb szc RD2 RD3 RD4 os src2
     go_wp2_with fail
     go_roundw
     case rel => exact ⟨i + 1, ys, a2, c2, by go_num, by omega, HB3.out, HM3.out, HA3.out, by have := HYL.out; omega, HLC.out, HR3.out, HOF.out.mono (fun k hk h => h.elim .inl (fun h => h.elim .inr (fun e => by omega)))⟩
     case measure => simp [intOf]; omega
  ·obtain rfl : i = cnt := by omega
   have i1 : decide ((i : Int) < (i : Int)) = false := decide_eq_false (by omega)
   have i2 : decide (i < i) = false := decide_eq_false (by omega)
   have H2 : Hid _ := H28.out.off HPO.out (fun e => e.elim (fun e => by have := HB.out; have := HQ2.out; omega) HQ26.out)
   have OFF : Hid (Off (fun c => c = b) w wr) := HO8.out.trans HPO.out (fun k hk h => h.elim id (fun e => by have := HQ6.out; omega))
   replace HDD : Hid (drD nodeP s = lo) := by show _ = _; rw [HDD.out, ← HLO.out]
   cases okB
   ·have HRES : Hid (drB nodeP s = false) := by show _ = _; unfold drB; rw [← HOK.out]; rfl
    have D2 := H2.out
    obtain ⟨y0, y1, y2, y3, y4, y5, y6, y7, y8, y9⟩ := cel10 D2
    have fz := D2.free
    go_wp2_with fail
    have E2 := D2.clr10
    have OE := OFF.out.clr10 (b := q2) (.inr HQ2.out)
    refine bodyPost_ret (results_dig rfl rfl rfl E2) rfl ?_
    have os := (Off.refl (fun c => c = q2) wr).clr10 (b := q2) (.inl rfl)
    have rr := HRD.out.off os (fun e => by have := HQ2.out; have := HB.out; omega) (fun c _ hc e => by have := HLD.out c hc; have := HQ2.out; omega)
    rw [← HDS.out] at rr
    obtain ⟨r1, r2, r3⟩ := dr_no HRES.out
    exact ⟨⟨#[]⟩, zer, none, 0, [], by rw [HRES.out]; rfl, r1, r2, r3, RowD.nil _ _ _ (by omega), NewA.none _, rr, OE⟩
   ·go_wp2_with fail
    refine (dfailed_any HRD.out).mono ?_
    rintro e w9 ⟨rfl, hw9⟩
    rw [hw9]
    clear hw9 w9
    by_cases her : (dtSt s2 i).2 = 0
    ·have e5 : (!decide ((dtSt s2 i).2 = 0)) = false := by simp [her]
     rw [e5]
     obtain ⟨z0, z1, z2, z3, z4, z5, z6, z7, z8, z9⟩ := cel10 HBX.out
     have HER : Hid _ := her
     clear her
     go_wp2_with fail
     clear z0 z1 z2 z3 z4 z5 z6 z7 z8 z9
     refine (dmay_any ks fF ao co lo _ HMK.out.rowD).mono ?_
     cases hme : mayD ⟨ks, fF, lo⟩
     ·have HRES : Hid (drB nodeP s = false) := by show _ = _; unfold drB; rw [← HKS.out, ← HFF.out, HDD.out, hme]; simp
      rintro e fw ⟨rfl, fo⟩
      have fO := OFF.out.trans (fo.mono (fun _ _ h => h.elim)) (fun _ _ h => h)
      have fR := HRD.out.off fo (fun h => h) (fun _ _ _ h => h)
      have H3 : Hid _ := H2.out.off fo (fun h => h)
      have D2 := H3.out
      obtain ⟨y0, y1, y2, y3, y4, y5, y6, y7, y8, y9⟩ := cel10 D2
      have fz := D2.free
      go_wp2_with fail
      have E2 := D2.clr10
      have OE := fO.clr10 (b := q2) (.inr HQ2.out)
      refine bodyPost_ret (results_dig rfl rfl rfl E2) rfl ?_
      have os := (Off.refl (fun c => c = q2) fw).clr10 (b := q2) (.inl rfl)
      have rr := fR.off os (fun e => by have := HQ2.out; have := HB.out; omega) (fun c _ hc e => by have := HLD.out c hc; have := HQ2.out; omega)
      rw [← HDS.out] at rr
      obtain ⟨r1, r2, r3⟩ := dr_no HRES.out
      exact ⟨⟨#[]⟩, zer, none, 0, [], by rw [HRES.out]; rfl, r1, r2, r3, RowD.nil _ _ _ (by omega), NewA.none _, rr, OE⟩
     ·have HRES : Hid (drB nodeP s = true) := by show _ = _; unfold drB; rw [← HKS.out, ← HFF.out, HDD.out, hme, ← HOK.out, HDS.out, decide_eq_true HER.out]; rfl
      rintro e fw ⟨rfl, fo⟩
      have fO := OFF.out.trans (fo.mono (fun _ _ h => h.elim)) (fun _ _ h => h)
      have fR := HRD.out.off fo (fun h => h) (fun _ _ _ h => h)
      have D2 := H2.out.off fo (fun h => h)
      have D7 := HBX.out.off fo (fun h => h)
      have HRO : Hid _ := HMK.out.off fo (fun _ _ _ h => h)
      obtain ⟨y0, y1, y2, y3, y4, y5, y6, y7, y8, y9⟩ := cel10 D2
      obtain ⟨z0, z1, z2, z3, z4, z5, z6, z7, z8, z9⟩ := cel10 D7
      have fz := D2.free
      go_wp2_with fail
      have E2 := D2.st10 ks fF (.slice ao lo.length co)
      have OE := fO.st10 (b := q2) (.inr HQ2.out) ks fF (.slice ao lo.length co)
      refine bodyPost_ret (results_dig rfl rfl rfl E2) rfl ?_
      have os := (Off.refl (fun c => c = q2) fw).st10 (b := q2) (.inl rfl) ks fF (.slice ao lo.length co)
      have rr := fR.off os (fun e => by have := HQ2.out; have := HB.out; omega) (fun c _ hc e => by have := HLD.out c hc; have := HQ2.out; omega)
      rw [← HDS.out] at rr
      obtain ⟨r1, r2, r3⟩ := dr_yes HRES.out
      rw [← HKS.out] at r1
      rw [← HFF.out] at r2
      rw [HDD.out] at r3
      have rw9 := HRO.out.rowD.offD os (fun k _ hk e => by have := HMA.out k hk; have := HL2.out; omega)
      exact ⟨ks, fF, ao, co, lo, by rw [HRES.out]; rfl, r1, r2, r3, rw9, ⟨fun k hk => Nat.le_trans HN.out (HMA.out k hk)⟩, rr, OE⟩
    ·have e5 : (!decide ((dtSt s2 i).2 = 0)) = true := by simp [her]
     rw [e5]
     have HRES : Hid (drB nodeP s = false) := by show _ = _; unfold drB; rw [HDS.out, decide_eq_false her]; simp
     clear e5 her
     have D2 := H2.out
     obtain ⟨y0, y1, y2, y3, y4, y5, y6, y7, y8, y9⟩ := cel10 D2
     have fz := D2.free
     go_wp2_with fail
     have E2 := D2.clr10
     have OE := OFF.out.clr10 (b := q2) (.inr HQ2.out)
     refine bodyPost_ret (results_dig rfl rfl rfl E2) rfl ?_
     have os := (Off.refl (fun c => c = q2) wr).clr10 (b := q2) (.inl rfl)
     have rr := HRD.out.off os (fun e => by have := HQ2.out; have := HB.out; omega) (fun c _ hc e => by have := HLD.out c hc; have := HQ2.out; omega)
     rw [← HDS.out] at rr
     obtain ⟨r1, r2, r3⟩ := dr_no HRES.out
     exact ⟨⟨#[]⟩, zer, none, 0, [], by rw [HRES.out]; rfl, r1, r2, r3, RowD.nil _ _ _ (by omega), NewA.none _, rr, OE⟩
end Go.Proofs.YtmbphlkohlggfaaGreat

namespace Go.Proofs.YtmbphlkohlggfaaGreat
set_option maxRecDepth 100000
open Go.RowKit
theorem Src.of_nil {w : World} {a : Option Addr} {c : Nat} (h : Src w a c []) (w' : World) : Src w' a c [] := by
 rcases h.is with h | ⟨ad, e, -⟩
 ·exact ⟨.inl h⟩
 ·exact ⟨.inr ⟨ad, e, fun j u hj => by simp [vl] at hj⟩⟩
theorem Src.ltD {w : World} {a : Option Addr} {c : Nat} {bs : List Nat} (h : Src w a c bs) (hb : bs ≠ []) : ∀ i, blk a = some i → i < w.heap.size := by
 intro i hi
 rcases h.is with ⟨h1, -, -⟩ | ⟨ad, rfl, h1⟩
 ·rw [h1] at hi
  simp [blk] at hi
 ·cases bs with
  | nil => exact absurd rfl hb
  | cons x l =>
   have h2 := cell_lt (h1 0 _ rfl)
   rw [add_block] at h2
   have hi : ad.block = i := by simpa [blk] using hi
   omega
theorem Row.ltA {w : World} {a : Option Addr} {c : Nat} {l : List V} (h : Row w a c l) (hl : l ≠ []) : ∀ i, blk a = some i → i < w.heap.size := by
 intro i hi
 cases l with
 | nil => exact absurd rfl hl
 | cons x l =>
  obtain ⟨b, off, rfl, h1, -⟩ := h.at_ 0 x rfl
  have h2 := cell_lt h1.c0
  have hi : b = i := by simpa [blk] using hi
  have h2 : b < w.heap.size := h2
  omega
theorem Row.offS {D : Nat → Prop} {w w' : World} {a : Option Addr} {c : Nat} {l : List V} (h : Row w a c l) (o : Off D w w') (ha : l ≠ [] → ∀ i, blk a = some i → ¬ D i) (hv : ∀ v ∈ l, v.data ≠ [] → ∀ i, blk v.ad = some i → ¬ D i) : Row w' a c l :=
 ⟨h.len, h.bound, fun i v hi => by
  obtain ⟨b, off, e, h1, h2⟩ := h.at_ i v hi
  have hl : l ≠ [] := by
   rintro rfl
   simp at hi
  refine ⟨b, off, e, h1.off o (fun _ => ha hl b (by rw [e]; rfl)), ?_⟩
  by_cases hd : v.data = []
  ·refine ⟨?_, h2.lt, h2.n0, h2.n1, h2.m0, h2.m1, h2.len⟩
   have := h2.src
   rw [hd] at this ⊢
   exact this.of_nil w'
  ·exact h2.off o (fun c _ hc => hv v (List.mem_of_getElem? hi) hd c hc)⟩
structure AptE (N : Nat) (t : Option Addr) (w : World) (x : E) : Prop where
 row : Row w x.a x.cap x.l
 a : x.l ≠ [] → ∀ i, blk x.a = some i → N ≤ i ∧ blk t ≠ some i
 d : ∀ v ∈ x.l, v.data ≠ [] → ∀ i, blk v.ad = some i → N ≤ i ∧ blk t ≠ some i
theorem AptE.off {b N : Nat} {t : Option Addr} {w w' : World} {x : E} (h : AptE N t w x) (o : Off (fun c => c = b) w w') (hb : b < N) : AptE N t w' x :=
 ⟨h.row.offS o (fun hl i hi e => by have := (h.a hl i hi).1; omega) (fun v hv hd i hi e => by have := (h.d v hv hd i hi).1; omega), h.a, h.d⟩
theorem AptE.app {N : Nat} {t t' : Option Addr} {w w' : World} {x : E} (h : AptE N t w x) (o : Off (fun c => blk t = some c) w w') (at' : blk t' = blk t ∨ blk t' = some w.heap.size) : AptE N t' w' x := by
 refine ⟨h.row.offS o (fun hl i hi => (h.a hl i hi).2) (fun v hv hd i hi => (h.d v hv hd i hi).2), fun hl i hi => ⟨(h.a hl i hi).1, ?_⟩, fun v hv hd i hi => ⟨(h.d v hv hd i hi).1, ?_⟩⟩
 ·rcases at' with e | e
  ·rw [e]
   exact (h.a hl i hi).2
  ·rw [e]
   intro e2
   have := h.row.ltA hl i hi
   simp at e2
   omega
 ·rcases at' with e | e
  ·rw [e]
   exact (h.d v hv hd i hi).2
  ·rw [e]
   intro e2
   have := (h.row.ok v hv).src.ltD hd i hi
   simp at e2
   omega
theorem AptE.new {N M : Nat} {t : Option Addr} {w : World} {key : ByteArray} {f : Nat → Int} {a : Option Addr} {c : Nat} {l : List V} (h : Row w a c l) (fr : Frh M a l) (hN : N ≤ M) (ht : ∀ i, blk t = some i → i < M) : AptE N t w ⟨key, f, a, c, l⟩ :=
 ⟨h, fun _ i hi => by have := fr.lo i hi; exact ⟨by omega, fun e => by have := ht i e; omega⟩, fun v hv _ i hi => by have := fr.val v hv i hi; exact ⟨by omega, fun e => by have := ht i e; omega⟩⟩
theorem AptE.keep {N : Nat} {t : Option Addr} {w v : World} {x : E} (h : AptE N t w x) (o : Off (fun c => c < N) w v) : Row v x.a x.cap x.l :=
 h.row.offS o (fun hl i hi e => by have := (h.a hl i hi).1; omega) (fun y hy hd i hi e => by have := (h.d y hy hd i hi).1; omega)
theorem RowD.ltA {w : World} {a : Option Addr} {c : Nat} {l : List (Int × Int)} (h : RowD w a c l) (hl : l ≠ []) : ∀ i, blk a = some i → i < w.heap.size := by
 intro i hi
 cases l with
 | nil => exact absurd rfl hl
 | cons x l =>
  obtain ⟨b, off, rfl, h1, -⟩ := h.at_ 0 x rfl
  have h2 := cell_lt h1
  have hi : b = i := by simpa [blk] using hi
  have h2 : b < w.heap.size := h2
  omega
theorem RowD.offS {D : Nat → Prop} {w w' : World} {a : Option Addr} {c : Nat} {l : List (Int × Int)} (h : RowD w a c l) (o : Off D w w') (ha : l ≠ [] → ∀ i, blk a = some i → ¬ D i) : RowD w' a c l := by
 by_cases hl : l = []
 ·subst hl
  exact RowD.nil w' a c h.bound
 ·exact h.offD o (fun i _ hi => ha hl i hi)
structure AptD (N : Nat) (t : Option Addr) (w : World) (x : G) : Prop where
 row : RowD w x.a x.cap x.ds
 a : x.ds ≠ [] → ∀ i, blk x.a = some i → N ≤ i ∧ blk t ≠ some i
theorem AptD.off {b N : Nat} {t : Option Addr} {w w' : World} {x : G} (h : AptD N t w x) (o : Off (fun c => c = b) w w') (hb : b < N) : AptD N t w' x :=
 ⟨h.row.offS o (fun hl i hi e => by have := (h.a hl i hi).1; omega), h.a⟩
theorem AptD.app {N : Nat} {t t' : Option Addr} {w w' : World} {x : G} (h : AptD N t w x) (o : Off (fun c => blk t = some c) w w') (at' : blk t' = blk t ∨ blk t' = some w.heap.size) : AptD N t' w' x := by
 refine ⟨h.row.offS o (fun hl i hi => (h.a hl i hi).2), fun hl i hi => ⟨(h.a hl i hi).1, ?_⟩⟩
 rcases at' with e | e
 ·rw [e]
  exact (h.a hl i hi).2
 ·rw [e]
  intro e2
  have := h.row.ltA hl i hi
  simp at e2
  omega
theorem AptD.new {N M : Nat} {t : Option Addr} {w : World} {key : ByteArray} {f : Nat → Int} {a : Option Addr} {c : Nat} {l : List (Int × Int)} (h : RowD w a c l) (fr : NewA M a) (hN : N ≤ M) (ht : ∀ i, blk t = some i → i < M) : AptD N t w ⟨key, f, a, c, l⟩ :=
 ⟨h, fun _ i hi => by have := fr.lo i hi; exact ⟨by omega, fun e => by have := ht i e; omega⟩⟩
theorem AptD.keep {N : Nat} {t : Option Addr} {w v : World} {x : G} (h : AptD N t w x) (o : Off (fun c => c < N) w v) : RowD v x.a x.cap x.ds :=
 h.row.offS o (fun hl i hi e => by have := (h.a hl i hi).1; omega)
structure AptM (N : Nat) (t : Option Addr) (w : World) (x : Int × Int) : Prop where
 ok : True
def pre {α : Type} (P : List α) (p : List α × RS) : List α × RS := (P ++ p.1, p.2)
theorem pre_nil {α : Type} (o : Option (List α × RS)) : o.map (pre []) = o := by cases o <;> rfl
theorem pre_one {α : Type} (P : List α) (x : α) (o : Option (List α × RS)) : (o.map (fun p => (x :: p.1, p.2))).map (pre P) = o.map (pre (P ++ [x])) := by
 cases o
 ·rfl
 ·simp [pre]
theorem rdEs_go {R : Option (List (K) × RS)} {P : List (K)} {n m : Nat} {s : RS} (h : R = (rdEs n s).map (pre P)) (hn : n = m + 1) (hb : reB nodeP s = true) : R = (rdEs m (reS s)).map (pre (P ++ [⟨reKey nodeP s, reF nodeP s, reL nodeP s⟩])) := by
 rw [h, hn, rdEs_succ, if_pos hb, pre_one]
theorem rdEs_no {R : Option (List (K) × RS)} {P : List (K)} {n m : Nat} {s : RS} (h : R = (rdEs n s).map (pre P)) (hn : n = m + 1) (hb : reB nodeP s = false) : R = none := by
 rw [h, hn, rdEs_succ, if_neg (by rw [hb]; decide)]
 rfl
theorem rdEs_end {R : Option (List (K) × RS)} {P : List (K)} {n : Nat} {s : RS} (h : R = (rdEs n s).map (pre P)) (hn : n = 0) : R = some (P, s) := by
 rw [h, hn]
 show some (P ++ [], s) = _
 rw [List.append_nil]
theorem rdGs_go {R : Option (List (GK) × RS)} {P : List (GK)} {n m : Nat} {s : RS} (h : R = (rdGs n s).map (pre P)) (hn : n = m + 1) (hb : drB nodeP s = true) : R = (rdGs m (drS s)).map (pre (P ++ [⟨drKey nodeP s, drF nodeP s, drL nodeP s⟩])) := by
 rw [h, hn, rdGs_succ, if_pos hb, pre_one]
theorem rdGs_no {R : Option (List (GK) × RS)} {P : List (GK)} {n m : Nat} {s : RS} (h : R = (rdGs n s).map (pre P)) (hn : n = m + 1) (hb : drB nodeP s = false) : R = none := by
 rw [h, hn, rdGs_succ, if_neg (by rw [hb]; decide)]
 rfl
theorem rdGs_end {R : Option (List (GK) × RS)} {P : List (GK)} {n : Nat} {s : RS} (h : R = (rdGs n s).map (pre P)) (hn : n = 0) : R = some (P, s) := by
 rw [h, hn]
 show some (P ++ [], s) = _
 rw [List.append_nil]
theorem rdMs_go {R : Option (List (Int × Int) × RS)} {P : List (Int × Int)} {n m : Nat} {s : RS} (h : R = (rdMs n s).map (pre P)) (hn : n = m + 1) (hb : mrB s = true) : R = (rdMs m (mrS s)).map (pre (P ++ [(mrX s, mrY s)])) := by
 rw [h, hn, rdMs_succ, if_pos hb, pre_one]
theorem rdMs_no {R : Option (List (Int × Int) × RS)} {P : List (Int × Int)} {n m : Nat} {s : RS} (h : R = (rdMs n s).map (pre P)) (hn : n = m + 1) (hb : mrB s = false) : R = none := by
 rw [h, hn, rdMs_succ, if_neg (by rw [hb]; decide)]
 rfl
theorem rdMs_end {R : Option (List (Int × Int) × RS)} {P : List (Int × Int)} {n : Nat} {s : RS} (h : R = (rdMs n s).map (pre P)) (hn : n = 0) : R = some (P, s) := by
 rw [h, hn]
 show some (P ++ [], s) = _
 rw [List.append_nil]
end Go.Proofs.YtmbphlkohlggfaaGreat

namespace Go.Proofs.YtmbphlkohlggfaaGreat
set_option maxRecDepth 100000
open Go.RowKit
theorem OwnG.rowM {w : World} {a : Option Addr} {cap : Nat} {ds : List (Int × Int)} (h : OwnG 60 2 dcs w a cap ds) : RowD w a cap ds := by
 refine ⟨?_, ?_, fun i d hi => ?_⟩
 ·rcases h.row.2 with ⟨hv, h0⟩ | ⟨g, c, cur, hv, hb, hh, hc, -⟩
  ·omega
  ·simp only [Value.slice.injEq] at hv
   obtain ⟨-, -, rfl⟩ := hv
   exact hc
 ·rcases h.row.2 with ⟨hv, h0⟩ | ⟨g, c, cur, hv, hb, hh, hc, hm, -⟩
  ·simp only [Value.slice.injEq] at hv
   omega
  ·simp only [Value.slice.injEq] at hv
   obtain ⟨-, -, rfl⟩ := hv
   unfold maxLen at hm
   omega
 ·obtain ⟨g, rfl, hc⟩ := h.at_ dcs_len hi
  refine ⟨g, 0, rfl, ?_, ?_⟩
  ·have := hc 0 _ rfl
   simpa using this
  ·have := hc 1 _ rfl
   simpa using this
theorem readInt_any {D : Nat → Prop} {b : Nat} {s : RS} {w : World} (hR : Rdr 96 D b s w) :
  Calls Tryz.prog 45 #[.pointer (some ⟨b, 0, none⟩)] w fun e w' => e = .returned (.int .i64 (i64w (numS s).1)) ∧ Rdr 96 D b (numS s).2 w' ∧ Off (fun c => c = b) w w' := by
 obtain ⟨n, hn⟩ : ∃ n, n = (numS s).1 := ⟨_, rfl⟩
 have hz : IntKind.i64.wrap (n : Int) = i64w n := rfl
 obtain ⟨x, hx⟩ : ∃ x, x = i64w n := ⟨_, rfl⟩
 rw [← hx] at hz
 rw [← hn, ← hx]
 have HN : Hid (n = (numS s).1) := hn
 clear hn hx
 go_enter Tryz.func45, Tryz.ntmps45
 go_wp2_with fail
 refine (rnum_any hR).mono ?_
 rw [← HN.out]
 rintro e w1 ⟨rfl, R1, o1⟩
 go_wp2_with fail
 go_ret
 exact ⟨rfl, R1, o1⟩
structure GotE (D : Nat → Prop) (b N : Nat) (R : Option (List (K) × RS)) (e : Ending) (w' : World) : Prop where
 is : (∃ (t : Option Addr) (c : Nat) (k : List (E)) (s' : RS), e = .returned (.tuple #[.slice t k.length c, .bool true]) ∧ R = some (k.map E.abs, s') ∧ Rdr 96 D b s' w' ∧ ∀ v, Off (fun c => c < N) w' v → Ens v t c k) ∨ (e = .returned (.tuple #[.slice none 0 0, .bool false]) ∧ R = none)
set_option maxHeartbeats 4000000 in
theorem readAllE_any {D : Nat → Prop} {b : Nat} {s : RS} {w : World} (hR : Rdr 96 D b s w) :
  Calls Tryz.prog 49 #[.pointer (some ⟨b, 0, none⟩), .int .i64 256, .func (.func 50) #[] #[]] w fun e w' => GotE D b w.heap.size (rdEs (countS 256 s).1 (countS 256 s).2) e w' ∧ Off (fun c => c = b) w w' := by
 obtain ⟨cnt, hcn⟩ : ∃ x, x = (countS 256 s).1 := ⟨_, rfl⟩
 obtain ⟨s2, hs2⟩ : ∃ x, x = (countS 256 s).2 := ⟨_, rfl⟩
 have HCO : Hid (countS 256 s = (cnt, s2)) := by show _ = _; rw [hcn, hs2]
 have HCN : Hid (cnt ≤ 256) := by show _ ≤ _; rw [hcn]; exact (count_ok 256 hR.ok).2.1
 rw [← hcn, ← hs2]
 obtain ⟨R, hR0⟩ : ∃ R, R = rdEs cnt s2 := ⟨_, rfl⟩
 rw [← hR0]
 have HR0 : Hid (R = (rdEs cnt s2).map (pre [])) := by show _ = _; rw [pre_nil, hR0]
 clear hcn hs2 hR0
 have HB : Hid (b < w.heap.size) := hR.here
 have HLD : Hid (∀ c, D c → c < w.heap.size) := hR.lt
 go_enter Tryz.func49, Tryz.ntmps49
 go_wp2_with fail
 refine (rcount_any hR 256 (by decide) (by decide)).mono ?_
 rw [show countS (256 : Int).toNat s = (cnt, s2) from HCO.out]
 dsimp only
 rintro e w0 ⟨rfl, R0, o0⟩
 have HRD0 : Hid _ := R0
 have HO0 : Hid (Off (fun c => c = b) w w0) := o0
 clear R0 o0 hR
 go_wp2_with fail
 go_loopw [8, 14] (fun x y wr => ∃ (i : Nat) (si : RS) (t : Option Addr) (c : Nat) (k : List (E)), y = .int .i64 (i : Int) ∧ x = .slice t k.length c ∧ i ≤ cnt ∧ k.length = i ∧ OwnG 46 10 ecs wr t c k ∧ (∀ i, blk t = some i → w.heap.size ≤ i) ∧ (∀ x ∈ k, AptE w.heap.size t wr x) ∧ R = (rdEs (cnt - i) si).map (pre (k.map E.abs)) ∧ Rdr 96 D b si wr ∧ Off (fun c => c = b) w wr) (fun _ y _ => (cnt - intOf y).toNat)
 case atStart => exact ⟨0, s2, none, 0, [], rfl, rfl, by omega, rfl, OwnG.nil _ _ _ _, fun i hi => by simp [blk] at hi, by simp, HR0.out, HRD0.out, HO0.out⟩
 case round =>
  clear HRD0 HO0 HR0
  obtain ⟨i, si, t, c, k, rfl, rfl, hi, hki, own, hlo, hbl, hR, rd, O⟩ := hrel
  have HOWN : Hid _ := own
  have HLO : Hid _ := hlo
  have HBL : Hid (∀ x ∈ k, AptE w.heap.size t wr x) := hbl
  have HDA : Hid (R = (rdEs (cnt - i) si).map (pre (k.map E.abs))) := hR
  have HKI : Hid (k.length = i) := hki
  have HRD : Hid _ := rd
  have HO : Hid (Off (fun c => c = b) w wr) := O
  clear own hlo hbl hR hki rd O
  have hcn9 := HCN.out
  by_cases hlt : i < cnt
  ·have g1b : decide ((i : Int) < (cnt : Int)) = true := decide_eq_true (by omega)
   have g2b : decide (i < cnt) = true := decide_eq_true hlt
   obtain ⟨ok, hok⟩ : ∃ ok, ok = reB nodeP si := ⟨_, rfl⟩
   go_wp2_with fail
   refine (readEntry_any HRD.out).mono ?_
   rw [← hok]
   rintro e w3 ⟨key, h, a1, c1, l1, rfl, hk, hh, hl, hrow, hfr, R3, o3⟩
   have HOK : Hid _ := hok
   clear hok
   have HK : Hid _ := hk
   have HH : Hid _ := hh
   have HL : Hid _ := hl
   have HNW : Hid ((∀ i, blk t = some i → i < wr.heap.size) → AptE w.heap.size t w3 (⟨key, h, a1, c1, l1⟩ : E)) := AptE.new hrow hfr HO.out.size
   have HR3 : Hid _ := R3
   have HO3 : Hid (Off (fun c => c = b) wr w3) := o3
   clear R3 o3 hk hh hl hrow hfr
   go_upto_region 5 with fail
   have CN := Cel.new w3 46 #[.string key, .int .i64 (h 0), .int .i64 (h 1), .int .i64 (h 2), .int .i64 (h 3), .int .i64 (h 4), .int .i64 (h 5), .int .i64 (h 6), .int .i64 (h 7), .slice a1 l1.length c1]
   have ON : Off (fun _ => False) w3 (w3.alloc (.cells #[.string key, .int .i64 (h 0), .int .i64 (h 1), .int .i64 (h 2), .int .i64 (h 3), .int .i64 (h 4), .int .i64 (h 5), .int .i64 (h 6), .int .i64 (h 7), .slice a1 l1.length c1] 46)) := (Off.refl _ w3).alloc _
   generalize hvv : w3.alloc (.cells #[.string key, .int .i64 (h 0), .int .i64 (h 1), .int .i64 (h 2), .int .i64 (h 3), .int .i64 (h 4), .int .i64 (h 5), .int .i64 (h 6), .int .i64 (h 7), .slice a1 l1.length c1] 46) = w4 at CN ON ⊢
   generalize hpp : w3.heap.size = pp at CN ⊢
   clear hvv hpp
   have HR4 : Hid _ := HR3.out.off ON (fun h => h) (fun _ _ _ h => h)
   have HO4 : Hid (Off (fun c => c = b) wr w4) := HO3.out.trans (ON.mono (fun _ _ h => h.elim)) (fun _ _ h => h)
   have HNW4 : Hid ((∀ i, blk t = some i → i < wr.heap.size) → AptE w.heap.size t w4 (⟨key, h, a1, c1, l1⟩ : E)) := fun h => (HNW.out h).off (b := b) (ON.mono (fun _ _ h => h.elim)) HB.out
   clear HNW
   clear ON HR3 HO3
   cases ok with
   | false =>
    go_wp2_with fail
    refine bodyPost_ret (results_tmp2 rfl _ _ _) rfl ?_
    exact ⟨⟨.inr ⟨rfl, rdEs_no HDA.out (m := cnt - i - 1) (by omega) HOK.out.symm⟩⟩, HO.out.trans HO4.out (fun _ _ h => h)⟩
   | true =>
    have z0 := CN.cell 0
    have z1 := CN.cell 1
    have z2 := CN.cell 2
    have z3 := CN.cell 3
    have z4 := CN.cell 4
    have z5 := CN.cell 5
    have z6 := CN.cell 6
    have z7 := CN.cell 7
    have z8 := CN.cell 8
    have z9 := CN.cell 9
    simp at z0 z1 z2 z3 z4 z5 z6 z7 z8 z9
    clear CN
    obtain ⟨u, hu⟩ : ∃ u, u = (⟨key, h, a1, c1, l1⟩ : E) := ⟨_, rfl⟩
    have HU : Hid (u = (⟨key, h, a1, c1, l1⟩ : E)) := hu
    have ecu : ecs u = [.string key, .int .i64 (h 0), .int .i64 (h 1), .int .i64 (h 2), .int .i64 (h 3), .int .i64 (h 4), .int .i64 (h 5), .int .i64 (h 6), .int .i64 (h 7), .slice a1 l1.length c1] := by rw [hu]; rfl
    clear hu
    have OA : Off (fun _ => False) w4 (w4.alloc (.cells #[.string key, .int .i64 (h 0), .int .i64 (h 1), .int .i64 (h 2), .int .i64 (h 3), .int .i64 (h 4), .int .i64 (h 5), .int .i64 (h 6), .int .i64 (h 7), .slice a1 l1.length c1] 46)) := (Off.refl _ w4).alloc _
    have own5 := (HOWN.out.off HO4.out (fun c h e => by have := HLO.out c (by first | exact h | exact e); have := HB.out; omega)).off OA (fun _ _ _ h => h)
    have cn := Cel.new w4 46 #[.string key, .int .i64 (h 0), .int .i64 (h 1), .int .i64 (h 2), .int .i64 (h 3), .int .i64 (h 4), .int .i64 (h 5), .int .i64 (h 6), .int .i64 (h 7), .slice a1 l1.length c1]
    have hcn : ∀ j x, (ecs u)[j]? = some x → (w4.alloc (.cells #[.string key, .int .i64 (h 0), .int .i64 (h 1), .int .i64 (h 2), .int .i64 (h 3), .int .i64 (h 4), .int .i64 (h 5), .int .i64 (h 6), .int .i64 (h 7), .slice a1 l1.length c1] 46)).cell? ⟨w4.heap.size, j, none⟩ = some x := fun j x hj => by
     rw [cn.cell j]
     rw [ecu] at hj
     simpa using hj
    have HOA : Hid _ := OA
    have hk1 : k.length ≤ 1000000 := by have := HKI.out; have := HCN.out; omega
    clear OA cn ecu
    go_wp2_with (at_builtin; refine wpList_appG rfl (.tmp 24) (.tmp 26) Tryz.underlying22 Tryz.infoE rfl (by decide) (by decide) ecs_len ecs_one rfl t c k rfl own5 w4.heap.size 1 u rfl hcn hk1 ?_; intro t' c' w' ys hys own' off' at')
    have HYS : Hid _ := hys.out
    have hyl : ys.length = k.length + 1 := by rw [hys.out]; simp
    have HYL : Hid _ := hyl
    clear hys hyl hk1
    have HOW' : Hid _ := own'
    have HOF' : Hid _ := off'
    have HAT' : Hid _ := at'
    clear own' off' own5 hcn at' z0 z1 z2 z3 z4 z5 z6 z7 z8 z9
    go_wp2_with fail
    go_roundw
    case rel =>
     have hyl := HYL.out
     have hki := HKI.out
     have s4 := HO4.out.size
     have so := HO.out.size
     have at' := HAT'.out
     have sa := HOA.out.size
     have hb := HB.out
     have hcn := HCN.out
     have tf : ∀ i, blk t' = some i → w.heap.size ≤ i := fun i hi => by
      rcases at' with h9 | h9
      ·exact HLO.out i (h9 ▸ hi)
      ·rw [h9] at hi; simp only [World.size_alloc, Option.some.injEq] at hi; omega
     refine ⟨i + 1, reS si, t', c', ys, by go_num, rfl, by omega, by omega, HOW'.out, tf, fun x hx => ?_, ?_, ?_, (HO.out.trans (HO4.out.trans (HOA.out.mono (fun _ _ h => h.elim)) (fun _ _ h => h)) (fun _ _ h => h)).trans HOF'.out (fun i hi e => by have := HLO.out i e; omega)⟩
     ·rw [HYS.out, List.mem_append, List.mem_singleton] at hx
      rcases hx with hx | rfl
      ·exact (((HBL.out x hx).off HO4.out HB.out).off (b := b) (HOA.out.mono (fun _ _ h => h.elim)) HB.out).app HOF'.out at'
      ·rw [HU.out]
       exact ((HNW4.out HOWN.out.lt).off (b := b) (HOA.out.mono (fun _ _ h => h.elim)) HB.out).app HOF'.out at'
     ·have h1 := rdEs_go HDA.out (m := cnt - (i + 1)) (by omega) HOK.out.symm
      rw [HYS.out, List.map_append, List.map_singleton, HU.out, show E.abs (⟨key, h, a1, c1, l1⟩ : E) = (⟨reKey nodeP si, reF nodeP si, reL nodeP si⟩ : K) from by show K.mk _ _ _ = K.mk _ _ _; rw [← HK.out, ← HH.out, ← HL.out]]
      exact h1
     ·exact (HR4.out.off HOA.out (fun h => h) (fun _ _ _ h => h)).off HOF'.out (fun e => by have := HLO.out b e; omega) (fun c _ hc e => by have := HLO.out c e; have := HLD.out c hc; omega)
    case measure => simp [intOf]; omega
  ·obtain rfl : i = cnt := by omega
   have g1b : decide ((i : Int) < (i : Int)) = false := decide_eq_false (by omega)
   have g2b : decide (i < i) = false := decide_eq_false (by omega)
   go_wp2_with fail
   refine bodyPost_ret (results_tmp2 rfl _ _ _) rfl ?_
   exact ⟨⟨.inl ⟨t, c, k, si, rfl, rdEs_end HDA.out (by omega), HRD.out, fun v o => (HOWN.out.off o (fun c h e => by have := HLO.out c (by first | exact h | exact e); omega)).ens (fun x hx => (HBL.out x hx).keep o)⟩⟩, HO.out⟩
structure GotD (D : Nat → Prop) (b N : Nat) (R : Option (List (GK) × RS)) (e : Ending) (w' : World) : Prop where
 is : (∃ (t : Option Addr) (c : Nat) (k : List (G)) (s' : RS), e = .returned (.tuple #[.slice t k.length c, .bool true]) ∧ R = some (k.map G.abs, s') ∧ Rdr 96 D b s' w' ∧ ∀ v, Off (fun c => c < N) w' v → Dgs v t c k) ∨ (e = .returned (.tuple #[.slice none 0 0, .bool false]) ∧ R = none)
set_option maxHeartbeats 4000000 in
theorem readAllD_any {D : Nat → Prop} {b : Nat} {s : RS} {w : World} (hR : Rdr 96 D b s w) :
  Calls Tryz.prog 51 #[.pointer (some ⟨b, 0, none⟩), .int .i64 256, .func (.func 52) #[] #[]] w fun e w' => GotD D b w.heap.size (rdGs (countS 256 s).1 (countS 256 s).2) e w' ∧ Off (fun c => c = b) w w' := by
 obtain ⟨cnt, hcn⟩ : ∃ x, x = (countS 256 s).1 := ⟨_, rfl⟩
 obtain ⟨s2, hs2⟩ : ∃ x, x = (countS 256 s).2 := ⟨_, rfl⟩
 have HCO : Hid (countS 256 s = (cnt, s2)) := by show _ = _; rw [hcn, hs2]
 have HCN : Hid (cnt ≤ 256) := by show _ ≤ _; rw [hcn]; exact (count_ok 256 hR.ok).2.1
 rw [← hcn, ← hs2]
 obtain ⟨R, hR0⟩ : ∃ R, R = rdGs cnt s2 := ⟨_, rfl⟩
 rw [← hR0]
 have HR0 : Hid (R = (rdGs cnt s2).map (pre [])) := by show _ = _; rw [pre_nil, hR0]
 clear hcn hs2 hR0
 have HB : Hid (b < w.heap.size) := hR.here
 have HLD : Hid (∀ c, D c → c < w.heap.size) := hR.lt
 go_enter Tryz.func51, Tryz.ntmps51
 go_wp2_with fail
 refine (rcount_any hR 256 (by decide) (by decide)).mono ?_
 rw [show countS (256 : Int).toNat s = (cnt, s2) from HCO.out]
 dsimp only
 rintro e w0 ⟨rfl, R0, o0⟩
 have HRD0 : Hid _ := R0
 have HO0 : Hid (Off (fun c => c = b) w w0) := o0
 clear R0 o0 hR
 go_wp2_with fail
 go_loopw [8, 14] (fun x y wr => ∃ (i : Nat) (si : RS) (t : Option Addr) (c : Nat) (k : List (G)), y = .int .i64 (i : Int) ∧ x = .slice t k.length c ∧ i ≤ cnt ∧ k.length = i ∧ OwnG 49 10 gcs wr t c k ∧ (∀ i, blk t = some i → w.heap.size ≤ i) ∧ (∀ x ∈ k, AptD w.heap.size t wr x) ∧ R = (rdGs (cnt - i) si).map (pre (k.map G.abs)) ∧ Rdr 96 D b si wr ∧ Off (fun c => c = b) w wr) (fun _ y _ => (cnt - intOf y).toNat)
 case atStart => exact ⟨0, s2, none, 0, [], rfl, rfl, by omega, rfl, OwnG.nil _ _ _ _, fun i hi => by simp [blk] at hi, by simp, HR0.out, HRD0.out, HO0.out⟩
 case round =>
  clear HRD0 HO0 HR0
  obtain ⟨i, si, t, c, k, rfl, rfl, hi, hki, own, hlo, hbl, hR, rd, O⟩ := hrel
  have HOWN : Hid _ := own
  have HLO : Hid _ := hlo
  have HBL : Hid (∀ x ∈ k, AptD w.heap.size t wr x) := hbl
  have HDA : Hid (R = (rdGs (cnt - i) si).map (pre (k.map G.abs))) := hR
  have HKI : Hid (k.length = i) := hki
  have HRD : Hid _ := rd
  have HO : Hid (Off (fun c => c = b) w wr) := O
  clear own hlo hbl hR hki rd O
  have hcn9 := HCN.out
  by_cases hlt : i < cnt
  ·have g1b : decide ((i : Int) < (cnt : Int)) = true := decide_eq_true (by omega)
   have g2b : decide (i < cnt) = true := decide_eq_true hlt
   obtain ⟨ok, hok⟩ : ∃ ok, ok = drB nodeP si := ⟨_, rfl⟩
   go_wp2_with fail
   refine (dread_any HRD.out).mono ?_
   rw [← hok]
   rintro e w3 ⟨key, h, a1, c1, l1, rfl, hk, hh, hl, hrow, hfr, R3, o3⟩
   have HOK : Hid _ := hok
   clear hok
   have HK : Hid _ := hk
   have HH : Hid _ := hh
   have HL : Hid _ := hl
   have HNW : Hid ((∀ i, blk t = some i → i < wr.heap.size) → AptD w.heap.size t w3 (⟨key, h, a1, c1, l1⟩ : G)) := AptD.new hrow hfr HO.out.size
   have HR3 : Hid _ := R3
   have HO3 : Hid (Off (fun c => c = b) wr w3) := o3
   clear R3 o3 hk hh hl hrow hfr
   go_upto_region 5 with fail
   have CN := Cel.new w3 49 #[.string key, .int .i64 (h 0), .int .i64 (h 1), .int .i64 (h 2), .int .i64 (h 3), .int .i64 (h 4), .int .i64 (h 5), .int .i64 (h 6), .int .i64 (h 7), .slice a1 l1.length c1]
   have ON : Off (fun _ => False) w3 (w3.alloc (.cells #[.string key, .int .i64 (h 0), .int .i64 (h 1), .int .i64 (h 2), .int .i64 (h 3), .int .i64 (h 4), .int .i64 (h 5), .int .i64 (h 6), .int .i64 (h 7), .slice a1 l1.length c1] 49)) := (Off.refl _ w3).alloc _
   generalize hvv : w3.alloc (.cells #[.string key, .int .i64 (h 0), .int .i64 (h 1), .int .i64 (h 2), .int .i64 (h 3), .int .i64 (h 4), .int .i64 (h 5), .int .i64 (h 6), .int .i64 (h 7), .slice a1 l1.length c1] 49) = w4 at CN ON ⊢
   generalize hpp : w3.heap.size = pp at CN ⊢
   clear hvv hpp
   have HR4 : Hid _ := HR3.out.off ON (fun h => h) (fun _ _ _ h => h)
   have HO4 : Hid (Off (fun c => c = b) wr w4) := HO3.out.trans (ON.mono (fun _ _ h => h.elim)) (fun _ _ h => h)
   have HNW4 : Hid ((∀ i, blk t = some i → i < wr.heap.size) → AptD w.heap.size t w4 (⟨key, h, a1, c1, l1⟩ : G)) := fun h => (HNW.out h).off (b := b) (ON.mono (fun _ _ h => h.elim)) HB.out
   clear HNW
   clear ON HR3 HO3
   cases ok with
   | false =>
    go_wp2_with fail
    refine bodyPost_ret (results_tmp2 rfl _ _ _) rfl ?_
    exact ⟨⟨.inr ⟨rfl, rdGs_no HDA.out (m := cnt - i - 1) (by omega) HOK.out.symm⟩⟩, HO.out.trans HO4.out (fun _ _ h => h)⟩
   | true =>
    have z0 := CN.cell 0
    have z1 := CN.cell 1
    have z2 := CN.cell 2
    have z3 := CN.cell 3
    have z4 := CN.cell 4
    have z5 := CN.cell 5
    have z6 := CN.cell 6
    have z7 := CN.cell 7
    have z8 := CN.cell 8
    have z9 := CN.cell 9
    simp at z0 z1 z2 z3 z4 z5 z6 z7 z8 z9
    clear CN
    obtain ⟨u, hu⟩ : ∃ u, u = (⟨key, h, a1, c1, l1⟩ : G) := ⟨_, rfl⟩
    have HU : Hid (u = (⟨key, h, a1, c1, l1⟩ : G)) := hu
    have ecu : gcs u = [.string key, .int .i64 (h 0), .int .i64 (h 1), .int .i64 (h 2), .int .i64 (h 3), .int .i64 (h 4), .int .i64 (h 5), .int .i64 (h 6), .int .i64 (h 7), .slice a1 l1.length c1] := by rw [hu]; rfl
    clear hu
    have OA : Off (fun _ => False) w4 (w4.alloc (.cells #[.string key, .int .i64 (h 0), .int .i64 (h 1), .int .i64 (h 2), .int .i64 (h 3), .int .i64 (h 4), .int .i64 (h 5), .int .i64 (h 6), .int .i64 (h 7), .slice a1 l1.length c1] 49)) := (Off.refl _ w4).alloc _
    have own5 := (HOWN.out.off HO4.out (fun c h e => by have := HLO.out c (by first | exact h | exact e); have := HB.out; omega)).off OA (fun _ _ _ h => h)
    have cn := Cel.new w4 49 #[.string key, .int .i64 (h 0), .int .i64 (h 1), .int .i64 (h 2), .int .i64 (h 3), .int .i64 (h 4), .int .i64 (h 5), .int .i64 (h 6), .int .i64 (h 7), .slice a1 l1.length c1]
    have hcn : ∀ j x, (gcs u)[j]? = some x → (w4.alloc (.cells #[.string key, .int .i64 (h 0), .int .i64 (h 1), .int .i64 (h 2), .int .i64 (h 3), .int .i64 (h 4), .int .i64 (h 5), .int .i64 (h 6), .int .i64 (h 7), .slice a1 l1.length c1] 49)).cell? ⟨w4.heap.size, j, none⟩ = some x := fun j x hj => by
     rw [cn.cell j]
     rw [ecu] at hj
     simpa using hj
    have HOA : Hid _ := OA
    have hk1 : k.length ≤ 1000000 := by have := HKI.out; have := HCN.out; omega
    clear OA cn ecu
    go_wp2_with (at_builtin; refine wpList_appG rfl (.tmp 24) (.tmp 26) Tryz.underlying23 Tryz.infoG rfl (by decide) (by decide) gcs_len gcs_one rfl t c k rfl own5 w4.heap.size 1 u rfl hcn hk1 ?_; intro t' c' w' ys hys own' off' at')
    have HYS : Hid _ := hys.out
    have hyl : ys.length = k.length + 1 := by rw [hys.out]; simp
    have HYL : Hid _ := hyl
    clear hys hyl hk1
    have HOW' : Hid _ := own'
    have HOF' : Hid _ := off'
    have HAT' : Hid _ := at'
    clear own' off' own5 hcn at' z0 z1 z2 z3 z4 z5 z6 z7 z8 z9
    go_wp2_with fail
    go_roundw
    case rel =>
     have hyl := HYL.out
     have hki := HKI.out
     have s4 := HO4.out.size
     have so := HO.out.size
     have at' := HAT'.out
     have sa := HOA.out.size
     have hb := HB.out
     have hcn := HCN.out
     have tf : ∀ i, blk t' = some i → w.heap.size ≤ i := fun i hi => by
      rcases at' with h9 | h9
      ·exact HLO.out i (h9 ▸ hi)
      ·rw [h9] at hi; simp only [World.size_alloc, Option.some.injEq] at hi; omega
     refine ⟨i + 1, drS si, t', c', ys, by go_num, rfl, by omega, by omega, HOW'.out, tf, fun x hx => ?_, ?_, ?_, (HO.out.trans (HO4.out.trans (HOA.out.mono (fun _ _ h => h.elim)) (fun _ _ h => h)) (fun _ _ h => h)).trans HOF'.out (fun i hi e => by have := HLO.out i e; omega)⟩
     ·rw [HYS.out, List.mem_append, List.mem_singleton] at hx
      rcases hx with hx | rfl
      ·exact (((HBL.out x hx).off HO4.out HB.out).off (b := b) (HOA.out.mono (fun _ _ h => h.elim)) HB.out).app HOF'.out at'
      ·rw [HU.out]
       exact ((HNW4.out HOWN.out.lt).off (b := b) (HOA.out.mono (fun _ _ h => h.elim)) HB.out).app HOF'.out at'
     ·have h1 := rdGs_go HDA.out (m := cnt - (i + 1)) (by omega) HOK.out.symm
      rw [HYS.out, List.map_append, List.map_singleton, HU.out, show G.abs (⟨key, h, a1, c1, l1⟩ : G) = (⟨drKey nodeP si, drF nodeP si, drL nodeP si⟩ : GK) from by show GK.mk _ _ _ = GK.mk _ _ _; rw [← HK.out, ← HH.out, ← HL.out]]
      exact h1
     ·exact (HR4.out.off HOA.out (fun h => h) (fun _ _ _ h => h)).off HOF'.out (fun e => by have := HLO.out b e; omega) (fun c _ hc e => by have := HLO.out c e; have := HLD.out c hc; omega)
    case measure => simp [intOf]; omega
  ·obtain rfl : i = cnt := by omega
   have g1b : decide ((i : Int) < (i : Int)) = false := decide_eq_false (by omega)
   have g2b : decide (i < i) = false := decide_eq_false (by omega)
   go_wp2_with fail
   refine bodyPost_ret (results_tmp2 rfl _ _ _) rfl ?_
   exact ⟨⟨.inl ⟨t, c, k, si, rfl, rdGs_end HDA.out (by omega), HRD.out, fun v o => (HOWN.out.off o (fun c h e => by have := HLO.out c (by first | exact h | exact e); omega)).dgs (fun x hx => (HBL.out x hx).keep o)⟩⟩, HO.out⟩
structure GotM (D : Nat → Prop) (b N : Nat) (R : Option (List (Int × Int) × RS)) (e : Ending) (w' : World) : Prop where
 is : (∃ (t : Option Addr) (c : Nat) (k : List (Int × Int)) (s' : RS), e = .returned (.tuple #[.slice t k.length c, .bool true]) ∧ R = some (k, s') ∧ Rdr 96 D b s' w' ∧ ∀ v, Off (fun c => c < N) w' v → RowD v t c k) ∨ (e = .returned (.tuple #[.slice none 0 0, .bool false]) ∧ R = none)
set_option maxHeartbeats 4000000 in
theorem readAllM_any {D : Nat → Prop} {b : Nat} {s : RS} {w : World} (hR : Rdr 96 D b s w) :
  Calls Tryz.prog 53 #[.pointer (some ⟨b, 0, none⟩), .int .i64 8, .func (.func 54) #[] #[]] w fun e w' => GotM D b w.heap.size (rdMs (countS 8 s).1 (countS 8 s).2) e w' ∧ Off (fun c => c = b) w w' := by
 obtain ⟨cnt, hcn⟩ : ∃ x, x = (countS 8 s).1 := ⟨_, rfl⟩
 obtain ⟨s2, hs2⟩ : ∃ x, x = (countS 8 s).2 := ⟨_, rfl⟩
 have HCO : Hid (countS 8 s = (cnt, s2)) := by show _ = _; rw [hcn, hs2]
 have HCN : Hid (cnt ≤ 8) := by show _ ≤ _; rw [hcn]; exact (count_ok 8 hR.ok).2.1
 rw [← hcn, ← hs2]
 obtain ⟨R, hR0⟩ : ∃ R, R = rdMs cnt s2 := ⟨_, rfl⟩
 rw [← hR0]
 have HR0 : Hid (R = (rdMs cnt s2).map (pre [])) := by show _ = _; rw [pre_nil, hR0]
 clear hcn hs2 hR0
 have HB : Hid (b < w.heap.size) := hR.here
 have HLD : Hid (∀ c, D c → c < w.heap.size) := hR.lt
 go_enter Tryz.func53, Tryz.ntmps53
 go_wp2_with fail
 refine (rcount_any hR 8 (by decide) (by decide)).mono ?_
 rw [show countS (8 : Int).toNat s = (cnt, s2) from HCO.out]
 dsimp only
 rintro e w0 ⟨rfl, R0, o0⟩
 have HRD0 : Hid _ := R0
 have HO0 : Hid (Off (fun c => c = b) w w0) := o0
 clear R0 o0 hR
 go_wp2_with fail
 go_loopw [8, 14] (fun x y wr => ∃ (i : Nat) (si : RS) (t : Option Addr) (c : Nat) (k : List (Int × Int)), y = .int .i64 (i : Int) ∧ x = .slice t k.length c ∧ i ≤ cnt ∧ k.length = i ∧ OwnG 60 2 dcs wr t c k ∧ (∀ i, blk t = some i → w.heap.size ≤ i) ∧ (∀ x ∈ k, AptM w.heap.size t wr x) ∧ R = (rdMs (cnt - i) si).map (pre (k)) ∧ Rdr 96 D b si wr ∧ Off (fun c => c = b) w wr) (fun _ y _ => (cnt - intOf y).toNat)
 case atStart => exact ⟨0, s2, none, 0, [], rfl, rfl, by omega, rfl, OwnG.nil _ _ _ _, fun i hi => by simp [blk] at hi, by simp, HR0.out, HRD0.out, HO0.out⟩
 case round =>
  clear HRD0 HO0 HR0
  obtain ⟨i, si, t, c, k, rfl, rfl, hi, hki, own, hlo, hbl, hR, rd, O⟩ := hrel
  have HOWN : Hid _ := own
  have HLO : Hid _ := hlo
  have HBL : Hid (∀ x ∈ k, AptM w.heap.size t wr x) := hbl
  have HDA : Hid (R = (rdMs (cnt - i) si).map (pre (k))) := hR
  have HKI : Hid (k.length = i) := hki
  have HRD : Hid _ := rd
  have HO : Hid (Off (fun c => c = b) w wr) := O
  clear own hlo hbl hR hki rd O
  have hcn9 := HCN.out
  by_cases hlt : i < cnt
  ·have g1b : decide ((i : Int) < (cnt : Int)) = true := decide_eq_true (by omega)
   have g2b : decide (i < cnt) = true := decide_eq_true hlt
   obtain ⟨ok, hok⟩ : ∃ ok, ok = mrB si := ⟨_, rfl⟩
   go_wp2_with fail
   refine (mread_any HRD.out).mono ?_
   rw [← hok]
   rintro e w3 ⟨rfl, R3, o3⟩
   have HOK : Hid _ := hok
   clear hok
   have HR3 : Hid _ := R3
   have HO3 : Hid (Off (fun c => c = b) wr w3) := o3
   clear R3 o3
   go_upto_region 5 with fail
   have CN := Cel.new w3 60 #[.int .i64 (mrX si), .int .i64 (mrY si)]
   have ON : Off (fun _ => False) w3 (w3.alloc (.cells #[.int .i64 (mrX si), .int .i64 (mrY si)] 60)) := (Off.refl _ w3).alloc _
   generalize hvv : w3.alloc (.cells #[.int .i64 (mrX si), .int .i64 (mrY si)] 60) = w4 at CN ON ⊢
   generalize hpp : w3.heap.size = pp at CN ⊢
   clear hvv hpp
   have HR4 : Hid _ := HR3.out.off ON (fun h => h) (fun _ _ _ h => h)
   have HO4 : Hid (Off (fun c => c = b) wr w4) := HO3.out.trans (ON.mono (fun _ _ h => h.elim)) (fun _ _ h => h)
   clear ON HR3 HO3
   cases ok with
   | false =>
    go_wp2_with fail
    refine bodyPost_ret (results_tmp2 rfl _ _ _) rfl ?_
    exact ⟨⟨.inr ⟨rfl, rdMs_no HDA.out (m := cnt - i - 1) (by omega) HOK.out.symm⟩⟩, HO.out.trans HO4.out (fun _ _ h => h)⟩
   | true =>
    have z0 := CN.cell 0
    have z1 := CN.cell 1
    simp at z0 z1
    clear CN
    obtain ⟨u, hu⟩ : ∃ u, u = ((mrX si, mrY si) : Int × Int) := ⟨_, rfl⟩
    have HU : Hid (u = ((mrX si, mrY si) : Int × Int)) := hu
    have ecu : dcs u = [.int .i64 (mrX si), .int .i64 (mrY si)] := by rw [hu]; rfl
    clear hu
    have OA : Off (fun _ => False) w4 (w4.alloc (.cells #[.int .i64 (mrX si), .int .i64 (mrY si)] 60)) := (Off.refl _ w4).alloc _
    have own5 := (HOWN.out.off HO4.out (fun c h e => by have := HLO.out c (by first | exact h | exact e); have := HB.out; omega)).off OA (fun _ _ _ h => h)
    have cn := Cel.new w4 60 #[.int .i64 (mrX si), .int .i64 (mrY si)]
    have hcn : ∀ j x, (dcs u)[j]? = some x → (w4.alloc (.cells #[.int .i64 (mrX si), .int .i64 (mrY si)] 60)).cell? ⟨w4.heap.size, j, none⟩ = some x := fun j x hj => by
     rw [cn.cell j]
     rw [ecu] at hj
     simpa using hj
    have HOA : Hid _ := OA
    have hk1 : k.length ≤ 1000000 := by have := HKI.out; have := HCN.out; omega
    clear OA cn ecu
    go_wp2_with (at_builtin; refine wpList_appG rfl (.tmp 24) (.tmp 26) Tryz.underlying24 Tryz.infoMb rfl (by decide) (by decide) dcs_len dcs_one rfl t c k rfl own5 w4.heap.size 1 u rfl hcn hk1 ?_; intro t' c' w' ys hys own' off' at')
    have HYS : Hid _ := hys.out
    have hyl : ys.length = k.length + 1 := by rw [hys.out]; simp
    have HYL : Hid _ := hyl
    clear hys hyl hk1
    have HOW' : Hid _ := own'
    have HOF' : Hid _ := off'
    have HAT' : Hid _ := at'
    clear own' off' own5 hcn at' z0 z1
    go_wp2_with fail
    go_roundw
    case rel =>
     have hyl := HYL.out
     have hki := HKI.out
     have s4 := HO4.out.size
     have so := HO.out.size
     have at' := HAT'.out
     have sa := HOA.out.size
     have hb := HB.out
     have hcn := HCN.out
     have tf : ∀ i, blk t' = some i → w.heap.size ≤ i := fun i hi => by
      rcases at' with h9 | h9
      ·exact HLO.out i (h9 ▸ hi)
      ·rw [h9] at hi; simp only [World.size_alloc, Option.some.injEq] at hi; omega
     refine ⟨i + 1, mrS si, t', c', ys, by go_num, rfl, by omega, by omega, HOW'.out, tf, fun x hx => ?_, ?_, ?_, (HO.out.trans (HO4.out.trans (HOA.out.mono (fun _ _ h => h.elim)) (fun _ _ h => h)) (fun _ _ h => h)).trans HOF'.out (fun i hi e => by have := HLO.out i e; omega)⟩
     ·exact ⟨trivial⟩
     ·have h1 := rdMs_go HDA.out (m := cnt - (i + 1)) (by omega) HOK.out.symm
      rw [HYS.out, HU.out]
      exact h1
     ·exact (HR4.out.off HOA.out (fun h => h) (fun _ _ _ h => h)).off HOF'.out (fun e => by have := HLO.out b e; omega) (fun c _ hc e => by have := HLO.out c e; have := HLD.out c hc; omega)
    case measure => simp [intOf]; omega
  ·obtain rfl : i = cnt := by omega
   have g1b : decide ((i : Int) < (i : Int)) = false := decide_eq_false (by omega)
   have g2b : decide (i < i) = false := decide_eq_false (by omega)
   go_wp2_with fail
   refine bodyPost_ret (results_tmp2 rfl _ _ _) rfl ?_
   exact ⟨⟨.inl ⟨t, c, k, si, rfl, rdMs_end HDA.out (by omega), HRD.out, fun v o => (HOWN.out.off o (fun c h e => by have := HLO.out c (by first | exact h | exact e); omega)).rowM⟩⟩, HO.out⟩
end Go.Proofs.YtmbphlkohlggfaaGreat
