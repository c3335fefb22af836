/- Items of several texts. -/
import Derived.Deep.Cut
import Derived.Deep.RegionHeld
import Derived.Test.YtmbphlkohlggfaaGreatADr0
namespace Go.Proofs.YtmbphlkohlggfaaGreat
open Go.RowKit
set_option maxRecDepth 100000 in
set_option maxHeartbeats 1500000 in
theorem gdread_any {D : Nat → Prop} {b : Nat} {s : RS} {w : World} (hR : Rdr 68 D b s w) :
  Calls Tryz.prog 28 #[.pointer (some ⟨b, 0, none⟩)] w fun e w' => ∃ (key : ByteArray) (h : Nat → Int) (a' : Option Addr) (c' : Nat) (ds : List (Int × Int)), e = .returned (.tuple #[.agg #[.string key, .int .i64 (h 0), .int .i64 (h 1), .int .i64 (h 2), .int .i64 (h 3), .int .i64 (h 4), .int .i64 (h 5), .int .i64 (h 6), .int .i64 (h 7), .slice a' ds.length c'], .bool (drB nodeR s)]) ∧ key = drKey nodeR s ∧ h = drF nodeR s ∧ ds = drL nodeR s ∧ RowD w' a' c' ds ∧ NewA w.heap.size a' ∧ Rdr 68 D b (drS s) w' ∧ Off (fun c => c = b) w w' := by
 have hnot := not_any
 have HB : Hid (b < w.heap.size) := hR.here
 have HLD : Hid (∀ c, D c → c < w.heap.size) := hR.lt
 obtain ⟨kt, hkt⟩ : ∃ x, x = (textS 32 s).1 := ⟨_, rfl⟩
 obtain ⟨s1, hs1⟩ : ∃ x, x = drT s := ⟨_, rfl⟩
 have HE : Hid (textS (32 : Int).toNat s = (kt, s1)) := by show _ = _; rw [hkt, hs1]; rfl
 have HKT : Hid (strOf kt = drK s) := by show _ = _; rw [hkt]; rfl
 obtain ⟨fF, hfF⟩ : ∃ f, f = readF s1 := ⟨_, rfl⟩
 obtain ⟨okB, hokB⟩ : ∃ x, x = readB s1 := ⟨_, rfl⟩
 obtain ⟨cnt, hcn⟩ : ∃ x, x = (countS 16 (rdV s1 8)).1 := ⟨_, rfl⟩
 obtain ⟨s2, hs2⟩ : ∃ x, x = (countS 16 (rdV s1 8)).2 := ⟨_, rfl⟩
 have HCN : Hid (countS 16 (rdV s1 8) = (cnt, s2)) := by show _ = _; rw [hcn, hs2]
 have hok1 : Ok s1 := by rw [hs1]; exact text_ok 32 hR.ok
 have hc16 : cnt ≤ 16 := by rw [hcn]; exact (count_ok 16 (rdV_ok hok1 8)).2.1
 have HDD : Hid (drD nodeR s = rdDs nodeR cnt s2) := by show _ = _; unfold drD; rw [hcn, hs2, hs1]
 have HDS : Hid (drS s = dtSt s2 cnt) := by show _ = _; unfold drS; rw [hcn, hs2, hs1]
 have HFF0 : Hid (fF = readF (drT s)) := by show _ = _; rw [hfF, hs1]
 have HOK0 : Hid (okB = readB (drT s)) := by show _ = _; rw [hokB, hs1]
 have HFF : Hid _ := hfF
 have HOK : Hid _ := hokB
 clear hkt hfF hokB hcn hs2 hok1 hs1
 have C2 := Cel.new w 49 #[.string ⟨#[]⟩, .int .i64 0, .int .i64 0, .int .i64 0, .int .i64 0, .int .i64 0, .int .i64 0, .int .i64 0, .int .i64 0, .slice none 0 0]
 have O : Off (fun _ => False) w (w.alloc (.cells #[.string ⟨#[]⟩, .int .i64 0, .int .i64 0, .int .i64 0, .int .i64 0, .int .i64 0, .int .i64 0, .int .i64 0, .int .i64 0, .slice none 0 0] 49)) := (Off.refl _ w).alloc _
 have R0 := hR.off O (fun h => h) (fun _ _ _ h => h)
 clear hR
 go_enter Tryz.func28, Tryz.ntmps28
 go_upto_region 1 with fail
 generalize hq : w.heap.size = q2 at C2 ⊢
 have HQ2 : Hid (w.heap.size ≤ q2) := by show _ ≤ _; omega
 generalize hv : w.alloc (.cells #[.string ⟨#[]⟩, .int .i64 0, .int .i64 0, .int .i64 0, .int .i64 0, .int .i64 0, .int .i64 0, .int .i64 0, .int .i64 0, .slice none 0 0] 49) = W at C2 O R0 ⊢
 clear hq hv
 go_wp2_with fail
 refine (frtext_any R0 32 (by decide) (by decide)).mono ?_
 rw [HE.out]
 dsimp only
 rintro e w1 ⟨tt, tc, rfl, own, -, R1, o1⟩
 have hcs := conv_src own.src
 rw [HKT.out] at hcs
 obtain ⟨ks, hks⟩ : ∃ x, x = drK s := ⟨_, rfl⟩
 rw [← hks] at hcs
 have HKS : Hid _ := hks
 replace C2 := C2.off o1 (fun e => by have := HB.out; have := HQ2.out; omega)
 have O1 : Off (fun c => c = b) w w1 := (O.mono (fun _ _ h => h.elim)).trans o1 (fun _ _ h => h)
 have HW1 : Hid (w.heap.size ≤ w1.heap.size) := O1.size
 clear R0 o1 O own hks
 go_upto_region 2 with fail
 clear hcs
 have C6 := Cel.new w1 49 #[.string ks, .int .i64 0, .int .i64 0, .int .i64 0, .int .i64 0, .int .i64 0, .int .i64 0, .int .i64 0, .int .i64 0, .slice none 0 0]
 have OA : Off (fun _ => False) w1 (w1.alloc (.cells #[.string ks, .int .i64 0, .int .i64 0, .int .i64 0, .int .i64 0, .int .i64 0, .int .i64 0, .int .i64 0, .int .i64 0, .slice none 0 0] 49)) := (Off.refl _ w1).alloc _
 have hl2 := C2.lt
 generalize hq : w1.heap.size = q6 at C6 hl2 ⊢
 have hq6 : q2 < q6 := by omega
 have hq7 : w.heap.size ≤ q6 := by have := HW1.out; omega
 generalize hv : w1.alloc (.cells #[.string ks, .int .i64 0, .int .i64 0, .int .i64 0, .int .i64 0, .int .i64 0, .int .i64 0, .int .i64 0, .int .i64 0, .slice none 0 0] 49) = w2 at C6 OA ⊢
 clear hq hv hl2
 replace C2 := C2.off OA (fun h => h)
 have O2 := O1.trans (OA.mono (fun _ _ h => h.elim)) (fun _ _ h => h)
 have R2 := R1.off OA (fun h => h) (fun _ _ _ h => h)
 clear R1 OA O1
 go_wp2_with fail
 refine (fvread_any R2).mono ?_
 rw [← HFF.out, ← HOK.out]
 rintro e w3 ⟨rfl, R3, o2⟩
 replace C2 := C2.off o2 (fun e => by have := HB.out; have := HQ2.out; omega)
 replace C6 := C6.off o2 (fun e => by have := HB.out; omega)
 have O3 := O2.trans o2 (fun _ _ h => h)
 clear R2 o2 O2
 go_upto_region 3 with fail
 have C4 := Cel.new w3 41 #[.int .i64 (fF 0), .int .i64 (fF 1), .int .i64 (fF 2), .int .i64 (fF 3), .int .i64 (fF 4), .int .i64 (fF 5), .int .i64 (fF 6), .int .i64 (fF 7)]
 have OA : Off (fun _ => False) w3 (w3.alloc (.cells #[.int .i64 (fF 0), .int .i64 (fF 1), .int .i64 (fF 2), .int .i64 (fF 3), .int .i64 (fF 4), .int .i64 (fF 5), .int .i64 (fF 6), .int .i64 (fF 7)] 41)) := (Off.refl _ w3).alloc _
 generalize hq : w3.heap.size = q4 at C4 ⊢
 generalize hv : w3.alloc (.cells #[.int .i64 (fF 0), .int .i64 (fF 1), .int .i64 (fF 2), .int .i64 (fF 3), .int .i64 (fF 4), .int .i64 (fF 5), .int .i64 (fF 6), .int .i64 (fF 7)] 41) = w5 at C4 OA ⊢
 clear hq hv
 replace C2 := C2.off OA (fun h => h)
 replace C6 := C6.off OA (fun h => h)
 have O5 := O3.trans (OA.mono (fun _ _ h => h.elim)) (fun _ _ h => h)
 have R5 := R3.off OA (fun h => h) (fun _ _ _ h => h)
 clear R3 OA O3
 obtain ⟨x0, x1, x2, x3, x4, x5, x6, x7⟩ := cel8 C4
 obtain ⟨z0, z1, z2, z3, z4, z5, z6, z7, z8, z9⟩ := cel10 C6
 have fz := C6.free
 go_upto_region 4 with fail
 clear x0 x1 x2 x3 x4 x5 x6 x7 z0 z1 z2 z3 z4 z5 z6 z7 z8 z9 fz C4
 have os := (Off.refl (fun c => c = q6) w5).vec9 (b := q6) (.inl rfl) fF
 have D6 := C6.vec9 fF
 replace C2 := C2.off os (fun e => by omega)
 have O4 := O5.vec9 (b := q6) (.inr hq7) fF
 have R4 := R5.off os (fun e => by have := HB.out; omega) (fun c _ hc e => by have := HLD.out c hc; omega)
 generalize hv : ((((((((w5.setCell ⟨q6, 1, none⟩ (.int .i64 (fF 0))).setCell ⟨q6, 2, none⟩ (.int .i64 (fF 1))).setCell ⟨q6, 3, none⟩ (.int .i64 (fF 2))).setCell ⟨q6, 4, none⟩ (.int .i64 (fF 3))).setCell ⟨q6, 5, none⟩ (.int .i64 (fF 4))).setCell ⟨q6, 6, none⟩ (.int .i64 (fF 5))).setCell ⟨q6, 7, none⟩ (.int .i64 (fF 6))).setCell ⟨q6, 8, none⟩ (.int .i64 (fF 7))) = w4 at os D6 C2 O4 R4 ⊢
 clear hv os C6 R5 O5
 have C6 := D6
 clear D6
 have HFF : Hid _ := HFF0.out
 have HOK : Hid _ := HOK0.out
 go_wp2_with fail
 refine (frcount_any R4 16 (by decide) (by decide)).mono ?_
 rw [show countS (16 : Int).toNat (rdV s1 8) = (cnt, s2) from HCN.out]
 dsimp only
 rintro e w8 ⟨rfl, R5, o4⟩
 have HQ6 : Hid (w.heap.size ≤ q6) := hq7
 have HC6 : Hid _ := C6.off o4 (fun e => by have := HB.out; omega)
 have H28 : Hid _ := C2.off o4 (fun e => by have := HB.out; have := HQ2.out; omega)
 have HO8 : Hid (Off (fun c => c = b) w w8) := O4.trans o4 (fun _ _ h => h)
 have HR8 : Hid _ := R5
 have HL6 : Hid (q6 < w8.heap.size) := HC6.out.lt
 have HL2 : Hid (q2 < w8.heap.size) := H28.out.lt
 have HN : Hid (w.heap.size ≤ w8.heap.size) := HO8.out.size
 have HQ26 : Hid (q2 ≠ q6) := by show _ ≠ _; omega
 clear C6 C2 O4 R4 R5 o4 hq6 hq7
 go_wp2_with fail
 go_loopw [20] (fun y wr => ∃ (i : Nat) (lo : List (Int × Int)) (ao : Option Addr) (co : Nat), y = .int .i64 (i : Int) ∧ i ≤ cnt ∧ Cel q6 49 #[.string ks, .int .i64 (fF 0), .int .i64 (fF 1), .int .i64 (fF 2), .int .i64 (fF 3), .int .i64 (fF 4), .int .i64 (fF 5), .int .i64 (fF 6), .int .i64 (fF 7), .slice ao lo.length co] wr ∧ OwnG 93 2 dcs wr ao co lo ∧ (∀ k, blk ao = some k → w8.heap.size ≤ k) ∧ lo.length ≤ i ∧ lo = rdDs nodeR i s2 ∧ Rdr 68 D b (dtSt s2 i) wr ∧ Off (fun c => c = b ∨ c = q6) w8 wr) (fun y _ => (cnt - intOf y).toNat)
 case atStart => exact ⟨0, [], none, 0, rfl, by omega, HC6.out, OwnG.nil _ _ _ _, fun k hk => by simp [blk] at hk, by simp, by simp [rdDs], HR8.out, Off.refl _ _⟩
 case round =>
  clear HC6 HR8
  obtain ⟨i, lo, ao, co, rfl, hi, bx, mk, mka, hlol, hlo, rd, po⟩ := hrel
  have HBX : Hid _ := bx
  have HMK : Hid _ := mk
  have HMA : Hid _ := mka
  have HLO : Hid _ := hlo
  have HRD : Hid _ := rd
  have HPO : Hid (Off (fun c => c = b ∨ c = q6) w8 wr) := po
  clear bx mk mka hlo rd po
  by_cases hil : i < cnt
  ·have i1 : decide ((i : Int) < (cnt : Int)) = true := decide_eq_true (by omega)
   have i2 : decide (i < cnt) = true := decide_eq_true hil
   go_upto_region 6 with fail
   have HSW : Hid (w8.heap.size ≤ wr.heap.size) := HPO.out.size
   refine wp_region_held_drew (S := fun w' => Off (fun c => c = b ∨ c = q6 ∨ blk ao = some c) wr w') (by kernel_rfl) ((Off.refl _ wr).drew) (fun hS => ?_)
   have BX := HBX.out.drew
   have OWN := HMK.out.off ((Off.refl (fun _ => False) wr).drew) (fun _ _ _ h => h)
   have RD := HRD.out.off ((Off.refl (fun _ => False) wr).drew) (fun h => h) (fun _ _ _ h => h)
   have MKA : Hid (∀ k, blk ao = some k → w8.heap.size ≤ k) := HMA.out
   have hv1 : wr.drew.heap.size = wr.heap.size := rfl
   generalize hdr : wr.drew = va at BX OWN RD hS hv1 ⊢
   clear hdr
   refine take_at (i := 0) 22 (v := .pointer (some ⟨q6, 9, none⟩)) rfl rfl (by kernel_rfl) (by kernel_rfl) (by kernel_rfl) (fun _ _ _ h => h) (Or.inl ⟨by rfl, fun w' hw' => by go_simp⟩) hS ?_
   simp only [Act.put, lsA, lsZ, lsS]
   refine take_at (i := 2) 24 (v := .pointer (some ⟨b, 0, none⟩)) rfl rfl (by kernel_rfl) (by kernel_rfl) (by kernel_rfl) (fun _ _ _ h => h) (Or.inl ⟨by rfl, fun w' hw' => by go_simp⟩) hS ?_
   simp only [Act.put, lsA, lsZ, lsS]
   refine wpAnyH_ready (rs := [1, 3]) (by kernel_rfl) (by simp) ?_
   refine AllReadyH.cons rfl (fun K' hK' => ?_) (AllReadyH.cons rfl (fun K' hK' => ?_) AllReadyH.nil)
   ·obtain ⟨y0, y1, y2, y3, y4, y5, y6, y7, y8, y9⟩ := cel10 BX
    go_simp
    refine hK'.out _ _ hS (fun hS => ?_)
    clear hK' K' y0 y1 y2 y3 y4 y5 y6 y7 y8 y9
    refine wpAnyH_ready (rs := [3]) (by kernel_rfl) (by simp) ?_
    refine AllReadyH.cons rfl (fun K' hK' => ?_) AllReadyH.nil
    go_simp
    refine (gdot_any RD).mono ?_
    rintro e vb ⟨rfl, RD2, o1⟩
    have hS1 := hS.trans (o1.mono (E := fun c => c = b ∨ c = q6 ∨ blk ao = some c) (fun _ _ h => .inl h)) (fun _ _ h => h)
    refine hK'.out _ _ hS1 (fun hS => ?_)
    clear hK' K' hS1
    replace BX := BX.off o1 (fun e => by have := HQ6.out; have := HB.out; omega)
    replace OWN := OWN.off o1 (fun k _ h1 e => by have := MKA.out k h1; have := HB.out; have := HN.out; omega)
    have HSZ : Hid (va.heap.size ≤ vb.heap.size) := o1.size
    obtain ⟨nu, hnu⟩ : ∃ x, x = nodeR (numS (dtSt s2 i)).1 := ⟨_, rfl⟩
    obtain ⟨iu, hiu⟩ : ∃ x, x = (intS (numS (dtSt s2 i)).2).1 := ⟨_, rfl⟩
    rw [← hnu, ← hiu]
    have HNU : Hid _ := hnu
    have HIU : Hid _ := hiu
    clear o1 RD hnu hiu
    refine wpAnyH_ready (rs := [4]) (by kernel_rfl) (by simp) ?_
    refine AllReadyH.cons rfl (fun K' hK' => ?_) AllReadyH.nil
    go_simp
    refine hK'.out _ _ (hS.alloc _) (fun hS => ?_)
    clear hK' K'
    have CB := Cel.new vb 93 #[.int .i64 (nu), .int .i64 (iu)]
    have OB : Off (fun _ => False) vb (vb.alloc (.cells #[.int .i64 (nu), .int .i64 (iu)] 93)) := (Off.refl _ vb).alloc _
    generalize hqb : vb.heap.size = qb at CB ⊢
    generalize hvb : vb.alloc (.cells #[.int .i64 (nu), .int .i64 (iu)] 93) = vc at CB OB hS ⊢
    clear hvb hqb
    replace BX := BX.off OB (fun h => h)
    replace OWN := OWN.off OB (fun _ _ _ h => h)
    replace RD2 := RD2.off OB (fun h => h) (fun _ _ _ h => h)
    have src2 : ∀ j u, (dcs (nu, iu))[j]? = some u → vc.cell? ⟨qb, j, none⟩ = some u := fun j u hj => by
     rw [CB.cell j, ← hj, List.getElem?_toArray]
     rfl
    obtain ⟨a2, c2, v2, hr, own2, o2, at2⟩ := app_one Tryz.underlying47 Tryz.infoDt rfl (by decide) (by decide) dcs_len dcs_one OWN src2 (by omega) (xc := 1) 47
    refine wpAnyH_ready (rs := [5]) (by kernel_rfl) (by simp) ?_
    refine AllReadyH.cons rfl (fun K' hK' => ?_) AllReadyH.nil
    refine wp_append_if rfl (.tmp 23) (.tmp 26) rfl rfl rfl hr 27 rfl ?_
    simp only [Act.put, lsA, lsZ, lsS]
    have hS2 := hS.trans (o2.mono (E := fun c => c = b ∨ c = q6 ∨ blk ao = some c) (fun _ _ h => .inr (.inr h))) (fun _ _ h => h)
    refine hK'.out _ _ hS2 (fun hS => ?_)
    clear hK' K' hr hS2
    refine take_at (i := 6) 28 (v := .pointer (some ⟨q6, 9, none⟩)) rfl rfl (by kernel_rfl) (by kernel_rfl) (by kernel_rfl) (fun _ _ _ h => h) (Or.inl ⟨by rfl, fun w' hw' => by go_simp⟩) hS ?_
    simp only [Act.put, lsA, lsZ, lsS]
    have szb := HSZ.out
    have szc := OB.size
    have BX2 := BX.off o2 (fun e => by have := MKA.out q6 e; have := HL6.out; omega)
    have RD3 := RD2.off o2 (fun e => by have := MKA.out b e; have := HB.out; have := HN.out; omega) (fun c _ hc e => by have := MKA.out c e; have := HLD.out c hc; have := HN.out; omega)
    have at3 : ∀ k, blk a2 = some k → w8.heap.size ≤ k := fun k hk => by
     rcases at2 with e | e
     ·exact MKA.out k (e ▸ hk)
     ·rw [e] at hk
      have := HSW.out
      simp at hk
      omega
    obtain ⟨y0, y1, y2, y3, y4, y5, y6, y7, y8, y9⟩ := cel10 BX2
    have fz := BX2.free
    obtain ⟨ys, hys⟩ : ∃ ys, ys = lo ++ [(nu, iu)] := ⟨_, rfl⟩
    have HYL : Hid (ys.length = lo.length + 1) := by show _ = _; rw [hys]; simp
    rw [← hys] at own2 ⊢
    have HYS : Hid _ := hys
    clear hys
    refine wpAnyH_ready (rs := [7]) (by kernel_rfl) (by simp) ?_
    refine AllReadyH.cons rfl (fun K' hK' => ?_) AllReadyH.nil
    go_simp
    have hS3 := hS.setCell (p := ⟨q6, 9, none⟩) (.inl (.inr (.inl rfl))) (.slice a2 ys.length c2)
    refine hK'.out _ _ hS3 (fun hS => ?_)
    clear hK' K' hS3
    refine wpAnyH_done (by kernel_rfl) ?_ _
    clear y0 y1 y2 y3 y4 y5 y6 y7 y8 y9 fz
    have os := (Off.refl (fun c => c = q6) v2).setCell (p := ⟨q6, 9, none⟩) (.inl rfl) (.slice a2 ys.length c2)
    have BX3 := BX2.set 9 (.slice a2 ys.length c2)
    simp only [lsA, lsZ, lsS] at BX3
    have OW3 := own2.off os (fun k _ h1 h2 => by have := at3 k h1; have := HL6.out; omega)
    have RD4 := RD3.off os (fun e => by have := HQ6.out; have := HB.out; omega) (fun c _ hc e => by have := HLD.out c hc; have := HQ6.out; omega)
    have OF := (HPO.out.mono (E := fun c => c = b ∨ c = q6 ∨ w8.heap.size ≤ c) (fun _ _ h => h.elim .inl (fun h => .inr (.inl h)))).trans hS (fun k _ h => h.elim .inl (fun h => h.elim (fun h => .inr (.inl h)) (fun e => .inr (.inr (MKA.out k e)))))
    have HB3 : Hid _ := BX3
    have HM3 : Hid _ := OW3
    have HR3 : Hid _ := RD4
    have HOF : Hid _ := OF
    have HA3 : Hid _ := at3
    have HLC : Hid (ys = rdDs nodeR (i + 1) s2) := by
     have e : rdDt nodeR (dtSt s2 i) = (nu, iu) := by unfold rdDt; rw [← HNU.out, ← HIU.out]
     show _ = _
     rw [rdDs_succ, ← HLO.out, e]
     exact HYS.out
    clear BX BX2 BX3 OWN own2 OW3 OF hS o2 at2 at3 CB OB szb szc RD2 RD3 RD4 os src2
    go_wp2_with fail
    go_roundw
    case rel => exact ⟨i + 1, ys, a2, c2, by go_num, by omega, HB3.out, HM3.out, HA3.out, by have := HYL.out; omega, HLC.out, HR3.out, HOF.out.mono (fun k hk h => h.elim .inl (fun h => h.elim .inr (fun e => by omega)))⟩
    case measure => simp [intOf]; omega
   ·go_simp
    refine (gdot_any RD).mono ?_
    rintro e vb ⟨rfl, RD2, o1⟩
    have hS1 := hS.trans (o1.mono (E := fun c => c = b ∨ c = q6 ∨ blk ao = some c) (fun _ _ h => .inl h)) (fun _ _ h => h)
    refine hK'.out _ _ hS1 (fun hS => ?_)
    clear hK' K' hS1
    replace BX := BX.off o1 (fun e => by have := HQ6.out; have := HB.out; omega)
    replace OWN := OWN.off o1 (fun k _ h1 e => by have := MKA.out k h1; have := HB.out; have := HN.out; omega)
    have HSZ : Hid (va.heap.size ≤ vb.heap.size) := o1.size
    obtain ⟨nu, hnu⟩ : ∃ x, x = nodeR (numS (dtSt s2 i)).1 := ⟨_, rfl⟩
    obtain ⟨iu, hiu⟩ : ∃ x, x = (intS (numS (dtSt s2 i)).2).1 := ⟨_, rfl⟩
    rw [← hnu, ← hiu]
    have HNU : Hid _ := hnu
    have HIU : Hid _ := hiu
    clear o1 RD hnu hiu
    refine wpAnyH_ready (rs := [1, 4]) (by kernel_rfl) (by simp) ?_
    refine AllReadyH.cons rfl (fun K' hK' => ?_) (AllReadyH.cons rfl (fun K' hK' => ?_) AllReadyH.nil)
    ·obtain ⟨y0, y1, y2, y3, y4, y5, y6, y7, y8, y9⟩ := cel10 BX
     go_simp
     refine hK'.out _ _ hS (fun hS => ?_)
     clear hK' K' y0 y1 y2 y3 y4 y5 y6 y7 y8 y9
     refine wpAnyH_ready (rs := [4]) (by kernel_rfl) (by simp) ?_
     refine AllReadyH.cons rfl (fun K' hK' => ?_) AllReadyH.nil
     go_simp
     refine hK'.out _ _ (hS.alloc _) (fun hS => ?_)
     clear hK' K'
     have CB := Cel.new vb 93 #[.int .i64 (nu), .int .i64 (iu)]
     have OB : Off (fun _ => False) vb (vb.alloc (.cells #[.int .i64 (nu), .int .i64 (iu)] 93)) := (Off.refl _ vb).alloc _
     generalize hqb : vb.heap.size = qb at CB ⊢
     generalize hvb : vb.alloc (.cells #[.int .i64 (nu), .int .i64 (iu)] 93) = vc at CB OB hS ⊢
     clear hvb hqb
     replace BX := BX.off OB (fun h => h)
     replace OWN := OWN.off OB (fun _ _ _ h => h)
     replace RD2 := RD2.off OB (fun h => h) (fun _ _ _ h => h)
     have src2 : ∀ j u, (dcs (nu, iu))[j]? = some u → vc.cell? ⟨qb, j, none⟩ = some u := fun j u hj => by
      rw [CB.cell j, ← hj, List.getElem?_toArray]
      rfl
     obtain ⟨a2, c2, v2, hr, own2, o2, at2⟩ := app_one Tryz.underlying47 Tryz.infoDt rfl (by decide) (by decide) dcs_len dcs_one OWN src2 (by omega) (xc := 1) 47
     refine wpAnyH_ready (rs := [5]) (by kernel_rfl) (by simp) ?_
     refine AllReadyH.cons rfl (fun K' hK' => ?_) AllReadyH.nil
     refine wp_append_if rfl (.tmp 23) (.tmp 26) rfl rfl rfl hr 27 rfl ?_
     simp only [Act.put, lsA, lsZ, lsS]
     have hS2 := hS.trans (o2.mono (E := fun c => c = b ∨ c = q6 ∨ blk ao = some c) (fun _ _ h => .inr (.inr h))) (fun _ _ h => h)
     refine hK'.out _ _ hS2 (fun hS => ?_)
     clear hK' K' hr hS2
     refine take_at (i := 6) 28 (v := .pointer (some ⟨q6, 9, none⟩)) rfl rfl (by kernel_rfl) (by kernel_rfl) (by kernel_rfl) (fun _ _ _ h => h) (Or.inl ⟨by rfl, fun w' hw' => by go_simp⟩) hS ?_
     simp only [Act.put, lsA, lsZ, lsS]
     have szb := HSZ.out
     have szc := OB.size
     have BX2 := BX.off o2 (fun e => by have := MKA.out q6 e; have := HL6.out; omega)
     have RD3 := RD2.off o2 (fun e => by have := MKA.out b e; have := HB.out; have := HN.out; omega) (fun c _ hc e => by have := MKA.out c e; have := HLD.out c hc; have := HN.out; omega)
     have at3 : ∀ k, blk a2 = some k → w8.heap.size ≤ k := fun k hk => by
      rcases at2 with e | e
      ·exact MKA.out k (e ▸ hk)
      ·rw [e] at hk
       have := HSW.out
       simp at hk
       omega
     obtain ⟨y0, y1, y2, y3, y4, y5, y6, y7, y8, y9⟩ := cel10 BX2
     have fz := BX2.free
     obtain ⟨ys, hys⟩ : ∃ ys, ys = lo ++ [(nu, iu)] := ⟨_, rfl⟩
     have HYL : Hid (ys.length = lo.length + 1) := by show _ = _; rw [hys]; simp
     rw [← hys] at own2 ⊢
     have HYS : Hid _ := hys
     clear hys
     refine wpAnyH_ready (rs := [7]) (by kernel_rfl) (by simp) ?_
     refine AllReadyH.cons rfl (fun K' hK' => ?_) AllReadyH.nil
     go_simp
     have hS3 := hS.setCell (p := ⟨q6, 9, none⟩) (.inl (.inr (.inl rfl))) (.slice a2 ys.length c2)
     refine hK'.out _ _ hS3 (fun hS => ?_)
     clear hK' K' hS3
     refine wpAnyH_done (by kernel_rfl) ?_ _
     clear y0 y1 y2 y3 y4 y5 y6 y7 y8 y9 fz
     have os := (Off.refl (fun c => c = q6) v2).setCell (p := ⟨q6, 9, none⟩) (.inl rfl) (.slice a2 ys.length c2)
     have BX3 := BX2.set 9 (.slice a2 ys.length c2)
     simp only [lsA, lsZ, lsS] at BX3
     have OW3 := own2.off os (fun k _ h1 h2 => by have := at3 k h1; have := HL6.out; omega)
     have RD4 := RD3.off os (fun e => by have := HQ6.out; have := HB.out; omega) (fun c _ hc e => by have := HLD.out c hc; have := HQ6.out; omega)
     have OF := (HPO.out.mono (E := fun c => c = b ∨ c = q6 ∨ w8.heap.size ≤ c) (fun _ _ h => h.elim .inl (fun h => .inr (.inl h)))).trans hS (fun k _ h => h.elim .inl (fun h => h.elim (fun h => .inr (.inl h)) (fun e => .inr (.inr (MKA.out k e)))))
     have HB3 : Hid _ := BX3
     have HM3 : Hid _ := OW3
     have HR3 : Hid _ := RD4
     have HOF : Hid _ := OF
     have HA3 : Hid _ := at3
     have HLC : Hid (ys = rdDs nodeR (i + 1) s2) := by
      have e : rdDt nodeR (dtSt s2 i) = (nu, iu) := by unfold rdDt; rw [← HNU.out, ← HIU.out]
      show _ = _
      rw [rdDs_succ, ← HLO.out, e]
      exact HYS.out
     clear BX BX2 BX3 OWN own2 OW3 OF hS o2 at2 at3 CB OB szb szc RD2 RD3 RD4 os src2
     go_wp2_with fail
     go_roundw
     case rel => exact ⟨i + 1, ys, a2, c2, by go_num, by omega, HB3.out, HM3.out, HA3.out, by have := HYL.out; omega, HLC.out, HR3.out, HOF.out.mono (fun k hk h => h.elim .inl (fun h => h.elim .inr (fun e => by omega)))⟩
     case measure => simp [intOf]; omega
    ·go_simp
     refine hK'.out _ _ (hS.alloc _) (fun hS => ?_)
     clear hK' K'
     have CB := Cel.new vb 93 #[.int .i64 (nu), .int .i64 (iu)]
     have OB : Off (fun _ => False) vb (vb.alloc (.cells #[.int .i64 (nu), .int .i64 (iu)] 93)) := (Off.refl _ vb).alloc _
     generalize hqb : vb.heap.size = qb at CB ⊢
     generalize hvb : vb.alloc (.cells #[.int .i64 (nu), .int .i64 (iu)] 93) = vc at CB OB hS ⊢
     clear hvb hqb
     replace BX := BX.off OB (fun h => h)
     replace OWN := OWN.off OB (fun _ _ _ h => h)
     replace RD2 := RD2.off OB (fun h => h) (fun _ _ _ h => h)
     refine wpAnyH_ready (rs := [1]) (by kernel_rfl) (by simp) ?_
     refine AllReadyH.cons rfl (fun K' hK' => ?_) AllReadyH.nil
     obtain ⟨y0, y1, y2, y3, y4, y5, y6, y7, y8, y9⟩ := cel10 BX
     go_simp
     refine hK'.out _ _ hS (fun hS => ?_)
     clear hK' K' y0 y1 y2 y3 y4 y5 y6 y7 y8 y9
     have src2 : ∀ j u, (dcs (nu, iu))[j]? = some u → vc.cell? ⟨qb, j, none⟩ = some u := fun j u hj => by
      rw [CB.cell j, ← hj, List.getElem?_toArray]
      rfl
     obtain ⟨a2, c2, v2, hr, own2, o2, at2⟩ := app_one Tryz.underlying47 Tryz.infoDt rfl (by decide) (by decide) dcs_len dcs_one OWN src2 (by omega) (xc := 1) 47
     refine wpAnyH_ready (rs := [5]) (by kernel_rfl) (by simp) ?_
     refine AllReadyH.cons rfl (fun K' hK' => ?_) AllReadyH.nil
     refine wp_append_if rfl (.tmp 23) (.tmp 26) rfl rfl rfl hr 27 rfl ?_
     simp only [Act.put, lsA, lsZ, lsS]
     have hS2 := hS.trans (o2.mono (E := fun c => c = b ∨ c = q6 ∨ blk ao = some c) (fun _ _ h => .inr (.inr h))) (fun _ _ h => h)
     refine hK'.out _ _ hS2 (fun hS => ?_)
     clear hK' K' hr hS2
     refine take_at (i := 6) 28 (v := .pointer (some ⟨q6, 9, none⟩)) rfl rfl (by kernel_rfl) (by kernel_rfl) (by kernel_rfl) (fun _ _ _ h => h) (Or.inl ⟨by rfl, fun w' hw' => by go_simp⟩) hS ?_
     simp only [Act.put, lsA, lsZ, lsS]
     have szb := HSZ.out
     have szc := OB.size
     have BX2 := BX.off o2 (fun e => by have := MKA.out q6 e; have := HL6.out; omega)
     have RD3 := RD2.off o2 (fun e => by have := MKA.out b e; have := HB.out; have := HN.out; omega) (fun c _ hc e => by have := MKA.out c e; have := HLD.out c hc; have := HN.out; omega)
     have at3 : ∀ k, blk a2 = some k → w8.heap.size ≤ k := fun k hk => by
      rcases at2 with e | e
      ·exact MKA.out k (e ▸ hk)
      ·rw [e] at hk
       have := HSW.out
       simp at hk
       omega
     obtain ⟨y0, y1, y2, y3, y4, y5, y6, y7, y8, y9⟩ := cel10 BX2
     have fz := BX2.free
     obtain ⟨ys, hys⟩ : ∃ ys, ys = lo ++ [(nu, iu)] := ⟨_, rfl⟩
     have HYL : Hid (ys.length = lo.length + 1) := by show _ = _; rw [hys]; simp
     rw [← hys] at own2 ⊢
     have HYS : Hid _ := hys
     clear hys
     refine wpAnyH_ready (rs := [7]) (by kernel_rfl) (by simp) ?_
     refine AllReadyH.cons rfl (fun K' hK' => ?_) AllReadyH.nil
     go_simp
     have hS3 := hS.setCell (p := ⟨q6, 9, none⟩) (.inl (.inr (.inl rfl))) (.slice a2 ys.length c2)
     refine hK'.out _ _ hS3 (fun hS => ?_)
     clear hK' K' hS3
     refine wpAnyH_done (by kernel_rfl) ?_ _
     clear y0 y1 y2 y3 y4 y5 y6 y7 y8 y9 fz
     have os := (Off.refl (fun c => c = q6) v2).setCell (p := ⟨q6, 9, none⟩) (.inl rfl) (.slice a2 ys.length c2)
     have BX3 := BX2.set 9 (.slice a2 ys.length c2)
     simp only [lsA, lsZ, lsS] at BX3
     have OW3 := own2.off os (fun k _ h1 h2 => by have := at3 k h1; have := HL6.out; omega)
     have RD4 := RD3.off os (fun e => by have := HQ6.out; have := HB.out; omega) (fun c _ hc e => by have := HLD.out c hc; have := HQ6.out; omega)
     have OF := (HPO.out.mono (E := fun c => c = b ∨ c = q6 ∨ w8.heap.size ≤ c) (fun _ _ h => h.elim .inl (fun h => .inr (.inl h)))).trans hS (fun k _ h => h.elim .inl (fun h => h.elim (fun h => .inr (.inl h)) (fun e => .inr (.inr (MKA.out k e)))))
     have HB3 : Hid _ := BX3
     have HM3 : Hid _ := OW3
     have HR3 : Hid _ := RD4
     have HOF : Hid _ := OF
     have HA3 : Hid _ := at3
     have HLC : Hid (ys = rdDs nodeR (i + 1) s2) := by
      have e : rdDt nodeR (dtSt s2 i) = (nu, iu) := by unfold rdDt; rw [← HNU.out, ← HIU.out]
      show _ = _
      rw [rdDs_succ, ← HLO.out, e]
      exact HYS.out
     clear BX BX2 BX3 OWN own2 OW3 OF hS o2 at2 at3 CB OB szb szc RD2 RD3 RD4 os src2
     go_wp2_with fail
     go_roundw
     case rel => exact ⟨i + 1, ys, a2, c2, by go_num, by omega, HB3.out, HM3.out, HA3.out, by have := HYL.out; omega, HLC.out, HR3.out, HOF.out.mono (fun k hk h => h.elim .inl (fun h => h.elim .inr (fun e => by omega)))⟩
     case measure => simp [intOf]; omega
  ·obtain rfl : i = cnt := by omega
   have i1 : decide ((i : Int) < (i : Int)) = false := decide_eq_false (by omega)
   have i2 : decide (i < i) = false := decide_eq_false (by omega)
   have H2 : Hid _ := H28.out.off HPO.out (fun e => e.elim (fun e => by have := HB.out; have := HQ2.out; omega) HQ26.out)
   have OFF : Hid (Off (fun c => c = b) w wr) := HO8.out.trans HPO.out (fun k hk h => h.elim id (fun e => by have := HQ6.out; omega))
   replace HDD : Hid (drD nodeR s = lo) := by show _ = _; rw [HDD.out, ← HLO.out]
   cases okB
   ·have HRES : Hid (drB nodeR s = false) := by show _ = _; unfold drB; rw [← HOK.out]; rfl
    have D2 := H2.out
    obtain ⟨y0, y1, y2, y3, y4, y5, y6, y7, y8, y9⟩ := cel10 D2
    have fz := D2.free
    go_wp2_with fail
    have E2 := D2.clr10
    have OE := OFF.out.clr10 (b := q2) (.inr HQ2.out)
    refine bodyPost_ret (results_dig rfl rfl rfl E2) rfl ?_
    have os := (Off.refl (fun c => c = q2) wr).clr10 (b := q2) (.inl rfl)
    have rr := HRD.out.off os (fun e => by have := HQ2.out; have := HB.out; omega) (fun c _ hc e => by have := HLD.out c hc; have := HQ2.out; omega)
    rw [← HDS.out] at rr
    obtain ⟨r1, r2, r3⟩ := dr_no HRES.out
    exact ⟨⟨#[]⟩, zer, none, 0, [], by rw [HRES.out]; rfl, r1, r2, r3, RowD.nil _ _ _ (by omega), NewA.none _, rr, OE⟩
   ·obtain ⟨rt, rc, rc0, rc1⟩ := rdr_cells HRD.out
    by_cases her : (dtSt s2 i).2 = 0
    ·have e5 : ((((dtSt s2 i).2 : Nat) : Int) != 0) = false := by simp [her]
     obtain ⟨z0, z1, z2, z3, z4, z5, z6, z7, z8, z9⟩ := cel10 HBX.out
     have HER : Hid _ := her
     clear her
     go_wp2_with fail
     clear z0 z1 z2 z3 z4 z5 z6 z7 z8 z9
     refine (gmayd_any ks fF ao co lo _ HMK.out.rowD).mono ?_
     cases hme : mayD ⟨ks, fF, lo⟩
     ·have HRES : Hid (drB nodeR s = false) := by show _ = _; unfold drB; rw [← HKS.out, ← HFF.out, HDD.out, hme]; simp
      rintro e fw ⟨rfl, fo⟩
      have fO := OFF.out.trans (fo.mono (fun _ _ h => h.elim)) (fun _ _ h => h)
      have fR := HRD.out.off fo (fun h => h) (fun _ _ _ h => h)
      have H3 : Hid _ := H2.out.off fo (fun h => h)
      have D2 := H3.out
      obtain ⟨y0, y1, y2, y3, y4, y5, y6, y7, y8, y9⟩ := cel10 D2
      have fz := D2.free
      go_wp2_with fail
      have E2 := D2.clr10
      have OE := fO.clr10 (b := q2) (.inr HQ2.out)
      refine bodyPost_ret (results_dig rfl rfl rfl E2) rfl ?_
      have os := (Off.refl (fun c => c = q2) fw).clr10 (b := q2) (.inl rfl)
      have rr := fR.off os (fun e => by have := HQ2.out; have := HB.out; omega) (fun c _ hc e => by have := HLD.out c hc; have := HQ2.out; omega)
      rw [← HDS.out] at rr
      obtain ⟨r1, r2, r3⟩ := dr_no HRES.out
      exact ⟨⟨#[]⟩, zer, none, 0, [], by rw [HRES.out]; rfl, r1, r2, r3, RowD.nil _ _ _ (by omega), NewA.none _, rr, OE⟩
     ·have HRES : Hid (drB nodeR s = true) := by show _ = _; unfold drB; rw [← HKS.out, ← HFF.out, HDD.out, hme, ← HOK.out, HDS.out, decide_eq_true HER.out]; rfl
      rintro e fw ⟨rfl, fo⟩
      have fO := OFF.out.trans (fo.mono (fun _ _ h => h.elim)) (fun _ _ h => h)
      have fR := HRD.out.off fo (fun h => h) (fun _ _ _ h => h)
      have D2 := H2.out.off fo (fun h => h)
      have D7 := HBX.out.off fo (fun h => h)
      have HRO : Hid _ := HMK.out.off fo (fun _ _ _ h => h)
      obtain ⟨y0, y1, y2, y3, y4, y5, y6, y7, y8, y9⟩ := cel10 D2
      obtain ⟨z0, z1, z2, z3, z4, z5, z6, z7, z8, z9⟩ := cel10 D7
      have fz := D2.free
      go_wp2_with fail
      have E2 := D2.st10 ks fF (.slice ao lo.length co)
      have OE := fO.st10 (b := q2) (.inr HQ2.out) ks fF (.slice ao lo.length co)
      refine bodyPost_ret (results_dig rfl rfl rfl E2) rfl ?_
      have os := (Off.refl (fun c => c = q2) fw).st10 (b := q2) (.inl rfl) ks fF (.slice ao lo.length co)
      have rr := fR.off os (fun e => by have := HQ2.out; have := HB.out; omega) (fun c _ hc e => by have := HLD.out c hc; have := HQ2.out; omega)
      rw [← HDS.out] at rr
      obtain ⟨r1, r2, r3⟩ := dr_yes HRES.out
      rw [← HKS.out] at r1
      rw [← HFF.out] at r2
      rw [HDD.out] at r3
      have rw9 := HRO.out.rowD.offD os (fun k _ hk e => by have := HMA.out k hk; have := HL2.out; omega)
      exact ⟨ks, fF, ao, co, lo, by rw [HRES.out]; rfl, r1, r2, r3, rw9, ⟨fun k hk => Nat.le_trans HN.out (HMA.out k hk)⟩, rr, OE⟩
    ·have e5 : ((((dtSt s2 i).2 : Nat) : Int) != 0) = true := by simp [her]
     have HRES : Hid (drB nodeR s = false) := by show _ = _; unfold drB; rw [HDS.out, decide_eq_false her]; simp
     clear her
     have D2 := H2.out
     obtain ⟨y0, y1, y2, y3, y4, y5, y6, y7, y8, y9⟩ := cel10 D2
     have fz := D2.free
     go_wp2_with fail
     have E2 := D2.clr10
     have OE := OFF.out.clr10 (b := q2) (.inr HQ2.out)
     refine bodyPost_ret (results_dig rfl rfl rfl E2) rfl ?_
     have os := (Off.refl (fun c => c = q2) wr).clr10 (b := q2) (.inl rfl)
     have rr := HRD.out.off os (fun e => by have := HQ2.out; have := HB.out; omega) (fun c _ hc e => by have := HLD.out c hc; have := HQ2.out; omega)
     rw [← HDS.out] at rr
     obtain ⟨r1, r2, r3⟩ := dr_no HRES.out
     exact ⟨⟨#[]⟩, zer, none, 0, [], by rw [HRES.out]; rfl, r1, r2, r3, RowD.nil _ _ _ (by omega), NewA.none _, rr, OE⟩
end Go.Proofs.YtmbphlkohlggfaaGreat
