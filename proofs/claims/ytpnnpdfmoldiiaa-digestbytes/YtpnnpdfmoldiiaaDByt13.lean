/- Items of several texts. -/
import Derived.Test.YtpnnpdfmoldiiaaDBtP
namespace Go.Proofs.Ytpnnpdfmoldiiaa
open Go.RowKit
set_option maxRecDepth 100000 in
set_option maxHeartbeats 1000000 in
theorem bytes_walk (d : G) (tad : Option Addr) (cap : Nat) (bs : List Nat) (w : World) (hks : d.key.size ≤ reachBytes) (hd : RowD w d.a d.cap d.ds ∧ RgD d.ds ∧ RgF d.f) (hA : ArgB w tad bs.length cap bs) :
  Calls Try.prog 5 #[.agg #[.string d.key, .int .i64 (d.f 0), .int .i64 (d.f 1), .int .i64 (d.f 2), .int .i64 (d.f 3), .int .i64 (d.f 4), .int .i64 (d.f 5), .int .i64 (d.f 6), .int .i64 (d.f 7), .slice d.a d.ds.length d.cap], .slice tad bs.length cap] w fun e w' => e = .returned (.bool true) ∧ Off (fun _ => False) w w' := by
 obtain ⟨hd, hrd, hrf⟩ := hd
 have hnot := not_any
 obtain ⟨-, hlt, hsrc, hbd⟩ := hA
 obtain ⟨stg, hstg⟩ : ∃ st, st = wrG 5000 (some []) d.key d.f d.ds := ⟨_, rfl⟩
 have HLEG : Hid ((stg.getD []).length ≤ 5000) := by show _ ≤ _; rw [hstg]; exact wrG_le (by simp) _ _ _
 have HSTG : Hid _ := hstg
 obtain ⟨W, hW⟩ : ∃ W, W = w.alloc (.cells #[.string d.key, .int .i64 (d.f 0), .int .i64 (d.f 1), .int .i64 (d.f 2), .int .i64 (d.f 3), .int .i64 (d.f 4), .int .i64 (d.f 5), .int .i64 (d.f 6), .int .i64 (d.f 7), .slice d.a d.ds.length d.cap] 27) := ⟨_, rfl⟩
 have O : Off (fun _ => False) w W := by rw [hW]; exact (Off.refl _ w).alloc _
 have C0 : Cel w.heap.size 27 #[.string d.key, .int .i64 (d.f 0), .int .i64 (d.f 1), .int .i64 (d.f 2), .int .i64 (d.f 3), .int .i64 (d.f 4), .int .i64 (d.f 5), .int .i64 (d.f 6), .int .i64 (d.f 7), .slice d.a d.ds.length d.cap] W := by rw [hW]; exact Cel.new w _ _
 have HW : Hid _ := hW.symm
 have H0 : Hid _ := C0
 have HO : Hid _ := O
 have HRA : Hid _ := hd.off O
 have HLT : Hid _ := hlt
 have HSR : Hid (Src W tad cap bs) := hsrc.off O (fun _ _ _ h => h)
 have HRG : Hid (∀ j, j < 8 → -9223372036854775808 ≤ d.f j ∧ d.f j ≤ 9223372036854775807) := hrf.rg
 have HRD : Hid _ := hrd
 have HKS : Hid (d.key.size ≤ 140737488351232) := hks
 clear hW C0 O hd hlt hsrc hrf hrd hks hstg
 go_enter Try.func5, Try.ntmps5
 go_upto_region 1 with fail
 rw [HW.out]
 generalize hq0 : w.heap.size = q0 at H0 ⊢
 clear hq0
 have CB := Cel.new W 27 #[.string d.key, .int .i64 (d.f 0), .int .i64 (d.f 1), .int .i64 (d.f 2), .int .i64 (d.f 3), .int .i64 (d.f 4), .int .i64 (d.f 5), .int .i64 (d.f 6), .int .i64 (d.f 7), .slice d.a d.ds.length d.cap]
 have OB : Off (fun _ => False) W (W.alloc (.cells #[.string d.key, .int .i64 (d.f 0), .int .i64 (d.f 1), .int .i64 (d.f 2), .int .i64 (d.f 3), .int .i64 (d.f 4), .int .i64 (d.f 5), .int .i64 (d.f 6), .int .i64 (d.f 7), .slice d.a d.ds.length d.cap] 27)) := (Off.refl _ W).alloc _
 have HGS : Hid _ := dgs_one CB (HRA.out.off OB)
 have HOB : Hid _ := OB
 clear CB OB
 obtain ⟨y0, y1, y2, y3, y4, y5, y6, y7, y8, y9⟩ := cel10 H0.out
 go_wp2_with fail
 clear y0 y1 y2 y3 y4 y5 y6 y7 y8 y9
 refine (thin_any (some ⟨W.heap.size, 0, none⟩) 1 [d] _ HGS.out).mono ?_
 rintro e w2 ⟨rfl, o2⟩
 have HO2 : Hid _ := HOB.out.trans o2 (fun _ _ h => h)
 clear o2 HGS HOB
 cases htn : thinG [d]
 case false =>
  go_wp2_with fail
  refine (awake_any _).mono ?_
  rintro e w9 ⟨rfl, o9⟩
  go_wp2_with fail
  go_ret
  exact ⟨rfl, HO.out.trans (HO2.out.trans o9 (fun _ _ h => h)) (fun _ _ h => h)⟩
 clear htn
 go_wp2_with fail
 refine (newWriter_any 5000 (by decide) w2).mono ?_
 rintro e y ⟨rfl, hW, o3⟩
 rw [show Int.toNat 5000 = 5000 from rfl] at hW
 obtain ⟨v, p1, p2, D, E, hv, hp1, hp2, hW', hF, dj, lD, lE, Ov⟩ := two_new HO2.out hW o3
 have HV : Hid _ := hv
 have HP2 : Hid _ := hp2
 have hW1 : Hid _ := hW'
 have hF1 : Hid _ := hF
 have hDJ : Hid _ := dj
 have HLD : Hid _ := lD
 have HLE : Hid _ := lE
 have HOv : Hid _ := Ov
 rw [← hp1]
 clear hW o3 hW' hF dj lD lE Ov hp1 hv hp2
 go_upto_region 4 with fail
 rw [← HV.out, ← HP2.out]
 clear HV HP2 HO2
 obtain ⟨y0, y1, y2, y3, y4, y5, y6, y7, y8, y9⟩ := cel10 (H0.out.off HOv.out (fun h => h))
 go_wp2_with fail
 clear y0 y1 y2 y3 y4 y5 y6 y7 y8 y9
 refine (dwrite_any hW1.out (by decide) (by simp) d.key HKS.out d.f HRG.out d.a d.cap d.ds HRD.out (fun w' o => HRA.out.off (HOv.out.trans o (fun i hi h => absurd (HLD.out i h) (by omega))))).mono ?_
 rw [← HSTG.out]
 rintro e w4 ⟨rfl, D', hW4, o4, gD⟩
 have HO4 : Hid (Off (fun _ => False) W w4) := HOv.out.trans o4 (fun i hi h => absurd (HLD.out i h) (by omega))
 have HF4 : Hid _ := hF1.out.off o4 (fun c _ hE hD => hDJ.out c hD hE)
 have HDJ4 : Hid (∀ c, D' c → E c → False) := fun c h1 h2 => by
  rcases gD c h1 with h | h
  ·exact hDJ.out c h h2
  ·have := hF1.out.lt c h2
   omega
 have HW4 : Hid _ := hW4
 clear hW4 o4 gD hW1 hF1 hDJ HLD HOv
 obtain ⟨y0, y1, y2, y3, y4, y5, y6, y7, y8, y9⟩ := cel10 (H0.out.off HO4.out (fun h => h))
 go_wp2_with fail
 clear y0 y1 y2 y3 y4 y5 y6 y7 y8 y9
 refine (gdwrite_any HF4.out (by decide) (by simp) d.key HKS.out d.f HRG.out d.a d.cap d.ds HRD.out (fun w' o => HRA.out.off (HO4.out.trans o (fun i hi h => absurd (HLE.out i h) (by omega))))).mono ?_
 rw [← HSTG.out]
 rintro e w5 ⟨rfl, E', F5, o5, gE⟩
 have HO5 : Hid (Off (fun _ => False) W w5) := HO4.out.trans o5 (fun i hi h => absurd (HLE.out i h) (by omega))
 have HW5 : Hid _ := HW4.out.off o5 (fun c _ h1 h2 => HDJ4.out c h1 h2)
 have HF5 : Hid _ := F5
 clear F5 o5 gE HW4 HF4 HDJ4 HLE HO4
 go_wp2_with fail
 refine (done_any HW5.out (by have := HLEG.out; omega)).mono ?_
 rintro e w6 ⟨t6, c6, rfl, own6, hb6, o6⟩
 obtain ⟨sm, tm, nm, km, her, cm, hm⟩ := (HF5.out.off o6 (fun _ _ _ h => h)).tell
 rw [her]
 obtain ⟨en, hen⟩ : ∃ en, en = (stg : Option (List Nat)).getD [] := ⟨_, rfl⟩
 rw [← hen] at own6 hm ⊢
 have HO6 : Hid (Off (fun _ => False) W w6) := HO5.out.trans o6 (fun _ _ h => h)
 have HN : Hid _ := own6
 have HC : Hid _ := cm
 have HM : Hid _ := hm
 clear own6 cm hm hen her hb6 o6 HF5 HW5 HO5
 go_upto_region 7 with fail
 refine wp_region_held_drew (S := fun w' => Off (fun _ => False) w6 w') (by kernel_rfl) ((Off.refl _ w6).drew) (fun hS => ?_)
 refine take_at (i := 0) 34 (v := .pointer (some ⟨p2, 0, none⟩)) rfl rfl (by kernel_rfl) (by kernel_rfl) (by kernel_rfl) (fun _ _ _ h => h) (Or.inl ⟨by rfl, fun w' hw' => by go_simp⟩) hS ?_
 simp only [Act.put, lsA, lsZ, lsS]
 refine take_at (i := 1) 35 (v := .pointer (some ⟨p2, 0, none⟩)) rfl rfl (by kernel_rfl) (by kernel_rfl) (by kernel_rfl) (fun _ _ _ h => h) (Or.inl ⟨by rfl, fun w' hw' => by go_simp⟩) hS ?_
 simp only [Act.put, lsA, lsZ, lsS]
 refine take_at (i := 2) 36 (v := .pointer (some ⟨p2, 2, none⟩)) rfl rfl (by kernel_rfl) (by kernel_rfl) (by kernel_rfl) (fun _ _ _ h => h) (Or.inl ⟨by rfl, fun w' hw' => by go_simp⟩) hS ?_
 simp only [Act.put, lsA, lsZ, lsS]
 refine take_at (i := 3) 37 (v := .bool (!sm)) rfl rfl (by kernel_rfl) (by kernel_rfl) (by kernel_rfl) (fun _ _ _ h => h) (Or.inl ⟨by rfl, fun w' hw' => by have x := (HC.out.off hw' (fun h => h)).cell 2; simp at x; go_simp⟩) hS ?_
 simp only [Act.put, lsA, lsZ, lsS]
 refine take_at (i := 4) 38 (v := .int .i64 (erZ sm)) rfl rfl (by kernel_rfl) (by kernel_rfl) (by kernel_rfl) (fun _ _ _ h => h) (Or.inl ⟨by rfl, fun w' hw' => by go_simp⟩) hS ?_
 simp only [Act.put, lsA, lsZ, lsS]
 refine take_at (i := 5) 39 (v := .bool (!sm)) rfl rfl (by kernel_rfl) (by kernel_rfl) (by kernel_rfl) (fun _ _ _ h => h) (Or.inl ⟨by rfl, fun w' hw' => by have x := er4 sm; go_simp⟩) hS ?_
 simp only [Act.put, lsA, lsZ, lsS]
 refine take_at (i := 6) 40 (v := .bool false) rfl rfl (by kernel_rfl) (by kernel_rfl) (by kernel_rfl) (fun _ _ _ h => h) (Or.inl ⟨by rfl, fun w' hw' => by have x := neq_same (!sm); go_simp⟩) hS ?_
 simp only [Act.put, lsA, lsZ, lsS]
 refine take_at (i := 7) 41 (v := .bool false) rfl rfl (by kernel_rfl) (by kernel_rfl) (by kernel_rfl) (fun _ _ _ h => h) (Or.inl ⟨by rfl, fun w' hw' => by go_simp⟩) hS ?_
 simp only [Act.put, lsA, lsZ, lsS]
 refine take_at (i := 8) 42 (v := .int .i64 (erZ sm)) rfl rfl (by kernel_rfl) (by kernel_rfl) (by kernel_rfl) (fun _ _ _ h => h) (Or.inl ⟨by rfl, fun w' hw' => by go_simp⟩) hS ?_
 simp only [Act.put, lsA, lsZ, lsS]
 refine take_at (i := 9) 43 (v := .bool sm) rfl rfl (by kernel_rfl) (by kernel_rfl) (by kernel_rfl) (fun _ _ _ h => h) (Or.inl ⟨by rfl, fun w' hw' => by have x := er0 sm; go_simp⟩) hS ?_
 simp only [Act.put, lsA, lsZ, lsS]
 refine take_at (i := 10) 44 (v := .bool sm) rfl rfl (by kernel_rfl) (by kernel_rfl) (by kernel_rfl) (fun _ _ _ h => h) (Or.inl ⟨by rfl, fun w' hw' => by go_simp⟩) hS ?_
 simp only [Act.put, lsA, lsZ, lsS]
 refine take_at (i := 11) 45 (v := gv sm (.slice t6 en.length c6)) rfl rfl (by kernel_rfl) (by kernel_rfl) (by kernel_rfl) (fun _ _ _ h => h) (by
  cases sm <;> dsimp only [gv]
  ·exact Or.inr ⟨by rfl, rfl⟩
  ·exact Or.inl ⟨by rfl, fun w' hw' => by go_simp⟩) hS ?_
 simp only [Act.put, lsA, lsZ, lsS]
 refine take_at (i := 12) 46 (v := gv sm (.string (strOf en))) rfl rfl (by kernel_rfl) (by kernel_rfl) (by kernel_rfl) (fun _ _ _ h => h) (by
  cases sm <;> dsimp only [gv]
  ·exact Or.inr ⟨by rfl, rfl⟩
  ·exact Or.inl ⟨by rfl, fun w' hw' => by have x := conv_src (HN.out.off hw' (fun _ _ _ h => h)).src; go_simp⟩) hS ?_
 simp only [Act.put, lsA, lsZ, lsS]
 refine take_at (i := 13) 47 (v := gv sm (.pointer (some ⟨p2, 0, none⟩))) rfl rfl (by kernel_rfl) (by kernel_rfl) (by kernel_rfl) (fun _ _ _ h => h) (by
  cases sm <;> dsimp only [gv]
  ·exact Or.inr ⟨by rfl, rfl⟩
  ·exact Or.inl ⟨by rfl, fun w' hw' => by go_simp⟩) hS ?_
 simp only [Act.put, lsA, lsZ, lsS]
 refine take_at (i := 14) 48 (v := gv sm (.pointer (some ⟨p2, 0, none⟩))) rfl rfl (by kernel_rfl) (by kernel_rfl) (by kernel_rfl) (fun _ _ _ h => h) (by
  cases sm <;> dsimp only [gv]
  ·exact Or.inr ⟨by rfl, rfl⟩
  ·exact Or.inl ⟨by rfl, fun w' hw' => by go_simp⟩) hS ?_
 simp only [Act.put, lsA, lsZ, lsS]
 refine take_at (i := 15) 49 (v := gv sm (.pointer (some ⟨p2, 0, none⟩))) rfl rfl (by kernel_rfl) (by kernel_rfl) (by kernel_rfl) (fun _ _ _ h => h) (by
  cases sm <;> dsimp only [gv]
  ·exact Or.inr ⟨by rfl, rfl⟩
  ·exact Or.inl ⟨by rfl, fun w' hw' => by go_simp⟩) hS ?_
 simp only [Act.put, lsA, lsZ, lsS]
 refine take_at (i := 16) 50 (v := gv sm (.slice tm nm km)) rfl rfl (by kernel_rfl) (by kernel_rfl) (by kernel_rfl) (fun _ _ _ h => h) (by
  cases sm <;> dsimp only [gv]
  ·exact Or.inr ⟨by rfl, rfl⟩
  ·exact Or.inl ⟨by rfl, fun w' hw' => by have x := (HC.out.off hw' (fun h => h)).cell 0; simp at x; go_simp⟩) hS ?_
 simp only [Act.put, lsA, lsZ, lsS]
 refine take_at (i := 17) 51 (v := gv sm (.string (strOf en))) rfl rfl (by kernel_rfl) (by kernel_rfl) (by kernel_rfl) (fun _ _ _ h => h) (by
  cases sm <;> dsimp only [gv]
  ·exact Or.inr ⟨by rfl, rfl⟩
  ·exact Or.inl ⟨by rfl, fun w' hw' => by obtain ⟨hn, hr⟩ := HM.out rfl; subst hn; have x := conv_src (hr.off hw' (fun _ _ _ h => h)).src; go_simp⟩) hS ?_
 simp only [Act.put, lsA, lsZ, lsS]
 refine take_at (i := 18) 52 (v := gv sm (.bool false)) rfl rfl (by kernel_rfl) (by kernel_rfl) (by kernel_rfl) (fun _ _ _ h => h) (by
  cases sm <;> dsimp only [gv]
  ·exact Or.inr ⟨by rfl, rfl⟩
  ·exact Or.inl ⟨by rfl, fun w' hw' => by go_simp⟩) hS ?_
 simp only [Act.put, lsA, lsZ, lsS]
 refine take_at (i := 19) 53 (v := .bool false) rfl rfl (by kernel_rfl) (by kernel_rfl) (by kernel_rfl) (fun _ _ _ h => h) (Or.inl ⟨by rfl, fun w' hw' => by cases sm <;> dsimp only [gv] <;> go_simp⟩) hS ?_
 simp only [Act.put, lsA, lsZ, lsS]
 refine take_at (i := 20) 54 (v := .bool false) rfl rfl (by kernel_rfl) (by kernel_rfl) (by kernel_rfl) (fun _ _ _ h => h) (Or.inl ⟨by rfl, fun w' hw' => by go_simp⟩) hS ?_
 simp only [Act.put, lsA, lsZ, lsS]
 refine wpAnyH_done (by kernel_rfl) ?_ _
 have HOb : Hid (Off (fun _ => False) W _) := HO6.out.trans hS (fun _ _ h => h)
 clear hS HN HC HM HO6
 go_wp2_with fail
 have S5 := HSR.out.off HOb.out (fun _ _ _ h => h)
 refine (newReader_any tad cap bs (by omega) HLT.out _ S5).mono ?_
 rintro e x1 ⟨rb, Dr, rfl, hrb, hDlo, R, o6⟩
 have HR : Hid _ := R
 have hrbW := R.here
 have HLR : Hid _ := R.lt
 have HS6 : Hid _ := S5.off o6 (fun _ _ _ h => h)
 clear R S5
 go_wp2_with (at_builtin; refine wpList_app rfl (.const (.slice none 0 0)) (.tmp 57) rfl none 0 [] rfl (OwnR.nil _) tad cap bs rfl HS6.out (by simp; omega) ?_; intro t2 c2 x2 y2 hy2 own2 off2 at2; obtain rfl : bs = y2 := hy2.out.symm; have o7 : Off (fun _ => False) x1 x2 := off2.mono (fun i _ h => by simp [blk] at h); have OW2 : Hid _ := own2; have HB2 : Hid (∀ k, blk t2 = some k → x1.heap.size ≤ k) := (fun k hk => by rcases at2 with h | h <;> (rw [h] at hk; simp [blk] at hk; try omega)); clear own2 off2 at2 hy2 HS6; go_upto_region 10 with fail)
 obtain ⟨V0, mb, Dm, hV0, hmb, RR, MM, hne, nR, nM, rlo, mlo, Dlo, Elo, OV⟩ := two_rd HLT.out (by omega) hrb hDlo HR.out o6 o7 OW2.out HB2.out
 rw [← hV0, ← hmb]
 have HO0 : Hid (Off (fun _ => False) W V0) := HOb.out.trans OV (fun _ _ h => h)
 have HMM : Hid _ := MM
 have hWz := HOb.out.size
 have rW : W.heap.size ≤ rb := by omega
 have mW : W.heap.size ≤ mb := by omega
 have mV := MM.here
 clear HR HLR OW2 HB2 o6 o7 hV0 hmb MM hrb hDlo hrbW OV HOb hWz rlo mlo Dlo Elo
 go_wp2_with fail
 refine (dread_any RR).mono ?_
 rintro e x3 ⟨kA, hA, aA, cA, lA, rfl, ek, eh, el, rowA, frA, R1, oA⟩
 have HKA : Hid _ := ek
 have HHA : Hid _ := eh
 have HLA : Hid _ := el
 have HM1 : Hid _ := HMM.out.off oA (fun h => hne h.symm) (fun c _ hc h => nM (h ▸ hc))
 have HO1 : Hid (Off (fun c => c = rb) V0 x3) := oA
 have HR1 : Hid _ := R1
 have HROW1 : Hid _ := rowA
 have HFR1 : Hid _ := frA
 have s1 := oA.size
 clear R1 rowA frA oA ek eh el HMM RR
 obtain ⟨BA, hBA⟩ : ∃ BA, BA = drB nodeP (bs, 0) := ⟨_, rfl⟩
 rw [← hBA]
 have HBA : Hid _ := hBA
 clear hBA
 go_upto_region 11 with fail
 obtain ⟨V1, hV1⟩ : ∃ V1, V1 = x3.alloc (.cells #[.string kA, .int .i64 (hA 0), .int .i64 (hA 1), .int .i64 (hA 2), .int .i64 (hA 3), .int .i64 (hA 4), .int .i64 (hA 5), .int .i64 (hA 6), .int .i64 (hA 7), .slice aA lA.length cA] 27) := ⟨_, rfl⟩
 have oo : Off (fun _ => False) x3 V1 := by rw [hV1]; exact (Off.refl _ x3).alloc _
 have G1 : Cel x3.heap.size 27 #[.string kA, .int .i64 (hA 0), .int .i64 (hA 1), .int .i64 (hA 2), .int .i64 (hA 3), .int .i64 (hA 4), .int .i64 (hA 5), .int .i64 (hA 6), .int .i64 (hA 7), .slice aA lA.length cA] V1 := by rw [hV1]; exact Cel.new x3 _ _
 rw [← hV1]
 obtain ⟨qA, hq⟩ : ∃ q, q = x3.heap.size := ⟨_, rfl⟩
 rw [← hq] at G1 ⊢
 have hqa : x3.heap.size ≤ qA := by omega
 clear hq hV1
 have HG1 : Hid _ := G1
 clear G1
 have HR2 : Hid _ := HR1.out.off oo (fun h => h) (fun _ _ _ h => h)
 have HROW2 : Hid _ := HROW1.out.off oo
 have HOO : Hid _ := oo
 have HM2 : Hid _ := HM1.out.off oo (fun h => h) (fun _ _ _ h => h)
 clear HR1 HROW1 HM1 oo
 go_wp2_with fail
 refine (gdread_any HM2.out).mono ?_
 rintro e x4 ⟨kB, hB, aB, cB, lB, rfl, ek, eh, el, rowB, frB, M1, oB⟩
 have HKB : Hid _ := ek
 have HHB : Hid _ := eh
 have HLB : Hid _ := el
 have HR3 : Hid _ := HR2.out.off oB (fun h => hne h) (fun c _ hc h => nR (h ▸ hc))
 have HROW3 : Hid _ := HROW2.out.offD oB (fun c _ hc he => by subst he; have := HFR1.out.lo _ hc; omega)
 have HG3 : Hid _ := HG1.out.off oB (fun h => by omega)
 have HO3 : Hid (Off (fun c => c = rb ∨ c = mb) V0 x4) := ((HO1.out.mono (fun _ _ h => .inl h)).trans HOO.out (fun _ _ h => h.elim)).trans oB (fun _ _ h => .inr h)
 have HM3 : Hid _ := M1
 have HROWB : Hid _ := rowB
 clear M1 rowB frB oB ek eh el HR2 HROW2 HM2 HG1 HFR1 HO1 HOO
 have DE := dr_eq (s := (bs, 0)) ⟨HLT.out, by simp, by simp⟩
 rw [← DE.1, ← HBA.out]
 go_upto_region 12 with fail
 obtain ⟨X1, hX⟩ : ∃ V1, V1 = x4.alloc (.cells #[.string kB, .int .i64 (hB 0), .int .i64 (hB 1), .int .i64 (hB 2), .int .i64 (hB 3), .int .i64 (hB 4), .int .i64 (hB 5), .int .i64 (hB 6), .int .i64 (hB 7), .slice aB lB.length cB] 27) := ⟨_, rfl⟩
 have oo : Off (fun _ => False) x4 X1 := by rw [hX]; exact (Off.refl _ x4).alloc _
 have G1 : Cel x4.heap.size 27 #[.string kB, .int .i64 (hB 0), .int .i64 (hB 1), .int .i64 (hB 2), .int .i64 (hB 3), .int .i64 (hB 4), .int .i64 (hB 5), .int .i64 (hB 6), .int .i64 (hB 7), .slice aB lB.length cB] X1 := by rw [hX]; exact Cel.new x4 _ _
 rw [← hX]
 obtain ⟨qB, hq⟩ : ∃ q, q = x4.heap.size := ⟨_, rfl⟩
 rw [← hq] at G1 ⊢
 clear hq hX
 have GB : Hid _ := G1
 have GA : Hid _ := HG3.out.off oo (fun h => h)
 have RA : Hid _ := HROW3.out.off oo
 have RB : Hid _ := HROWB.out.off oo
 have JR : Hid _ := HR3.out.off oo (fun h => h) (fun _ _ _ h => h)
 have JM : Hid _ := HM3.out.off oo (fun h => h) (fun _ _ _ h => h)
 have OW : Hid (Off (fun _ => False) W X1) := (HO0.out.trans HO3.out (fun i hi h => by omega)).trans oo (fun _ _ h => h)
 have HK : Hid (kB = kA) := by show _ = _; rw [HKA.out, HKB.out, DE.2.1]
 have HEQ : Hid (eqB hA hB = true) := by show _ = _; rw [HHA.out, HHB.out, DE.2.2.1]; simp [eqB]
 have HDS : Hid (lA = lB) := by show _ = _; rw [HLA.out, HLB.out, DE.2.2.2]
 have HDX : Hid (lA.length ≤ 9223372036854775807) := by show _ ≤ _; have h := RA.out; have h1 := h.len; have h2 := h.bound; omega
 clear G1 HG3 HROW3 HROWB HR3 HM3 HO3 oo HO0 hne nR nM mV s1 hqa rW mW DE HKA HKB HHA HHB HLA HLB HBA
 have OA : Off (fun _ => False) X1 (X1.alloc (.cells #[.string kA, .int .i64 (hA 0), .int .i64 (hA 1), .int .i64 (hA 2), .int .i64 (hA 3), .int .i64 (hA 4), .int .i64 (hA 5), .int .i64 (hA 6), .int .i64 (hA 7), .slice aA lA.length cA] 27)) := (Off.refl _ X1).alloc _
 have CA := Cel.new X1 27 #[.string kA, .int .i64 (hA 0), .int .i64 (hA 1), .int .i64 (hA 2), .int .i64 (hA 3), .int .i64 (hA 4), .int .i64 (hA 5), .int .i64 (hA 6), .int .i64 (hA 7), .slice aA lA.length cA]
 have CB := Cel.new1 X1 (.cells #[.string kA, .int .i64 (hA 0), .int .i64 (hA 1), .int .i64 (hA 2), .int .i64 (hA 3), .int .i64 (hA 4), .int .i64 (hA 5), .int .i64 (hA 6), .int .i64 (hA 7), .slice aA lA.length cA] 27) 27 #[.string kB, .int .i64 (hB 0), .int .i64 (hB 1), .int .i64 (hB 2), .int .i64 (hB 3), .int .i64 (hB 4), .int .i64 (hB 5), .int .i64 (hB 6), .int .i64 (hB 7), .slice aB lB.length cB]
 have OB : Off (fun _ => False) X1 ((X1.alloc (.cells #[.string kA, .int .i64 (hA 0), .int .i64 (hA 1), .int .i64 (hA 2), .int .i64 (hA 3), .int .i64 (hA 4), .int .i64 (hA 5), .int .i64 (hA 6), .int .i64 (hA 7), .slice aA lA.length cA] 27)).alloc (.cells #[.string kB, .int .i64 (hB 0), .int .i64 (hB 1), .int .i64 (hB 2), .int .i64 (hB 3), .int .i64 (hB 4), .int .i64 (hB 5), .int .i64 (hB 6), .int .i64 (hB 7), .slice aB lB.length cB] 27)) := ((Off.refl _ X1).alloc _).alloc _
 have HA : Hid _ := dgs_one (d := ⟨kA, hA, aA, cA, lA⟩) (CA.alloc (.cells #[.string kB, .int .i64 (hB 0), .int .i64 (hB 1), .int .i64 (hB 2), .int .i64 (hB 3), .int .i64 (hB 4), .int .i64 (hB 5), .int .i64 (hB 6), .int .i64 (hB 7), .slice aB lB.length cB] 27)) (RA.out.off OB)
 have HB : Hid _ := dgs_one (d := ⟨kB, hB, aB, cB, lB⟩) CB (RB.out.off OB)
 have HOA : Hid _ := OB
 obtain ⟨y0, y1, y2, y3, y4, y5, y6, y7, y8, y9⟩ := cel10 GA.out
 obtain ⟨z0, z1, z2, z3, z4, z5, z6, z7, z8, z9⟩ := cel10 (GB.out.off OA (fun h => h))
 clear CA OA CB OB
 go_wp2_with fail
 clear y0 y1 y2 y3 y4 y5 y6 y7 y8 y9 z0 z1 z2 z3 z4 z5 z6 z7 z8 z9
 refine (samedgsB_any (some ⟨X1.heap.size, 0, none⟩) (some ⟨X1.heap.size + 1, 0, none⟩) 1 1 [⟨kA, hA, aA, cA, lA⟩] [⟨kB, hB, aB, cB, lB⟩] _ HA.out HB.out rfl (fun i x y hx hy => ?_) (by simp)).mono ?_
 ·rcases i with _ | i
  ·simp at hx hy
   subst hx hy
   exact ⟨HK.out, HEQ.out, HDS.out, HDX.out⟩
  ·simp at hx
 rintro e z1 ⟨rfl, p1⟩
 have HP1 : Hid (Off (fun _ => False) X1 z1) := HOA.out.trans p1 (fun _ _ h => h)
 clear p1 HA HB
 have eb1 := eql_bool BA
 go_wp2_with fail
 clear eb1
 refine (rend_any (JR.out.off HP1.out (fun h => h) (fun _ _ _ h => h))).mono ?_
 rintro e z ⟨rfl, hz⟩
 rw [hz]
 clear hz z
 go_wp2_with fail
 refine (frend_any (JM.out.off HP1.out (fun h => h) (fun _ _ _ h => h))).mono ?_
 rintro e z ⟨rfl, hz⟩
 rw [hz]
 clear hz z
 go_wp2_with fail
 refine (awake_any _).mono ?_
 rintro e z3 ⟨rfl, p3⟩
 go_wp2_with fail
 go_ret
 exact ⟨rfl, HO.out.trans ((OW.out.trans HP1.out (fun _ _ h => h)).trans p3 (fun _ _ h => h)) (fun _ _ h => h)⟩
end Go.Proofs.Ytpnnpdfmoldiiaa
