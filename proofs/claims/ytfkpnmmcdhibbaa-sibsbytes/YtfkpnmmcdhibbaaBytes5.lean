/- The walk of SibsBytes. -/
import Derived.Test.YtfkpnmmcdhibbaaBytP
namespace Go.Proofs.Ytfkpnmmcdhibbaa
open Go.RowKit

set_option maxRecDepth 100000 in
set_option maxHeartbeats 8000000 in
theorem bytes_walk (f : Nat → Int) (a : Option Addr) (ca : Nat) (l : List V) (key : ByteArray) (tad : Option Addr) (cap : Nat) (bs : List Nat) (w : World)
    (hr : ∀ j, j < 8 → -9223372036854775808 ≤ f j ∧ f j ≤ 9223372036854775807) (ra : Row w a ca l) (hks : key.size ≤ 140737488351232) (hA : ArgB w tad bs.length cap bs) :
    Calls Try.prog 6 #[.agg #[.int .i64 (f 0), .int .i64 (f 1), .int .i64 (f 2), .int .i64 (f 3), .int .i64 (f 4), .int .i64 (f 5), .int .i64 (f 6), .int .i64 (f 7), .slice a l.length ca], .string key, .slice tad bs.length cap] w fun e w' => e = .returned (.bool true) ∧ Off (fun _ => False) w w' := by
  have hnot := not_any
  obtain ⟨-, hlt, hsrc, hbd⟩ := hA
  obtain ⟨sts, hsts⟩ : ∃ sts, sts = wrS 100000 (some []) f (cont l) := ⟨_, rfl⟩
  obtain ⟨ste, hste⟩ : ∃ ste, ste = wrE 100000 (some []) key f (cont l) := ⟨_, rfl⟩
  have HLES : Hid ((sts.getD []).length ≤ 100000) := by show _ ≤ _; rw [hsts]; exact wrS_le (by simp) _ _
  have HLEE : Hid ((ste.getD []).length ≤ 100000) := by show _ ≤ _; rw [hste]; exact wrE_le (by simp) _ _ _
  have HSTS : Hid _ := hsts
  have HSTE : Hid _ := hste
  obtain ⟨W, hW⟩ : ∃ W, W = w.alloc (.cells #[.int .i64 (f 0), .int .i64 (f 1), .int .i64 (f 2), .int .i64 (f 3), .int .i64 (f 4), .int .i64 (f 5), .int .i64 (f 6), .int .i64 (f 7), .slice a l.length ca] 26) := ⟨_, rfl⟩
  have O : Off (fun _ => False) w W := by rw [hW]; exact (Off.refl _ w).alloc _
  have C0 : Cel w.heap.size 26 #[.int .i64 (f 0), .int .i64 (f 1), .int .i64 (f 2), .int .i64 (f 3), .int .i64 (f 4), .int .i64 (f 5), .int .i64 (f 6), .int .i64 (f 7), .slice a l.length ca] W := by rw [hW]; exact Cel.new w _ _
  have HW : Hid _ := hW.symm
  have H0 : Hid _ := C0
  have HO : Hid _ := O
  have HRA : Hid _ := ra.off O
  have HLT : Hid _ := hlt
  have HSR : Hid (Src W tad cap bs) := hsrc.off O (fun _ _ _ h => h)
  have HRG : Hid _ := hr
  have HKS : Hid _ := hks
  clear hW C0 O ra hlt hsrc hr hks hsts hste
  by_cases h40 : l.length ≤ 40
  · have hlb : lightB [⟨f, a, ca, l⟩] = true := by simp [lightB]; omega
    go_enter Try.func6, Try.ntmps6
    go_upto_region 1 with fail
    rw [HW.out]
    generalize hq0 : w.heap.size = q0 at H0 ⊢
    clear hq0
    obtain ⟨x0, x1, x2, x3, x4, x5, x6, x7, x8⟩ := cel9 H0.out
    have OA : Off (fun _ => False) W (W.alloc (.cells #[.int .i64 (f 0), .int .i64 (f 1), .int .i64 (f 2), .int .i64 (f 3), .int .i64 (f 4), .int .i64 (f 5), .int .i64 (f 6), .int .i64 (f 7), .slice a l.length ca] 26)) := (Off.refl _ W).alloc _
    have HSL : Hid _ := sl1 (Cel.new W 26 #[.int .i64 (f 0), .int .i64 (f 1), .int .i64 (f 2), .int .i64 (f 3), .int .i64 (f 4), .int .i64 (f 5), .int .i64 (f 6), .int .i64 (f 7), .slice a l.length ca]) (HRA.out.off OA)
    have HOA : Hid _ := OA
    clear OA
    go_wp2_with fail
    refine (light_any _ 1 _ _ HSL.out (by simp)).mono ?_
    rw [hlb]
    rintro e w2 ⟨rfl, o2⟩
    clear x0 x1 x2 x3 x4 x5 x6 x7 x8 HSL
    have HO2 : Hid _ := HOA.out.trans o2 (fun _ _ h => h)
    clear o2 HOA
    go_wp2_with fail
    refine (newWriter_any 100000 (by decide) w2).mono ?_
    rintro e y ⟨rfl, hW, o3⟩
    rw [show Int.toNat 100000 = 100000 from rfl] at hW
    obtain ⟨v, p1, p2, D, E, hv, hp1, hp2, hW', hF, dj, lD, lE, Ov⟩ := two_new HO2.out hW o3
    have HV : Hid _ := hv
    have HP2 : Hid _ := hp2
    have hW1 : Hid _ := hW'
    have hF1 : Hid _ := hF
    have hDJ : Hid _ := dj
    have HLD : Hid _ := lD
    have HLE : Hid _ := lE
    have HOv : Hid _ := Ov
    rw [← hp1]
    clear hW o3 hW' hF dj lD lE Ov hp1 hv hp2
    go_upto_region 4 with fail
    rw [← HV.out, ← HP2.out]
    clear HV HP2 HO2
    obtain ⟨x0, x1, x2, x3, x4, x5, x6, x7, x8⟩ := cel9 (H0.out.off HOv.out (fun h => h))
    go_wp2_with fail
    clear x0 x1 x2 x3 x4 x5 x6 x7 x8
    refine (swrite_any hW1.out (by decide) (by simp) f HRG.out a ca l (fun w' o => HRA.out.off (HOv.out.trans o (fun i hi h => absurd (HLD.out i h) (by omega))))).mono ?_
    rw [← HSTS.out]
    rintro e w4 ⟨rfl, D', hW4, o4, gD⟩
    have HO4 : Hid (Off (fun _ => False) W w4) := HOv.out.trans o4 (fun i hi h => absurd (HLD.out i h) (by omega))
    have HF4 : Hid _ := hF1.out.off o4 (fun c _ hE hD => hDJ.out c hD hE)
    have HDJ4 : Hid (∀ c, D' c → E c → False) := fun c h1 h2 => by
      rcases gD c h1 with h | h
      · exact hDJ.out c h h2
      · have := hF1.out.lt c h2
        omega
    have HW4 : Hid _ := hW4
    clear hW4 o4 gD hW1 hF1 hDJ HLD HOv
    obtain ⟨x0, x1, x2, x3, x4, x5, x6, x7, x8⟩ := cel9 (H0.out.off HO4.out (fun h => h))
    go_wp2_with fail
    clear x0 x1 x2 x3 x4 x5 x6 x7 x8
    refine (gswrite_any HF4.out (by decide) (by simp) f HRG.out a ca l (fun w' o => HRA.out.off (HO4.out.trans o (fun i hi h => absurd (HLE.out i h) (by omega))))).mono ?_
    rw [← HSTS.out]
    rintro e w5 ⟨rfl, E', F5, o5, gE⟩
    have HO5 : Hid (Off (fun _ => False) W w5) := HO4.out.trans o5 (fun i hi h => absurd (HLE.out i h) (by omega))
    have HW5 : Hid _ := HW4.out.off o5 (fun c _ h1 h2 => HDJ4.out c h1 h2)
    have HF5 : Hid _ := F5
    clear F5 o5 gE HW4 HF4 HDJ4 HLE HO4
    go_wp2_with fail
    refine (done_any HW5.out (by have := HLES.out; omega)).mono ?_
    rintro e w6 ⟨t6, c6, rfl, own6, hb6, o6⟩
    obtain ⟨sm, tm, nm, km, her, cm, hm⟩ := (HF5.out.off o6 (fun _ _ _ h => h)).tell
    rw [her]
    obtain ⟨en, hen⟩ : ∃ en, en = (sts : Option (List Nat)).getD [] := ⟨_, rfl⟩
    rw [← hen] at own6 hm ⊢
    have HO6 : Hid (Off (fun _ => False) W w6) := HO5.out.trans o6 (fun _ _ h => h)
    have HN : Hid _ := own6
    have HC : Hid _ := cm
    have HM : Hid _ := hm
    clear own6 cm hm hen her hb6 o6 HF5 HW5 HO5
    go_upto_region 7 with fail
    refine wp_region_held_drew (S := fun w' => Off (fun _ => False) w6 w') (by kernel_rfl) ((Off.refl _ w6).drew) (fun hS => ?_)
    refine take_at (i := 0) 46 (v := .pointer (some ⟨p2, 0, none⟩)) rfl rfl (by kernel_rfl) (by kernel_rfl) (by kernel_rfl) (fun _ _ _ h => h) (Or.inl ⟨by rfl, fun w' hw' => by go_simp⟩) hS ?_
    simp only [Act.put, List.setIfInBounds_toArray, List.set_cons_zero, List.set_cons_succ]
    refine take_at (i := 1) 47 (v := .pointer (some ⟨p2, 0, none⟩)) rfl rfl (by kernel_rfl) (by kernel_rfl) (by kernel_rfl) (fun _ _ _ h => h) (Or.inl ⟨by rfl, fun w' hw' => by go_simp⟩) hS ?_
    simp only [Act.put, List.setIfInBounds_toArray, List.set_cons_zero, List.set_cons_succ]
    refine take_at (i := 2) 48 (v := .pointer (some ⟨p2, 2, none⟩)) rfl rfl (by kernel_rfl) (by kernel_rfl) (by kernel_rfl) (fun _ _ _ h => h) (Or.inl ⟨by rfl, fun w' hw' => by go_simp⟩) hS ?_
    simp only [Act.put, List.setIfInBounds_toArray, List.set_cons_zero, List.set_cons_succ]
    refine take_at (i := 3) 49 (v := .bool (!sm)) rfl rfl (by kernel_rfl) (by kernel_rfl) (by kernel_rfl) (fun _ _ _ h => h) (Or.inl ⟨by rfl, fun w' hw' => by have x := (HC.out.off hw' (fun h => h)).cell 2; simp at x; go_simp⟩) hS ?_
    simp only [Act.put, List.setIfInBounds_toArray, List.set_cons_zero, List.set_cons_succ]
    refine take_at (i := 4) 50 (v := .int .i64 (erZ sm)) rfl rfl (by kernel_rfl) (by kernel_rfl) (by kernel_rfl) (fun _ _ _ h => h) (Or.inl ⟨by rfl, fun w' hw' => by go_simp⟩) hS ?_
    simp only [Act.put, List.setIfInBounds_toArray, List.set_cons_zero, List.set_cons_succ]
    refine take_at (i := 5) 51 (v := .bool (!sm)) rfl rfl (by kernel_rfl) (by kernel_rfl) (by kernel_rfl) (fun _ _ _ h => h) (Or.inl ⟨by rfl, fun w' hw' => by have x := er4 sm; go_simp⟩) hS ?_
    simp only [Act.put, List.setIfInBounds_toArray, List.set_cons_zero, List.set_cons_succ]
    refine take_at (i := 6) 52 (v := .bool false) rfl rfl (by kernel_rfl) (by kernel_rfl) (by kernel_rfl) (fun _ _ _ h => h) (Or.inl ⟨by rfl, fun w' hw' => by have x := neq_same (!sm); go_simp⟩) hS ?_
    simp only [Act.put, List.setIfInBounds_toArray, List.set_cons_zero, List.set_cons_succ]
    refine take_at (i := 7) 53 (v := .bool false) rfl rfl (by kernel_rfl) (by kernel_rfl) (by kernel_rfl) (fun _ _ _ h => h) (Or.inl ⟨by rfl, fun w' hw' => by go_simp⟩) hS ?_
    simp only [Act.put, List.setIfInBounds_toArray, List.set_cons_zero, List.set_cons_succ]
    refine take_at (i := 8) 54 (v := .int .i64 (erZ sm)) rfl rfl (by kernel_rfl) (by kernel_rfl) (by kernel_rfl) (fun _ _ _ h => h) (Or.inl ⟨by rfl, fun w' hw' => by go_simp⟩) hS ?_
    simp only [Act.put, List.setIfInBounds_toArray, List.set_cons_zero, List.set_cons_succ]
    refine take_at (i := 9) 55 (v := .bool sm) rfl rfl (by kernel_rfl) (by kernel_rfl) (by kernel_rfl) (fun _ _ _ h => h) (Or.inl ⟨by rfl, fun w' hw' => by have x := er0 sm; go_simp⟩) hS ?_
    simp only [Act.put, List.setIfInBounds_toArray, List.set_cons_zero, List.set_cons_succ]
    refine take_at (i := 10) 56 (v := .bool sm) rfl rfl (by kernel_rfl) (by kernel_rfl) (by kernel_rfl) (fun _ _ _ h => h) (Or.inl ⟨by rfl, fun w' hw' => by go_simp⟩) hS ?_
    simp only [Act.put, List.setIfInBounds_toArray, List.set_cons_zero, List.set_cons_succ]
    refine take_at (i := 11) 57 (v := gv sm (.slice t6 en.length c6)) rfl rfl (by kernel_rfl) (by kernel_rfl) (by kernel_rfl) (fun _ _ _ h => h) (by
      cases sm <;> dsimp only [gv]
      · exact Or.inr ⟨by rfl, rfl⟩
      · exact Or.inl ⟨by rfl, fun w' hw' => by go_simp⟩) hS ?_
    simp only [Act.put, List.setIfInBounds_toArray, List.set_cons_zero, List.set_cons_succ]
    refine take_at (i := 12) 58 (v := gv sm (.string (strOf en))) rfl rfl (by kernel_rfl) (by kernel_rfl) (by kernel_rfl) (fun _ _ _ h => h) (by
      cases sm <;> dsimp only [gv]
      · exact Or.inr ⟨by rfl, rfl⟩
      · exact Or.inl ⟨by rfl, fun w' hw' => by have x := conv_src (HN.out.off hw' (fun _ _ _ h => h)).src; go_simp⟩) hS ?_
    simp only [Act.put, List.setIfInBounds_toArray, List.set_cons_zero, List.set_cons_succ]
    refine take_at (i := 13) 59 (v := gv sm (.pointer (some ⟨p2, 0, none⟩))) rfl rfl (by kernel_rfl) (by kernel_rfl) (by kernel_rfl) (fun _ _ _ h => h) (by
      cases sm <;> dsimp only [gv]
      · exact Or.inr ⟨by rfl, rfl⟩
      · exact Or.inl ⟨by rfl, fun w' hw' => by go_simp⟩) hS ?_
    simp only [Act.put, List.setIfInBounds_toArray, List.set_cons_zero, List.set_cons_succ]
    refine take_at (i := 14) 60 (v := gv sm (.pointer (some ⟨p2, 0, none⟩))) rfl rfl (by kernel_rfl) (by kernel_rfl) (by kernel_rfl) (fun _ _ _ h => h) (by
      cases sm <;> dsimp only [gv]
      · exact Or.inr ⟨by rfl, rfl⟩
      · exact Or.inl ⟨by rfl, fun w' hw' => by go_simp⟩) hS ?_
    simp only [Act.put, List.setIfInBounds_toArray, List.set_cons_zero, List.set_cons_succ]
    refine take_at (i := 15) 61 (v := gv sm (.pointer (some ⟨p2, 0, none⟩))) rfl rfl (by kernel_rfl) (by kernel_rfl) (by kernel_rfl) (fun _ _ _ h => h) (by
      cases sm <;> dsimp only [gv]
      · exact Or.inr ⟨by rfl, rfl⟩
      · exact Or.inl ⟨by rfl, fun w' hw' => by go_simp⟩) hS ?_
    simp only [Act.put, List.setIfInBounds_toArray, List.set_cons_zero, List.set_cons_succ]
    refine take_at (i := 16) 62 (v := gv sm (.slice tm nm km)) rfl rfl (by kernel_rfl) (by kernel_rfl) (by kernel_rfl) (fun _ _ _ h => h) (by
      cases sm <;> dsimp only [gv]
      · exact Or.inr ⟨by rfl, rfl⟩
      · exact Or.inl ⟨by rfl, fun w' hw' => by have x := (HC.out.off hw' (fun h => h)).cell 0; simp at x; go_simp⟩) hS ?_
    simp only [Act.put, List.setIfInBounds_toArray, List.set_cons_zero, List.set_cons_succ]
    refine take_at (i := 17) 63 (v := gv sm (.string (strOf en))) rfl rfl (by kernel_rfl) (by kernel_rfl) (by kernel_rfl) (fun _ _ _ h => h) (by
      cases sm <;> dsimp only [gv]
      · exact Or.inr ⟨by rfl, rfl⟩
      · exact Or.inl ⟨by rfl, fun w' hw' => by obtain ⟨hn, hr⟩ := HM.out rfl; subst hn; have x := conv_src (hr.off hw' (fun _ _ _ h => h)).src; go_simp⟩) hS ?_
    simp only [Act.put, List.setIfInBounds_toArray, List.set_cons_zero, List.set_cons_succ]
    refine take_at (i := 18) 64 (v := gv sm (.bool false)) rfl rfl (by kernel_rfl) (by kernel_rfl) (by kernel_rfl) (fun _ _ _ h => h) (by
      cases sm <;> dsimp only [gv]
      · exact Or.inr ⟨by rfl, rfl⟩
      · exact Or.inl ⟨by rfl, fun w' hw' => by go_simp⟩) hS ?_
    simp only [Act.put, List.setIfInBounds_toArray, List.set_cons_zero, List.set_cons_succ]
    refine take_at (i := 19) 65 (v := .bool false) rfl rfl (by kernel_rfl) (by kernel_rfl) (by kernel_rfl) (fun _ _ _ h => h) (Or.inl ⟨by rfl, fun w' hw' => by cases sm <;> dsimp only [gv] <;> go_simp⟩) hS ?_
    simp only [Act.put, List.setIfInBounds_toArray, List.set_cons_zero, List.set_cons_succ]
    refine take_at (i := 20) 66 (v := .bool false) rfl rfl (by kernel_rfl) (by kernel_rfl) (by kernel_rfl) (fun _ _ _ h => h) (Or.inl ⟨by rfl, fun w' hw' => by go_simp⟩) hS ?_
    simp only [Act.put, List.setIfInBounds_toArray, List.set_cons_zero, List.set_cons_succ]
    refine wpAnyH_done (by kernel_rfl) ?_ _
    have HOb7 : Hid (Off (fun _ => False) W _) := HO6.out.trans hS (fun _ _ h => h)
    clear hS HN HC HM HO6
    go_wp2_with fail
    refine (newWriter_any 100000 (by decide) _).mono ?_
    rintro e y ⟨rfl, hW, o3⟩
    rw [show Int.toNat 100000 = 100000 from rfl] at hW
    obtain ⟨v, p1, p2, D, E, hv, hp1, hp2, hW', hF, dj, lD, lE, Ov⟩ := two_new HOb7.out hW o3
    have HV : Hid _ := hv
    have HP2 : Hid _ := hp2
    have hW1 : Hid _ := hW'
    have hF1 : Hid _ := hF
    have hDJ : Hid _ := dj
    have HLD : Hid _ := lD
    have HLE : Hid _ := lE
    have HOv : Hid _ := Ov
    rw [← hp1]
    clear hW o3 hW' hF dj lD lE Ov hp1 hv hp2
    go_upto_region 10 with fail
    rw [← HV.out, ← HP2.out]
    clear HV HP2 HOb7
    obtain ⟨x0, x1, x2, x3, x4, x5, x6, x7, x8⟩ := cel9 (H0.out.off HOv.out (fun h => h))
    go_wp2_with fail
    clear x0 x1 x2 x3 x4 x5 x6 x7 x8
    refine (writeEntry_any hW1.out (by decide) (by simp) key HKS.out f HRG.out a ca l (fun w' o => HRA.out.off (HOv.out.trans o (fun i hi h => absurd (HLD.out i h) (by omega))))).mono ?_
    rw [← HSTE.out]
    rintro e w4 ⟨rfl, D', hW4, o4, gD⟩
    have HO4 : Hid (Off (fun _ => False) W w4) := HOv.out.trans o4 (fun i hi h => absurd (HLD.out i h) (by omega))
    have HF4 : Hid _ := hF1.out.off o4 (fun c _ hE hD => hDJ.out c hD hE)
    have HDJ4 : Hid (∀ c, D' c → E c → False) := fun c h1 h2 => by
      rcases gD c h1 with h | h
      · exact hDJ.out c h h2
      · have := hF1.out.lt c h2
        omega
    have HW4 : Hid _ := hW4
    clear hW4 o4 gD hW1 hF1 hDJ HLD HOv
    obtain ⟨x0, x1, x2, x3, x4, x5, x6, x7, x8⟩ := cel9 (H0.out.off HO4.out (fun h => h))
    go_wp2_with fail
    clear x0 x1 x2 x3 x4 x5 x6 x7 x8
    refine (gwriteEntry_any HF4.out (by decide) (by simp) key HKS.out f HRG.out a ca l (fun w' o => HRA.out.off (HO4.out.trans o (fun i hi h => absurd (HLE.out i h) (by omega))))).mono ?_
    rw [← HSTE.out]
    rintro e w5 ⟨rfl, E', F5, o5, gE⟩
    have HO5 : Hid (Off (fun _ => False) W w5) := HO4.out.trans o5 (fun i hi h => absurd (HLE.out i h) (by omega))
    have HW5 : Hid _ := HW4.out.off o5 (fun c _ h1 h2 => HDJ4.out c h1 h2)
    have HF5 : Hid _ := F5
    clear F5 o5 gE HW4 HF4 HDJ4 HLE HO4
    go_wp2_with fail
    refine (done_any HW5.out (by have := HLEE.out; omega)).mono ?_
    rintro e w6 ⟨t6, c6, rfl, own6, hb6, o6⟩
    obtain ⟨sm, tm, nm, km, her, cm, hm⟩ := (HF5.out.off o6 (fun _ _ _ h => h)).tell
    rw [her]
    obtain ⟨en, hen⟩ : ∃ en, en = (ste : Option (List Nat)).getD [] := ⟨_, rfl⟩
    rw [← hen] at own6 hm ⊢
    have HO6 : Hid (Off (fun _ => False) W w6) := HO5.out.trans o6 (fun _ _ h => h)
    have HN : Hid _ := own6
    have HC : Hid _ := cm
    have HM : Hid _ := hm
    clear own6 cm hm hen her hb6 o6 HF5 HW5 HO5
    go_upto_region 13 with fail
    refine wp_region_held_drew (S := fun w' => Off (fun _ => False) w6 w') (by kernel_rfl) ((Off.refl _ w6).drew) (fun hS => ?_)
    refine take_at (i := 0) 85 (v := .pointer (some ⟨p2, 0, none⟩)) rfl rfl (by kernel_rfl) (by kernel_rfl) (by kernel_rfl) (fun _ _ _ h => h) (Or.inl ⟨by rfl, fun w' hw' => by go_simp⟩) hS ?_
    simp only [Act.put, List.setIfInBounds_toArray, List.set_cons_zero, List.set_cons_succ]
    refine take_at (i := 1) 86 (v := .pointer (some ⟨p2, 0, none⟩)) rfl rfl (by kernel_rfl) (by kernel_rfl) (by kernel_rfl) (fun _ _ _ h => h) (Or.inl ⟨by rfl, fun w' hw' => by go_simp⟩) hS ?_
    simp only [Act.put, List.setIfInBounds_toArray, List.set_cons_zero, List.set_cons_succ]
    refine take_at (i := 2) 87 (v := .pointer (some ⟨p2, 2, none⟩)) rfl rfl (by kernel_rfl) (by kernel_rfl) (by kernel_rfl) (fun _ _ _ h => h) (Or.inl ⟨by rfl, fun w' hw' => by go_simp⟩) hS ?_
    simp only [Act.put, List.setIfInBounds_toArray, List.set_cons_zero, List.set_cons_succ]
    refine take_at (i := 3) 88 (v := .bool (!sm)) rfl rfl (by kernel_rfl) (by kernel_rfl) (by kernel_rfl) (fun _ _ _ h => h) (Or.inl ⟨by rfl, fun w' hw' => by have x := (HC.out.off hw' (fun h => h)).cell 2; simp at x; go_simp⟩) hS ?_
    simp only [Act.put, List.setIfInBounds_toArray, List.set_cons_zero, List.set_cons_succ]
    refine take_at (i := 4) 89 (v := .int .i64 (erZ sm)) rfl rfl (by kernel_rfl) (by kernel_rfl) (by kernel_rfl) (fun _ _ _ h => h) (Or.inl ⟨by rfl, fun w' hw' => by go_simp⟩) hS ?_
    simp only [Act.put, List.setIfInBounds_toArray, List.set_cons_zero, List.set_cons_succ]
    refine take_at (i := 5) 90 (v := .bool (!sm)) rfl rfl (by kernel_rfl) (by kernel_rfl) (by kernel_rfl) (fun _ _ _ h => h) (Or.inl ⟨by rfl, fun w' hw' => by have x := er4 sm; go_simp⟩) hS ?_
    simp only [Act.put, List.setIfInBounds_toArray, List.set_cons_zero, List.set_cons_succ]
    refine take_at (i := 6) 91 (v := .bool false) rfl rfl (by kernel_rfl) (by kernel_rfl) (by kernel_rfl) (fun _ _ _ h => h) (Or.inl ⟨by rfl, fun w' hw' => by have x := neq_same (!sm); go_simp⟩) hS ?_
    simp only [Act.put, List.setIfInBounds_toArray, List.set_cons_zero, List.set_cons_succ]
    refine take_at (i := 7) 92 (v := .bool false) rfl rfl (by kernel_rfl) (by kernel_rfl) (by kernel_rfl) (fun _ _ _ h => h) (Or.inl ⟨by rfl, fun w' hw' => by go_simp⟩) hS ?_
    simp only [Act.put, List.setIfInBounds_toArray, List.set_cons_zero, List.set_cons_succ]
    refine take_at (i := 8) 93 (v := .int .i64 (erZ sm)) rfl rfl (by kernel_rfl) (by kernel_rfl) (by kernel_rfl) (fun _ _ _ h => h) (Or.inl ⟨by rfl, fun w' hw' => by go_simp⟩) hS ?_
    simp only [Act.put, List.setIfInBounds_toArray, List.set_cons_zero, List.set_cons_succ]
    refine take_at (i := 9) 94 (v := .bool sm) rfl rfl (by kernel_rfl) (by kernel_rfl) (by kernel_rfl) (fun _ _ _ h => h) (Or.inl ⟨by rfl, fun w' hw' => by have x := er0 sm; go_simp⟩) hS ?_
    simp only [Act.put, List.setIfInBounds_toArray, List.set_cons_zero, List.set_cons_succ]
    refine take_at (i := 10) 95 (v := .bool sm) rfl rfl (by kernel_rfl) (by kernel_rfl) (by kernel_rfl) (fun _ _ _ h => h) (Or.inl ⟨by rfl, fun w' hw' => by go_simp⟩) hS ?_
    simp only [Act.put, List.setIfInBounds_toArray, List.set_cons_zero, List.set_cons_succ]
    refine take_at (i := 11) 96 (v := gv sm (.slice t6 en.length c6)) rfl rfl (by kernel_rfl) (by kernel_rfl) (by kernel_rfl) (fun _ _ _ h => h) (by
      cases sm <;> dsimp only [gv]
      · exact Or.inr ⟨by rfl, rfl⟩
      · exact Or.inl ⟨by rfl, fun w' hw' => by go_simp⟩) hS ?_
    simp only [Act.put, List.setIfInBounds_toArray, List.set_cons_zero, List.set_cons_succ]
    refine take_at (i := 12) 97 (v := gv sm (.string (strOf en))) rfl rfl (by kernel_rfl) (by kernel_rfl) (by kernel_rfl) (fun _ _ _ h => h) (by
      cases sm <;> dsimp only [gv]
      · exact Or.inr ⟨by rfl, rfl⟩
      · exact Or.inl ⟨by rfl, fun w' hw' => by have x := conv_src (HN.out.off hw' (fun _ _ _ h => h)).src; go_simp⟩) hS ?_
    simp only [Act.put, List.setIfInBounds_toArray, List.set_cons_zero, List.set_cons_succ]
    refine take_at (i := 13) 98 (v := gv sm (.pointer (some ⟨p2, 0, none⟩))) rfl rfl (by kernel_rfl) (by kernel_rfl) (by kernel_rfl) (fun _ _ _ h => h) (by
      cases sm <;> dsimp only [gv]
      · exact Or.inr ⟨by rfl, rfl⟩
      · exact Or.inl ⟨by rfl, fun w' hw' => by go_simp⟩) hS ?_
    simp only [Act.put, List.setIfInBounds_toArray, List.set_cons_zero, List.set_cons_succ]
    refine take_at (i := 14) 99 (v := gv sm (.pointer (some ⟨p2, 0, none⟩))) rfl rfl (by kernel_rfl) (by kernel_rfl) (by kernel_rfl) (fun _ _ _ h => h) (by
      cases sm <;> dsimp only [gv]
      · exact Or.inr ⟨by rfl, rfl⟩
      · exact Or.inl ⟨by rfl, fun w' hw' => by go_simp⟩) hS ?_
    simp only [Act.put, List.setIfInBounds_toArray, List.set_cons_zero, List.set_cons_succ]
    refine take_at (i := 15) 100 (v := gv sm (.pointer (some ⟨p2, 0, none⟩))) rfl rfl (by kernel_rfl) (by kernel_rfl) (by kernel_rfl) (fun _ _ _ h => h) (by
      cases sm <;> dsimp only [gv]
      · exact Or.inr ⟨by rfl, rfl⟩
      · exact Or.inl ⟨by rfl, fun w' hw' => by go_simp⟩) hS ?_
    simp only [Act.put, List.setIfInBounds_toArray, List.set_cons_zero, List.set_cons_succ]
    refine take_at (i := 16) 101 (v := gv sm (.slice tm nm km)) rfl rfl (by kernel_rfl) (by kernel_rfl) (by kernel_rfl) (fun _ _ _ h => h) (by
      cases sm <;> dsimp only [gv]
      · exact Or.inr ⟨by rfl, rfl⟩
      · exact Or.inl ⟨by rfl, fun w' hw' => by have x := (HC.out.off hw' (fun h => h)).cell 0; simp at x; go_simp⟩) hS ?_
    simp only [Act.put, List.setIfInBounds_toArray, List.set_cons_zero, List.set_cons_succ]
    refine take_at (i := 17) 102 (v := gv sm (.string (strOf en))) rfl rfl (by kernel_rfl) (by kernel_rfl) (by kernel_rfl) (fun _ _ _ h => h) (by
      cases sm <;> dsimp only [gv]
      · exact Or.inr ⟨by rfl, rfl⟩
      · exact Or.inl ⟨by rfl, fun w' hw' => by obtain ⟨hn, hr⟩ := HM.out rfl; subst hn; have x := conv_src (hr.off hw' (fun _ _ _ h => h)).src; go_simp⟩) hS ?_
    simp only [Act.put, List.setIfInBounds_toArray, List.set_cons_zero, List.set_cons_succ]
    refine take_at (i := 18) 103 (v := gv sm (.bool false)) rfl rfl (by kernel_rfl) (by kernel_rfl) (by kernel_rfl) (fun _ _ _ h => h) (by
      cases sm <;> dsimp only [gv]
      · exact Or.inr ⟨by rfl, rfl⟩
      · exact Or.inl ⟨by rfl, fun w' hw' => by go_simp⟩) hS ?_
    simp only [Act.put, List.setIfInBounds_toArray, List.set_cons_zero, List.set_cons_succ]
    refine take_at (i := 19) 104 (v := .bool false) rfl rfl (by kernel_rfl) (by kernel_rfl) (by kernel_rfl) (fun _ _ _ h => h) (Or.inl ⟨by rfl, fun w' hw' => by cases sm <;> dsimp only [gv] <;> go_simp⟩) hS ?_
    simp only [Act.put, List.setIfInBounds_toArray, List.set_cons_zero, List.set_cons_succ]
    refine take_at (i := 20) 105 (v := .bool false) rfl rfl (by kernel_rfl) (by kernel_rfl) (by kernel_rfl) (fun _ _ _ h => h) (Or.inl ⟨by rfl, fun w' hw' => by go_simp⟩) hS ?_
    simp only [Act.put, List.setIfInBounds_toArray, List.set_cons_zero, List.set_cons_succ]
    refine wpAnyH_done (by kernel_rfl) ?_ _
    have HOb13 : Hid (Off (fun _ => False) W _) := HO6.out.trans hS (fun _ _ h => h)
    clear hS HN HC HM HO6
    go_wp2_with fail
    have HU : Hid _ := HOb13
    have S5 := HSR.out.off HU.out (fun _ _ _ h => h)
    refine (newReader_any tad cap bs (by omega) HLT.out _ S5).mono ?_
    rintro e x1 ⟨rb1, Dr1, rfl, hrb, hDlo, R, o6⟩
    have HR : Hid _ := R
    have hrbW := R.here
    have HLR : Hid _ := R.lt
    have HS6 : Hid _ := S5.off o6 (fun _ _ _ h => h)
    clear R S5
    go_wp2_with (at_builtin; refine wpList_app rfl (.const (.slice none 0 0)) (.tmp 108) rfl none 0 [] rfl (OwnR.nil _) tad cap bs rfl HS6.out (by simp; omega) ?_; intro t2 c2 x2 y2 hy2 own2 off2 at2; obtain rfl : bs = y2 := hy2.out.symm; have o7 : Off (fun _ => False) x1 x2 := off2.mono (fun i _ h => by simp [blk] at h); have OW2 : Hid _ := own2; have HB2 : Hid (∀ k, blk t2 = some k → x1.heap.size ≤ k) := (fun k hk => by rcases at2 with h | h <;> (rw [h] at hk; simp [blk] at hk; try omega)); clear own2 off2 at2 hy2 HS6; go_upto_region 16 with fail)
    obtain ⟨V0, mb1, Dm1, hV0, hmb, RR, MM, hne, nR, nM, rlo, mlo, Dlo, Elo, OV⟩ := two_rd HLT.out (by omega) hrb hDlo HR.out o6 o7 OW2.out HB2.out
    rw [← hV0, ← hmb]
    have HO0 : Hid (Off (fun _ => False) W V0) := HU.out.trans OV (fun _ _ h => h)
    have HMM : Hid _ := MM
    have rV := RR.here
    have mV := MM.here
    clear HR HLR OW2 HB2 o6 o7 hV0 hmb MM hrb hDlo hrbW
    refine (sread_any RR).mono ?_
    rintro e x3 ⟨h1a, a1a, c1a, l1a, rfl, hh1a, hl1a, row1a, fr1a, R1, o1a⟩
    have HHH1a : Hid _ := hh1a
    have HLL1a : Hid _ := hl1a
    have HM1 : Hid _ := HMM.out.off o1a (fun h => hne h.symm) (fun c _ hc h => nM (h ▸ hc))
    have HO1 : Hid (Off (fun c => c = rb1) V0 x3) := o1a
    have HR1 : Hid _ := R1
    have HROW1 : Hid _ := row1a
    have HFR1 : Hid _ := fr1a
    have s1 := o1a.size
    clear R1 row1a fr1a o1a hh1a hl1a HMM RR
    go_upto_region 17 with fail
    obtain ⟨V1, hV1⟩ : ∃ V1, V1 = x3.alloc (.cells #[.int .i64 (h1a 0), .int .i64 (h1a 1), .int .i64 (h1a 2), .int .i64 (h1a 3), .int .i64 (h1a 4), .int .i64 (h1a 5), .int .i64 (h1a 6), .int .i64 (h1a 7), .slice a1a l1a.length c1a] 26) := ⟨_, rfl⟩
    have oo : Off (fun _ => False) x3 V1 := by rw [hV1]; exact (Off.refl _ x3).alloc _
    have G1 : Cel x3.heap.size 26 #[.int .i64 (h1a 0), .int .i64 (h1a 1), .int .i64 (h1a 2), .int .i64 (h1a 3), .int .i64 (h1a 4), .int .i64 (h1a 5), .int .i64 (h1a 6), .int .i64 (h1a 7), .slice a1a l1a.length c1a] V1 := by rw [hV1]; exact Cel.new x3 _ _
    rw [← hV1]
    obtain ⟨q1a, hq⟩ : ∃ q, q = x3.heap.size := ⟨_, rfl⟩
    rw [← hq] at G1 ⊢
    have hqa : x3.heap.size ≤ q1a := by omega
    clear hq hV1
    have HG1 : Hid _ := G1
    clear G1
    have HR2 : Hid _ := HR1.out.off oo (fun h => h) (fun _ _ _ h => h)
    have HROW2 : Hid _ := HROW1.out.off oo
    have HOO : Hid _ := oo
    have HM2 : Hid _ := HM1.out.off oo (fun h => h) (fun _ _ _ h => h)
    clear HR1 HROW1 HM1 oo
    go_wp2_with fail
    refine (gread_any HM2.out).mono ?_
    rintro e x4 ⟨h1b, a1b, c1b, l1b, rfl, hh1b, hl1b, row1b, fr1b, M1, o1b⟩
    have HHH1b : Hid _ := hh1b
    have HLL1b : Hid _ := hl1b
    have HR3 : Hid _ := HR2.out.off o1b (fun h => hne h) (fun c _ hc h => nR (h ▸ hc))
    have HROW3 : Hid _ := HROW2.out.far HFR1.out mV o1b
    have HG3 : Hid _ := HG1.out.off o1b (fun h => by omega)
    have HO3 : Hid (Off (fun c => c = rb1 ∨ c = mb1) V0 x4) := ((HO1.out.mono (fun _ _ h => .inl h)).trans HOO.out (fun _ _ h => h.elim)).trans o1b (fun _ _ h => .inr h)
    have HM3 : Hid _ := M1
    have HROWB : Hid _ := row1b
    clear M1 row1b fr1b o1b hh1b hl1b HR2 HROW2 HM2 HG1 HFR1 HO1 HOO
    go_upto_region 18 with fail
    obtain ⟨X1, hX⟩ : ∃ V1, V1 = x4.alloc (.cells #[.int .i64 (h1b 0), .int .i64 (h1b 1), .int .i64 (h1b 2), .int .i64 (h1b 3), .int .i64 (h1b 4), .int .i64 (h1b 5), .int .i64 (h1b 6), .int .i64 (h1b 7), .slice a1b l1b.length c1b] 26) := ⟨_, rfl⟩
    have oo : Off (fun _ => False) x4 X1 := by rw [hX]; exact (Off.refl _ x4).alloc _
    have G1 : Cel x4.heap.size 26 #[.int .i64 (h1b 0), .int .i64 (h1b 1), .int .i64 (h1b 2), .int .i64 (h1b 3), .int .i64 (h1b 4), .int .i64 (h1b 5), .int .i64 (h1b 6), .int .i64 (h1b 7), .slice a1b l1b.length c1b] X1 := by rw [hX]; exact Cel.new x4 _ _
    rw [← hX]
    obtain ⟨q1b, hq⟩ : ∃ q, q = x4.heap.size := ⟨_, rfl⟩
    rw [← hq] at G1 ⊢
    clear hq hX
    have GB1 : Hid _ := G1
    have GA1 : Hid _ := HG3.out.off oo (fun h => h)
    have RA1 : Hid _ := HROW3.out.off oo
    have RB1 : Hid _ := HROWB.out.off oo
    have JR1 : Hid _ := HR3.out.off oo (fun h => h) (fun _ _ _ h => h)
    have JM1 : Hid _ := HM3.out.off oo (fun h => h) (fun _ _ _ h => h)
    have OX1 : Hid (Off (fun _ => False) _ X1) := (OV.trans HO3.out (fun i hi h => by omega)).trans oo (fun _ _ h => h)
    have OW1 : Hid (Off (fun _ => False) W X1) := HU.out.trans OX1.out (fun _ _ h => h)
    clear G1 HG3 HROW3 HROWB HR3 HM3 HO3 oo OV HO0 hne nR nM rlo mlo Dlo Elo rV mV s1 hqa HU
    go_wp2_with fail
    have S5 := HSR.out.off OW1.out (fun _ _ _ h => h)
    refine (newReader_any tad cap bs (by omega) HLT.out X1 S5).mono ?_
    rintro e x1 ⟨rb2, Dr2, rfl, hrb, hDlo, R, o6⟩
    have HR : Hid _ := R
    have hrbW := R.here
    have HLR : Hid _ := R.lt
    have HS6 : Hid _ := S5.off o6 (fun _ _ _ h => h)
    clear R S5
    go_wp2_with (at_builtin; refine wpList_app rfl (.const (.slice none 0 0)) (.tmp 124) rfl none 0 [] rfl (OwnR.nil _) tad cap bs rfl HS6.out (by simp; omega) ?_; intro t2 c2 x2 y2 hy2 own2 off2 at2; obtain rfl : bs = y2 := hy2.out.symm; have o7 : Off (fun _ => False) x1 x2 := off2.mono (fun i _ h => by simp [blk] at h); have OW2 : Hid _ := own2; have HB2 : Hid (∀ k, blk t2 = some k → x1.heap.size ≤ k) := (fun k hk => by rcases at2 with h | h <;> (rw [h] at hk; simp [blk] at hk; try omega)); clear own2 off2 at2 hy2 HS6; go_upto_region 19 with fail)
    obtain ⟨V0, mb2, Dm2, hV0, hmb, RR, MM, hne, nR, nM, rlo, mlo, Dlo, Elo, OV⟩ := two_rd HLT.out (by omega) hrb hDlo HR.out o6 o7 OW2.out HB2.out
    rw [← hV0, ← hmb]
    have HO0 : Hid (Off (fun _ => False) W V0) := OW1.out.trans OV (fun _ _ h => h)
    have HMM : Hid _ := MM
    have rV := RR.here
    have mV := MM.here
    clear HR HLR OW2 HB2 o6 o7 hV0 hmb MM hrb hDlo hrbW
    refine (readEntry_any RR).mono ?_
    rintro e x3 ⟨key2a, h2a, a2a, c2a, l2a, rfl, hk2a, hh2a, hl2a, row2a, fr2a, R1, o2a⟩
    have HHH2a : Hid _ := hh2a
    have HLL2a : Hid _ := hl2a
    have HKY2a : Hid _ := hk2a
    clear hk2a
    have HM1 : Hid _ := HMM.out.off o2a (fun h => hne h.symm) (fun c _ hc h => nM (h ▸ hc))
    have HO1 : Hid (Off (fun c => c = rb2) V0 x3) := o2a
    have HR1 : Hid _ := R1
    have HROW1 : Hid _ := row2a
    have HFR1 : Hid _ := fr2a
    have s1 := o2a.size
    clear R1 row2a fr2a o2a hh2a hl2a HMM RR
    go_upto_region 20 with fail
    obtain ⟨V1, hV1⟩ : ∃ V1, V1 = x3.alloc (.cells #[.string key2a, .int .i64 (h2a 0), .int .i64 (h2a 1), .int .i64 (h2a 2), .int .i64 (h2a 3), .int .i64 (h2a 4), .int .i64 (h2a 5), .int .i64 (h2a 6), .int .i64 (h2a 7), .slice a2a l2a.length c2a] 32) := ⟨_, rfl⟩
    have oo : Off (fun _ => False) x3 V1 := by rw [hV1]; exact (Off.refl _ x3).alloc _
    have G1 : Cel x3.heap.size 32 #[.string key2a, .int .i64 (h2a 0), .int .i64 (h2a 1), .int .i64 (h2a 2), .int .i64 (h2a 3), .int .i64 (h2a 4), .int .i64 (h2a 5), .int .i64 (h2a 6), .int .i64 (h2a 7), .slice a2a l2a.length c2a] V1 := by rw [hV1]; exact Cel.new x3 _ _
    rw [← hV1]
    obtain ⟨q2a, hq⟩ : ∃ q, q = x3.heap.size := ⟨_, rfl⟩
    rw [← hq] at G1 ⊢
    have hqa : x3.heap.size ≤ q2a := by omega
    clear hq hV1
    have HG1 : Hid _ := G1
    clear G1
    have HR2 : Hid _ := HR1.out.off oo (fun h => h) (fun _ _ _ h => h)
    have HROW2 : Hid _ := HROW1.out.off oo
    have HOO : Hid _ := oo
    have HM2 : Hid _ := HM1.out.off oo (fun h => h) (fun _ _ _ h => h)
    clear HR1 HROW1 HM1 oo
    go_wp2_with fail
    refine (greadEntry_any HM2.out).mono ?_
    rintro e x4 ⟨key2b, h2b, a2b, c2b, l2b, rfl, hk2b, hh2b, hl2b, row2b, fr2b, M1, o2b⟩
    have HHH2b : Hid _ := hh2b
    have HLL2b : Hid _ := hl2b
    have HKY2b : Hid _ := hk2b
    clear hk2b
    have HR3 : Hid _ := HR2.out.off o2b (fun h => hne h) (fun c _ hc h => nR (h ▸ hc))
    have HROW3 : Hid _ := HROW2.out.far HFR1.out mV o2b
    have HG3 : Hid _ := HG1.out.off o2b (fun h => by omega)
    have HO3 : Hid (Off (fun c => c = rb2 ∨ c = mb2) V0 x4) := ((HO1.out.mono (fun _ _ h => .inl h)).trans HOO.out (fun _ _ h => h.elim)).trans o2b (fun _ _ h => .inr h)
    have HM3 : Hid _ := M1
    have HROWB : Hid _ := row2b
    clear M1 row2b fr2b o2b hh2b hl2b HR2 HROW2 HM2 HG1 HFR1 HO1 HOO
    go_upto_region 21 with fail
    obtain ⟨X2, hX⟩ : ∃ V1, V1 = x4.alloc (.cells #[.string key2b, .int .i64 (h2b 0), .int .i64 (h2b 1), .int .i64 (h2b 2), .int .i64 (h2b 3), .int .i64 (h2b 4), .int .i64 (h2b 5), .int .i64 (h2b 6), .int .i64 (h2b 7), .slice a2b l2b.length c2b] 32) := ⟨_, rfl⟩
    have oo : Off (fun _ => False) x4 X2 := by rw [hX]; exact (Off.refl _ x4).alloc _
    have G1 : Cel x4.heap.size 32 #[.string key2b, .int .i64 (h2b 0), .int .i64 (h2b 1), .int .i64 (h2b 2), .int .i64 (h2b 3), .int .i64 (h2b 4), .int .i64 (h2b 5), .int .i64 (h2b 6), .int .i64 (h2b 7), .slice a2b l2b.length c2b] X2 := by rw [hX]; exact Cel.new x4 _ _
    rw [← hX]
    obtain ⟨q2b, hq⟩ : ∃ q, q = x4.heap.size := ⟨_, rfl⟩
    rw [← hq] at G1 ⊢
    clear hq hX
    have GB2 : Hid _ := G1
    have GA2 : Hid _ := HG3.out.off oo (fun h => h)
    have RA2 : Hid _ := HROW3.out.off oo
    have RB2 : Hid _ := HROWB.out.off oo
    have JR2 : Hid _ := HR3.out.off oo (fun h => h) (fun _ _ _ h => h)
    have JM2 : Hid _ := HM3.out.off oo (fun h => h) (fun _ _ _ h => h)
    have OX2 : Hid (Off (fun _ => False) X1 X2) := (OV.trans HO3.out (fun i hi h => by omega)).trans oo (fun _ _ h => h)
    have OW2 : Hid (Off (fun _ => False) W X2) := OW1.out.trans OX2.out (fun _ _ h => h)
    clear G1 HG3 HROW3 HROWB HR3 HM3 HO3 oo OV HO0 hne nR nM rlo mlo Dlo Elo rV mV s1 hqa OW1
    have HEQ1a : Hid _ := (sr_eq (s := (bs, 0)) ⟨HLT.out, by simp, by simp⟩).2
    have EB1 : Hid _ := (sr_eq (s := (bs, 0)) ⟨HLT.out, by simp, by simp⟩).1
    have RE := re_eq (s := (bs, 0)) ⟨HLT.out, by simp, by simp⟩
    have EB2 : Hid _ := RE.1
    have EK2 : Hid _ := RE.2.1
    have HEQ2a : Hid _ := RE.2.2
    clear RE
    have HT1 : Hid (sameS h1a h1b (cont l1a) (cont l1b) = true) := same_iff.2 ⟨fun _ _ => by rw [HHH1a.out, HHH1b.out, HEQ1a.out.1], by rw [HLL1a.out, HLL1b.out, HEQ1a.out.2]⟩
    have HT2 : Hid (sameS h2a h2b (cont l2a) (cont l2b) = true) := same_iff.2 ⟨fun _ _ => by rw [HHH2a.out, HHH2b.out, HEQ2a.out.1], by rw [HLL2a.out, HLL2b.out, HEQ2a.out.2]⟩
    rw [EB1.out, EB2.out]
    rw [EK2.out] at HKY2a
    have eb1 := eql_bool (srB nodeR (bs, 0))
    have eb2 := eql_bool (reB nodeR (bs, 0))
    generalize srB nodeR (bs, 0) = B1 at eb1 ⊢
    generalize reB nodeR (bs, 0) = B2 at eb2 ⊢
    obtain ⟨m0, m1, m2, m3, m4, m5, m6, m7, m8⟩ := cel9 (GA1.out.off OX2.out (fun h => h))
    obtain ⟨n0, n1, n2, n3, n4, n5, n6, n7, n8⟩ := cel9 (GB1.out.off OX2.out (fun h => h))
    go_wp2_with fail
    clear m0 m1 m2 m3 m4 m5 m6 m7 m8 n0 n1 n2 n3 n4 n5 n6 n7 n8
    refine (gsame_any h1a h1b a1a a1b c1a c1b l1a l1b _ (RA1.out.off OX2.out) (RB1.out.off OX2.out)).mono ?_
    rw [HT1.out]
    rintro e z1 ⟨rfl, p1⟩
    have HP1 : Hid (Off (fun _ => False) X1 z1) := OX2.out.trans p1 (fun _ _ h => h)
    have HQ1 : Hid (Off (fun _ => False) X2 z1) := p1
    clear p1
    go_wp2_with fail
    refine (rend_any (JR1.out.off HP1.out (fun h => h) (fun _ _ _ h => h))).mono ?_
    rintro e z ⟨rfl, hz⟩
    rw [hz]
    clear hz z
    go_wp2_with fail
    refine (frend_any (JM1.out.off HP1.out (fun h => h) (fun _ _ _ h => h))).mono ?_
    rintro e z ⟨rfl, hz⟩
    rw [hz]
    clear hz z
    obtain ⟨g0, g1, g2, g3, g4, g5, g6, g7, g8, g9⟩ := cel10 (GA2.out.off HQ1.out (fun h => h))
    obtain ⟨k0, k1, k2, k3, k4, k5, k6, k7, k8, k9⟩ := cel10 (GB2.out.off HQ1.out (fun h => h))
    rw [HKY2a.out] at g0
    rw [HKY2b.out] at k0
    go_wp2_with fail
    clear g0 g1 g2 g3 g4 g5 g6 g7 g8 g9 k0 k1 k2 k3 k4 k5 k6 k7 k8 k9
    refine (gsame_any h2a h2b a2a a2b c2a c2b l2a l2b _ (RA2.out.off HQ1.out) (RB2.out.off HQ1.out)).mono ?_
    rw [HT2.out]
    rintro e z2 ⟨rfl, p2⟩
    have HQ2 : Hid (Off (fun _ => False) X2 z2) := HQ1.out.trans p2 (fun _ _ h => h)
    clear p2
    go_wp2_with fail
    refine (rend_any (JR2.out.off HQ2.out (fun h => h) (fun _ _ _ h => h))).mono ?_
    rintro e z ⟨rfl, hz⟩
    rw [hz]
    clear hz z
    go_wp2_with fail
    refine (frend_any (JM2.out.off HQ2.out (fun h => h) (fun _ _ _ h => h))).mono ?_
    rintro e z ⟨rfl, hz⟩
    rw [hz]
    clear hz z
    go_wp2_with fail
    refine (awake_any _).mono ?_
    rintro e z3 ⟨rfl, p3⟩
    go_wp2_with fail
    go_ret
    exact ⟨rfl, HO.out.trans ((OW2.out.trans HQ2.out (fun _ _ h => h)).trans p3 (fun _ _ h => h)) (fun _ _ h => h)⟩
  · have hlb : lightB [⟨f, a, ca, l⟩] = false := by simp [lightB]; omega
    go_enter Try.func6, Try.ntmps6
    go_upto_region 1 with fail
    rw [HW.out]
    generalize hq0 : w.heap.size = q0 at H0 ⊢
    clear hq0
    obtain ⟨x0, x1, x2, x3, x4, x5, x6, x7, x8⟩ := cel9 H0.out
    have OA : Off (fun _ => False) W (W.alloc (.cells #[.int .i64 (f 0), .int .i64 (f 1), .int .i64 (f 2), .int .i64 (f 3), .int .i64 (f 4), .int .i64 (f 5), .int .i64 (f 6), .int .i64 (f 7), .slice a l.length ca] 26)) := (Off.refl _ W).alloc _
    have HSL : Hid _ := sl1 (Cel.new W 26 #[.int .i64 (f 0), .int .i64 (f 1), .int .i64 (f 2), .int .i64 (f 3), .int .i64 (f 4), .int .i64 (f 5), .int .i64 (f 6), .int .i64 (f 7), .slice a l.length ca]) (HRA.out.off OA)
    have HOA : Hid _ := OA
    clear OA
    go_wp2_with fail
    refine (light_any _ 1 _ _ HSL.out (by simp)).mono ?_
    rw [hlb]
    rintro e w2 ⟨rfl, o2⟩
    clear x0 x1 x2 x3 x4 x5 x6 x7 x8 HSL
    have HO2 : Hid _ := HOA.out.trans o2 (fun _ _ h => h)
    clear o2 HOA
    go_wp2_with fail
    refine (awake_any _).mono ?_
    rintro e w9 ⟨rfl, o9⟩
    go_wp2_with fail
    go_ret
    exact ⟨rfl, HO.out.trans (HO2.out.trans o9 (fun _ _ h => h)) (fun _ _ h => h)⟩
end Go.Proofs.Ytfkpnmmcdhibbaa
