/- VectorBytes. -/
import Derived.Test.YtalcfkdmlebkbaaDoorVR
namespace Go.Proofs.YtalcfkdmlebkbaaDoor
open Go.RowKit

theorem eq_same (f : Nat → Int) : eqB f f = true := by simp [eqB]
theorem eql_bool (x : Bool) (W : World) : (binOp .eql 4 (.bool x) (.bool x)).run Tryd.prog W = .ok (.bool true) W := by cases x <;> go_simp
theorem FW.row {D : Nat → Prop} {b most : Nat} {bs : List Nat} {w : World} (h : FW D b most (some bs) w) : ∃ tad cap, Cel b 42 #[.slice tad bs.length cap, .int .i64 (most : Int), .bool false] w ∧ OwnR w tad cap bs := by
  rcases h.is with ⟨h1, -⟩ | ⟨bs', tad, cap, h1, h2, h3, -⟩
  · cases h1
  · cases h1
    exact ⟨tad, cap, h2, h3⟩
theorem rdr_row {T : TypeId} {D : Nat → Prop} {b : Nat} {s : RS} {w : World} (h : Rdr T D b s w) : ∃ tad cap, Cel b T #[.slice tad s.1.length cap, .int .i64 ((s.2 : Nat) : Int)] w := by
  obtain ⟨tad, cap, h1, -⟩ := h.is
  exact ⟨tad, cap, h1⟩
set_option maxRecDepth 100000 in
set_option maxHeartbeats 1000000 in
theorem bytes_walk (f : Nat → Int) (a : Option Addr) (len cap : Nat) (bs : List Nat) (w : World) (ht : Tab w) (hr : ∀ j, j < 8 → -9223372036854775808 ≤ f j ∧ f j ≤ 9223372036854775807) (hA : ArgB w a len cap bs) :
    Calls Tryd.prog 4 #[.agg #[.int .i64 (f 0), .int .i64 (f 1), .int .i64 (f 2), .int .i64 (f 3), .int .i64 (f 4), .int .i64 (f 5), .int .i64 (f 6), .int .i64 (f 7)], .slice a len cap] w fun e w' => e = .returned (.bool true) ∧ Off (fun _ => False) w w' := by
  obtain ⟨rfl, hlt, hsrc, hbd⟩ := hA
  have HT : Hid (∀ w', Off (fun _ => False) w w' → Tab w') := fun w' h => ht.off h (fun _ _ h => h)
  have HLT : Hid _ := hlt
  have HSR : Hid (Src w a cap bs) := hsrc
  have HRG : Hid _ := hr
  have hel := encV_len f hr 8 (by omega)
  clear ht hlt hsrc hr
  obtain ⟨en, hen⟩ : ∃ en, en = encV f 8 := ⟨_, rfl⟩
  rw [← hen] at hel
  have HEN : Hid _ := hen
  clear hen
  go_enter Tryd.func4, Tryd.ntmps4
  go_wp2_with fail
  obtain ⟨w0, hw0⟩ : ∃ w0, w0 = w.alloc (.cells #[.int .i64 (f 0), .int .i64 (f 1), .int .i64 (f 2), .int .i64 (f 3), .int .i64 (f 4), .int .i64 (f 5), .int .i64 (f 6), .int .i64 (f 7)] 23) := ⟨_, rfl⟩
  have C0 : Cel w.heap.size 23 #[.int .i64 (f 0), .int .i64 (f 1), .int .i64 (f 2), .int .i64 (f 3), .int .i64 (f 4), .int .i64 (f 5), .int .i64 (f 6), .int .i64 (f 7)] w0 := by rw [hw0]; exact Cel.new w _ _
  have o0 : Off (fun _ => False) w w0 := by rw [hw0]; exact (Off.refl _ w).alloc _
  rw [← hw0]
  clear hw0
  have hq0 : w.heap.size < w0.heap.size := C0.lt
  have hq0' : w.heap.size ≤ w.heap.size := Nat.le_refl _
  obtain ⟨q0, hq⟩ : ∃ q0, q0 = w.heap.size := ⟨_, rfl⟩
  rw [← hq] at C0 hq0 ⊢
  have hqa : w.heap.size ≤ q0 := by omega
  clear hq hq0'
  refine (newWriter_any 200 (by decide) w0).mono ?_
  rintro e w1 ⟨rfl, hW, o1⟩
  rw [show (200 : Int).toNat = 200 from rfl] at hW
  have hw1 : w0.heap.size < w1.heap.size := hW.lt _ rfl
  obtain ⟨bw, hbw⟩ : ∃ bw, bw = w0.heap.size := ⟨_, rfl⟩
  rw [← hbw] at hW ⊢
  have hbwa : w0.heap.size ≤ bw := by omega
  have hbwb : bw < w1.heap.size := by omega
  clear hbw hw1
  have C1 := C0.off o1 (fun h => h)
  have O1 := o0.trans o1 (fun _ _ h => h)
  have HW : Hid _ := hW
  have HC1 : Hid _ := C1
  clear hW C1 C0 o0 o1
  obtain ⟨c0, c1, c2, c3, c4, c5, c6, c7⟩ := cel8 (HC1.out.alloc (.cells #[.slice none 0 0, .int .i64 200, .bool false] 42))
  go_wp2_with fail
  clear c0 c1 c2 c3 c4 c5 c6 c7
  obtain ⟨W2, hW2⟩ : ∃ W2, W2 = w1.alloc (.cells #[.slice none 0 0, .int .i64 200, .bool false] 42) := ⟨_, rfl⟩
  have oo : Off (fun _ => False) w1 W2 := by rw [hW2]; exact (Off.refl _ w1).alloc _
  have M2 : FW (fun c => c = w1.heap.size) w1.heap.size 200 (some []) W2 := by
    rw [hW2]
    exact ⟨rfl, fun c h => by simp [h], by decide, .inr ⟨[], none, 0, rfl, Cel.new w1 _ _, OwnR.nil _, fun k hk => by simp [blk] at hk⟩⟩
  have X2 := HW.out.off oo (fun _ _ _ h => h)
  have C2 := HC1.out.off oo (fun h => h)
  have O2 := O1.trans oo (fun _ _ h => h)
  rw [← hW2]
  have hm2 : w1.heap.size < W2.heap.size := M2.lt _ rfl
  obtain ⟨bm, hbm⟩ : ∃ bm, bm = w1.heap.size := ⟨_, rfl⟩
  rw [← hbm] at M2 hm2 ⊢
  have hbma : w1.heap.size ≤ bm := by omega
  clear hbm
  have HM2 : Hid _ := M2
  have HC2 : Hid _ := C2
  have hne : bm ≠ bw := by omega
  have hn0 : q0 ≠ bw := by omega
  have hn1 : q0 ≠ bm := by omega
  clear M2 C2 hW2 oo HW HC1 O1
  refine (vwrite_any X2 f HRG.out).mono ?_
  rw [← HEN.out]
  rintro e w3 ⟨rfl, D3, X3, o3, hD3⟩
  have M3 := HM2.out.off o3 (fun c _ hc h => by omega)
  have C3 := HC2.out.off o3 (fun h => hn0 h)
  have O3 : Off (fun c => w.heap.size ≤ c) w w3 := (O2.mono (fun _ _ h => h.elim)).trans o3 (fun _ _ h => by omega)
  have HX3 : Hid _ := X3
  have HD3 : Hid _ := hD3
  have HC3 : Hid _ := C3
  have s3 := o3.size
  clear X3 hD3 C3 HM2 HC2 O2 o3
  obtain ⟨c0, c1, c2, c3, c4, c5, c6, c7⟩ := cel8 HC3.out
  go_wp2_with fail
  clear c0 c1 c2 c3 c4 c5 c6 c7
  refine (fvwrite_any M3 f HRG.out).mono ?_
  rw [← HEN.out]
  rintro e w4 ⟨rfl, E4, M4, o4, hE4⟩
  have X4 := HX3.out.off o4 (fun c _ hc h => by
    rcases HD3.out c hc with h2 | h2
    · omega
    · omega)
  have O4 : Off (fun c => w.heap.size ≤ c) w w4 := O3.trans o4 (fun _ _ h => by omega)
  have HM4 : Hid _ := M4
  have HX4 : Hid _ := X4
  clear M4 X4 HX3 HD3 hE4 M3 O3 HC3 o4 s3
  go_wp2_with fail
  refine (done_any HX4.out (by simp; omega)).mono ?_
  rintro e w5 ⟨t5, k5, rfl, own5, hb5, o5⟩
  rw [show ((errW (some en) : Nat) : Int) = 0 from rfl]
  simp only [Option.getD_some] at own5 ⊢
  have M5 := HM4.out.off o5 (fun _ _ _ h => h)
  have O5 : Off (fun c => w.heap.size ≤ c) w w5 := O4.trans o5 (fun _ _ h => h.elim)
  have HM5 : Hid _ := M5
  have HO5 : Hid _ := own5
  clear M5 own5 hb5 HM4 HX4 O4 o5
  go_wp2_with fail
  have S5 := HSR.out.off O5 (fun c hc _ h => by omega)
  refine (newReader_any a cap bs (by omega) HLT.out w5 S5).mono ?_
  rintro e W ⟨rb, Dr, rfl, hrb, hDlo, R, o6⟩
  have HR : Hid (Rdr 69 Dr rb (bs, 0) W) := R
  have hrbW := R.here
  have HLR : Hid _ := R.lt
  have S6 := S5.off o6 (fun _ _ _ h => h)
  have HS6 : Hid _ := S6
  clear R S6 S5
  go_wp2_with (at_builtin; refine wpList_app rfl (.const (.slice none 0 0)) (.tmp 31) rfl none 0 [] rfl (OwnR.nil _) a cap bs rfl HS6.out (by simp; omega) ?_; intro t2 c2 w2 y2 hy2 own2 off2 at2)
  obtain rfl : bs = y2 := hy2.out.symm
  have o7 : Off (fun _ => False) W w2 := off2.mono (fun i _ h => by simp [blk] at h)
  have hb2 : ∀ k, blk t2 = some k → W.heap.size ≤ k := fun k hk => by
    rcases at2 with h | h
    · rw [h] at hk; simp [blk] at hk
    · rw [h] at hk; simp at hk; omega
  have OW2 : Hid _ := own2
  have HB2 : Hid _ := hb2
  clear own2 off2 at2 hy2 hb2 HS6
  go_wp2_with fail
  obtain ⟨V0, hV0⟩ : ∃ V0, V0 = w2.alloc (.cells #[.slice t2 bs.length c2, .int .i64 0] 51) := ⟨_, rfl⟩
  have oo : Off (fun _ => False) w2 V0 := by rw [hV0]; exact (Off.refl _ w2).alloc _
  have hlt2 : ∀ k, blk t2 = some k → k < w2.heap.size := OW2.out.lt
  have MM : Rdr 51 (fun c => blk t2 = some c) w2.heap.size (bs, 0) V0 := by
    refine ⟨⟨HLT.out, by simp, by simp⟩, fun c h => ?_, fun h => ?_, by simp only; omega, t2, c2, ?_, ?_⟩
    · have := hlt2 c h
      have := oo.size
      omega
    · have := hlt2 _ h
      omega
    · rw [hV0]; exact Cel.new w2 _ _
    · exact (OW2.out.off oo (fun _ _ _ h => h)).lie (fun c h => h)
  have hmV : w2.heap.size < V0.heap.size := MM.here
  have s7 := o7.size
  have RR := (HR.out.off o7 (fun h => h) (fun _ _ _ h => h)).off oo (fun h => h) (fun _ _ _ h => h)
  have o67 := (o6.trans o7 (fun _ _ h => h)).trans oo (fun _ _ h => h)
  have M6 := HM5.out.off o67 (fun _ _ _ h => h)
  have P6 := HO5.out.off o67 (fun _ _ _ h => h)
  have O6 : Off (fun c => w.heap.size ≤ c) w V0 := O5.trans o67 (fun _ _ h => h.elim)
  obtain ⟨tm, km, cm, ownm⟩ := M6.row
  have ltm : ∀ k, blk tm = some k → k < w5.heap.size := by
    obtain ⟨tm', km', cm', ownm'⟩ := HM5.out.row
    have e := cm'.off o67 (fun h => h)
    have e2 := cm.is.symm.trans e.is
    simp only [Option.some.injEq, Obj.cells.injEq, Array.mk.injEq, List.cons.injEq, Value.slice.injEq] at e2
    rw [e2.1.1.1]
    exact ownm'.lt
  have lt5 := HO5.out.lt
  have hbm5 : bm < w5.heap.size := by obtain ⟨_, _, c, _⟩ := HM5.out.row; exact c.lt
  have HMM : Hid _ := MM
  have HRR : Hid _ := RR
  have HP6 : Hid _ := P6
  have HCM : Hid _ := cm
  have HWM : Hid _ := ownm
  have HLM : Hid _ := ltm
  have HL5 : Hid _ := lt5
  have HL2 : Hid _ := hlt2
  have HDL : Hid _ := hDlo
  rw [← hV0]
  clear hV0 oo MM RR P6 cm ownm ltm lt5 hlt2 M6 HM5 HO5 OW2 o67 o6 o7 O5 HR hDlo HSR
  obtain ⟨mb, hmb⟩ : ∃ mb, mb = w2.heap.size := ⟨_, rfl⟩
  rw [← hmb] at HMM hmV ⊢
  have hmba : w2.heap.size ≤ mb := by omega
  clear hmb
  have hmr : mb ≠ rb := by omega
  have NR : Hid (¬ Dr mb) := (show ¬ Dr mb from fun h => by have := HLR.out _ h; omega)
  have NM : Hid (¬ blk t2 = some rb) := (show ¬ blk t2 = some rb from fun h => by have := HB2.out _ h; omega)
  have HDM : Hid (∀ c, blk t2 = some c → ¬ c = rb) := fun c hc e => NM.out (e ▸ hc)
  have ND : Hid (∀ c, Dr c → ¬ c = mb) := fun c hc e => NR.out (e ▸ hc)
  obtain ⟨F, hF⟩ : ∃ F, F = readF (bs, 0) := ⟨_, rfl⟩
  obtain ⟨B, hB⟩ : ∃ B, B = readB (bs, 0) := ⟨_, rfl⟩
  obtain ⟨Z, hZ⟩ : ∃ Z, Z = rdV (bs, 0) 8 := ⟨_, rfl⟩
  have VR := vread_any HRR.out
  have VR2 := fun w h => fvread_any (w := w) (D := fun c => blk t2 = some c) (b := mb) (s := (bs, 0)) h
  rw [← hF, ← hB, ← hZ] at VR
  simp only [← hF, ← hB, ← hZ] at VR2
  have HVR : Hid _ := VR
  have HVR2 : Hid _ := VR2
  clear hF hB hZ VR VR2 HLR
  refine Calls.mono HVR.out ?_
  rintro e v6 ⟨rfl, R6, o8⟩
  have M8 := HMM.out.off o8 (fun h => hmr h) (fun c _ hc h => HDM.out c hc h)
  have CM8 := HCM.out.off o8 (fun h => by omega)
  have WM8 := HWM.out.off o8 (fun c _ hc h => by have := HLM.out c hc; omega)
  have P8 := HP6.out.off o8 (fun c _ hc h => by have := HL5.out c hc; omega)
  have O8 : Off (fun c => w.heap.size ≤ c) w v6 := O6.trans o8 (fun _ _ h => by omega)
  clear HMM HCM HWM HP6 O6 HRR HVR o8
  have A8 : Hid _ := M8
  have B8 : Hid _ := CM8
  have D8 : Hid _ := WM8
  have E8 : Hid _ := P8
  have F8 : Hid _ := R6
  clear M8 CM8 WM8 P8 R6
  go_wp2_with fail
  obtain ⟨V1, hV1⟩ : ∃ V1, V1 = v6.alloc (.cells #[.int .i64 (F 0), .int .i64 (F 1), .int .i64 (F 2), .int .i64 (F 3), .int .i64 (F 4), .int .i64 (F 5), .int .i64 (F 6), .int .i64 (F 7)] 23) := ⟨_, rfl⟩
  have oo : Off (fun _ => False) v6 V1 := by rw [hV1]; exact (Off.refl _ v6).alloc _
  have G11 : Cel v6.heap.size 23 #[.int .i64 (F 0), .int .i64 (F 1), .int .i64 (F 2), .int .i64 (F 3), .int .i64 (F 4), .int .i64 (F 5), .int .i64 (F 6), .int .i64 (F 7)] V1 := by rw [hV1]; exact Cel.new v6 _ _
  have hv6 := A8.out.here
  rw [← hV1]
  obtain ⟨q11, hq11⟩ : ∃ q, q = v6.heap.size := ⟨_, rfl⟩
  rw [← hq11] at G11 ⊢
  have hq11a : v6.heap.size ≤ q11 := by omega
  clear hq11 hV1
  have hqm : ¬ q11 = mb := by omega
  have HG11 : Hid _ := G11
  clear G11
  refine Calls.mono (HVR2.out V1 (A8.out.off oo (fun h => h) (fun _ _ _ h => h))) ?_
  rintro e v7 ⟨rfl, M9, o9⟩
  have ooo : Off (fun c => c = mb) v6 v7 := (oo.mono (fun _ _ h => h.elim)).trans o9 (fun _ _ h => h)
  have R9 := F8.out.off ooo (fun h => hmr h.symm) (fun c _ hc h => ND.out c hc h)
  have CM9 := B8.out.off ooo (fun h => by omega)
  have WM9 := D8.out.off ooo (fun c _ hc h => by have := HLM.out c hc; omega)
  have P9 := E8.out.off ooo (fun c _ hc h => by have := HL5.out c hc; omega)
  have G9 := HG11.out.off o9 (fun h => hqm h)
  have O9 : Off (fun c => w.heap.size ≤ c) w v7 := O8.trans ooo (fun _ _ h => by omega)
  clear A8 B8 D8 E8 F8 HG11 O8 HVR2 oo o9 ooo
  have A9 : Hid _ := M9
  have B9 : Hid _ := CM9
  have D9 : Hid _ := WM9
  have E9 : Hid _ := P9
  have F9 : Hid _ := R9
  have HG9 : Hid _ := G9
  clear M9 CM9 WM9 P9 R9 G9
  go_wp2_with fail
  obtain ⟨V, hV⟩ : ∃ V, V = v7.alloc (.cells #[.int .i64 (F 0), .int .i64 (F 1), .int .i64 (F 2), .int .i64 (F 3), .int .i64 (F 4), .int .i64 (F 5), .int .i64 (F 6), .int .i64 (F 7)] 23) := ⟨_, rfl⟩
  have oo : Off (fun _ => False) v7 V := by rw [hV]; exact (Off.refl _ v7).alloc _
  have K13 : Cel v7.heap.size 23 #[.int .i64 (F 0), .int .i64 (F 1), .int .i64 (F 2), .int .i64 (F 3), .int .i64 (F 4), .int .i64 (F 5), .int .i64 (F 6), .int .i64 (F 7)] V := by rw [hV]; exact Cel.new v7 _ _
  rw [← hV]
  clear hV
  generalize v7.heap.size = q13 at K13 ⊢
  have H0 : Hid (Cel q11 23 #[.int .i64 (F 0), .int .i64 (F 1), .int .i64 (F 2), .int .i64 (F 3), .int .i64 (F 4), .int .i64 (F 5), .int .i64 (F 6), .int .i64 (F 7)] V) := HG9.out.off oo (fun h => h)
  have H1 : Hid (Cel q13 23 #[.int .i64 (F 0), .int .i64 (F 1), .int .i64 (F 2), .int .i64 (F 3), .int .i64 (F 4), .int .i64 (F 5), .int .i64 (F 6), .int .i64 (F 7)] V) := K13
  have JM : Hid (Rdr 51 (fun c => blk t2 = some c) mb Z V) := A9.out.off oo (fun h => h) (fun _ _ _ h => h)
  have JR : Hid (Rdr 69 Dr rb Z V) := F9.out.off oo (fun h => h) (fun _ _ _ h => h)
  have JC : Hid (Cel bm 42 #[.slice tm en.length km, .int .i64 (200 : Nat), .bool false] V) := B9.out.off oo (fun h => h)
  have JW : Hid (OwnR V tm km en) := D9.out.off oo (fun _ _ _ h => h)
  have JP : Hid (OwnR V t5 k5 en) := E9.out.off oo (fun _ _ _ h => h)
  have O : Off (fun c => w.heap.size ≤ c) w V := O9.trans oo (fun _ _ h => h.elim)
  obtain ⟨tz, kz, cz⟩ := rdr_row JM.out
  have JZ : Hid _ := cz
  clear cz K13 A9 B9 D9 E9 F9 HG9 O9 oo
  refine wp_region_held_drew (S := fun w' => Off (fun _ => False) V w') (by kernel_rfl) ((Off.refl _ V).drew) (fun hS => ?_)
  refine take_at (i := 0) 45 (v := .int .i64 0) rfl rfl (by kernel_rfl) (by kernel_rfl) (by kernel_rfl) (fun _ _ _ h => h) (Or.inl ⟨by rfl, fun w' hw' => by go_simp⟩) hS ?_
  simp only [Act.put, List.setIfInBounds_toArray, List.set_cons_zero, List.set_cons_succ]
  refine take_at (i := 1) 46 (v := .bool true) rfl rfl (by kernel_rfl) (by kernel_rfl) (by kernel_rfl) (fun _ _ _ h => h) (Or.inl ⟨by rfl, fun w' hw' => by go_simp⟩) hS ?_
  simp only [Act.put, List.setIfInBounds_toArray, List.set_cons_zero, List.set_cons_succ]
  refine take_at (i := 2) 47 (v := .bool true) rfl rfl (by kernel_rfl) (by kernel_rfl) (by kernel_rfl) (fun _ _ _ h => h) (Or.inl ⟨by rfl, fun w' hw' => by go_simp⟩) hS ?_
  simp only [Act.put, List.setIfInBounds_toArray, List.set_cons_zero, List.set_cons_succ]
  refine take_at (i := 3) 48 (v := .slice t5 en.length k5) rfl rfl (by kernel_rfl) (by kernel_rfl) (by kernel_rfl) (fun _ _ _ h => h) (Or.inl ⟨by rfl, fun w' hw' => by go_simp⟩) hS ?_
  simp only [Act.put, List.setIfInBounds_toArray, List.set_cons_zero, List.set_cons_succ]
  refine take_at (i := 4) 49 (v := .string (strOf en)) rfl rfl (by kernel_rfl) (by kernel_rfl) (by kernel_rfl) (fun _ _ _ h => h) (Or.inl ⟨by rfl, fun w' hw' => by have e := conv_src (JP.out.off hw' (fun _ _ _ h => h)).src; go_simp⟩) hS ?_
  simp only [Act.put, List.setIfInBounds_toArray, List.set_cons_zero, List.set_cons_succ]
  refine take_at (i := 5) 50 (v := .pointer (some ⟨bm, 0, none⟩)) rfl rfl (by kernel_rfl) (by kernel_rfl) (by kernel_rfl) (fun _ _ _ h => h) (Or.inl ⟨by rfl, fun w' hw' => by go_simp⟩) hS ?_
  simp only [Act.put, List.setIfInBounds_toArray, List.set_cons_zero, List.set_cons_succ]
  refine take_at (i := 6) 51 (v := .pointer (some ⟨bm, 0, none⟩)) rfl rfl (by kernel_rfl) (by kernel_rfl) (by kernel_rfl) (fun _ _ _ h => h) (Or.inl ⟨by rfl, fun w' hw' => by go_simp⟩) hS ?_
  simp only [Act.put, List.setIfInBounds_toArray, List.set_cons_zero, List.set_cons_succ]
  refine take_at (i := 7) 52 (v := .pointer (some ⟨bm, 0, none⟩)) rfl rfl (by kernel_rfl) (by kernel_rfl) (by kernel_rfl) (fun _ _ _ h => h) (Or.inl ⟨by rfl, fun w' hw' => by go_simp⟩) hS ?_
  simp only [Act.put, List.setIfInBounds_toArray, List.set_cons_zero, List.set_cons_succ]
  refine take_at (i := 8) 53 (v := .slice tm en.length km) rfl rfl (by kernel_rfl) (by kernel_rfl) (by kernel_rfl) (fun _ _ _ h => h) (Or.inl ⟨by rfl, fun w' hw' => by have x := (JC.out.off hw' (fun h => h)).cell 0; simp at x; go_simp⟩) hS ?_
  simp only [Act.put, List.setIfInBounds_toArray, List.set_cons_zero, List.set_cons_succ]
  refine take_at (i := 9) 54 (v := .string (strOf en)) rfl rfl (by kernel_rfl) (by kernel_rfl) (by kernel_rfl) (fun _ _ _ h => h) (Or.inl ⟨by rfl, fun w' hw' => by have e := conv_src (JW.out.off hw' (fun _ _ _ h => h)).src; go_simp⟩) hS ?_
  simp only [Act.put, List.setIfInBounds_toArray, List.set_cons_zero, List.set_cons_succ]
  refine take_at (i := 10) 55 (v := .bool true) rfl rfl (by kernel_rfl) (by kernel_rfl) (by kernel_rfl) (fun _ _ _ h => h) (Or.inl ⟨by rfl, fun w' hw' => by go_simp⟩) hS ?_
  simp only [Act.put, List.setIfInBounds_toArray, List.set_cons_zero, List.set_cons_succ]
  refine take_at (i := 11) 56 (v := .bool true) rfl rfl (by kernel_rfl) (by kernel_rfl) (by kernel_rfl) (fun _ _ _ h => h) (Or.inl ⟨by rfl, fun w' hw' => by go_simp⟩) hS ?_
  simp only [Act.put, List.setIfInBounds_toArray, List.set_cons_zero, List.set_cons_succ]
  refine take_at (i := 12) 57 (v := .bool true) rfl rfl (by kernel_rfl) (by kernel_rfl) (by kernel_rfl) (fun _ _ _ h => h) (Or.inl ⟨by rfl, fun w' hw' => by go_simp⟩) hS ?_
  simp only [Act.put, List.setIfInBounds_toArray, List.set_cons_zero, List.set_cons_succ]
  refine take_at (i := 13) 58 (v := .agg #[.int .i64 (F 0), .int .i64 (F 1), .int .i64 (F 2), .int .i64 (F 3), .int .i64 (F 4), .int .i64 (F 5), .int .i64 (F 6), .int .i64 (F 7)]) rfl rfl (by kernel_rfl) (by kernel_rfl) (by kernel_rfl) (fun _ _ _ h => h) (Or.inl ⟨by rfl, fun w' hw' => by obtain ⟨x0, x1, x2, x3, x4, x5, x6, x7⟩ := cel8 (H0.out.off hw' (fun h => h)); go_simp⟩) hS ?_
  simp only [Act.put, List.setIfInBounds_toArray, List.set_cons_zero, List.set_cons_succ]
  refine take_at (i := 14) 59 (v := .agg #[.int .i64 (F 0), .int .i64 (F 1), .int .i64 (F 2), .int .i64 (F 3), .int .i64 (F 4), .int .i64 (F 5), .int .i64 (F 6), .int .i64 (F 7)]) rfl rfl (by kernel_rfl) (by kernel_rfl) (by kernel_rfl) (fun _ _ _ h => h) (Or.inl ⟨by rfl, fun w' hw' => by obtain ⟨x0, x1, x2, x3, x4, x5, x6, x7⟩ := cel8 (H1.out.off hw' (fun h => h)); go_simp⟩) hS ?_
  simp only [Act.put, List.setIfInBounds_toArray, List.set_cons_zero, List.set_cons_succ]
  refine take_at (i := 15) 60 (v := .bool true) rfl rfl (by kernel_rfl) (by kernel_rfl) (by kernel_rfl) (fun _ _ _ h => h) (Or.inl ⟨by rfl, fun w' hw' => by have e := eql_vec F F; rw [eq_same] at e; go_simp⟩) hS ?_
  simp only [Act.put, List.setIfInBounds_toArray, List.set_cons_zero, List.set_cons_succ]
  refine take_at (i := 16) 61 (v := .bool true) rfl rfl (by kernel_rfl) (by kernel_rfl) (by kernel_rfl) (fun _ _ _ h => h) (Or.inl ⟨by rfl, fun w' hw' => by go_simp⟩) hS ?_
  simp only [Act.put, List.setIfInBounds_toArray, List.set_cons_zero, List.set_cons_succ]
  refine take_at (i := 17) 62 (v := .bool true) rfl rfl (by kernel_rfl) (by kernel_rfl) (by kernel_rfl) (fun _ _ _ h => h) (Or.inl ⟨by rfl, fun w' hw' => by go_simp⟩) hS ?_
  simp only [Act.put, List.setIfInBounds_toArray, List.set_cons_zero, List.set_cons_succ]
  refine take_at (i := 18) 63 (v := .bool B) rfl rfl (by kernel_rfl) (by kernel_rfl) (by kernel_rfl) (fun _ _ _ h => h) (Or.inl ⟨by rfl, fun w' hw' => by go_simp⟩) hS ?_
  simp only [Act.put, List.setIfInBounds_toArray, List.set_cons_zero, List.set_cons_succ]
  refine take_at (i := 19) 64 (v := .bool B) rfl rfl (by kernel_rfl) (by kernel_rfl) (by kernel_rfl) (fun _ _ _ h => h) (Or.inl ⟨by rfl, fun w' hw' => by go_simp⟩) hS ?_
  simp only [Act.put, List.setIfInBounds_toArray, List.set_cons_zero, List.set_cons_succ]
  refine take_at (i := 20) 65 (v := .bool true) rfl rfl (by kernel_rfl) (by kernel_rfl) (by kernel_rfl) (fun _ _ _ h => h) (Or.inl ⟨by rfl, fun w' hw' => by have e := eql_bool B; go_simp⟩) hS ?_
  simp only [Act.put, List.setIfInBounds_toArray, List.set_cons_zero, List.set_cons_succ]
  refine take_at (i := 21) 66 (v := .bool true) rfl rfl (by kernel_rfl) (by kernel_rfl) (by kernel_rfl) (fun _ _ _ h => h) (Or.inl ⟨by rfl, fun w' hw' => by go_simp⟩) hS ?_
  simp only [Act.put, List.setIfInBounds_toArray, List.set_cons_zero, List.set_cons_succ]
  refine take_at (i := 22) 67 (v := .bool true) rfl rfl (by kernel_rfl) (by kernel_rfl) (by kernel_rfl) (fun _ _ _ h => h) (Or.inl ⟨by rfl, fun w' hw' => by go_simp⟩) hS ?_
  simp only [Act.put, List.setIfInBounds_toArray, List.set_cons_zero, List.set_cons_succ]
  refine take_at (i := 23) 68 (v := .pointer (some ⟨rb, 0, none⟩)) rfl rfl (by kernel_rfl) (by kernel_rfl) (by kernel_rfl) (fun _ _ _ h => h) (Or.inl ⟨by rfl, fun w' hw' => by go_simp⟩) hS ?_
  simp only [Act.put, List.setIfInBounds_toArray, List.set_cons_zero, List.set_cons_succ]
  refine take_at (i := 25) 70 (v := .pointer (some ⟨mb, 0, none⟩)) rfl rfl (by kernel_rfl) (by kernel_rfl) (by kernel_rfl) (fun _ _ _ h => h) (Or.inl ⟨by rfl, fun w' hw' => by go_simp⟩) hS ?_
  simp only [Act.put, List.setIfInBounds_toArray, List.set_cons_zero, List.set_cons_succ]
  refine take_at (i := 26) 71 (v := .pointer (some ⟨mb, 0, none⟩)) rfl rfl (by kernel_rfl) (by kernel_rfl) (by kernel_rfl) (fun _ _ _ h => h) (Or.inl ⟨by rfl, fun w' hw' => by go_simp⟩) hS ?_
  simp only [Act.put, List.setIfInBounds_toArray, List.set_cons_zero, List.set_cons_succ]
  refine take_at (i := 27) 72 (v := .pointer (some ⟨mb, 0, none⟩)) rfl rfl (by kernel_rfl) (by kernel_rfl) (by kernel_rfl) (fun _ _ _ h => h) (Or.inl ⟨by rfl, fun w' hw' => by go_simp⟩) hS ?_
  simp only [Act.put, List.setIfInBounds_toArray, List.set_cons_zero, List.set_cons_succ]
  refine take_at (i := 28) 73 (v := .slice tz Z.1.length kz) rfl rfl (by kernel_rfl) (by kernel_rfl) (by kernel_rfl) (fun _ _ _ h => h) (Or.inl ⟨by rfl, fun w' hw' => by have x := (JZ.out.off hw' (fun h => h)).cell 0; simp at x; go_simp⟩) hS ?_
  simp only [Act.put, List.setIfInBounds_toArray, List.set_cons_zero, List.set_cons_succ]
  refine take_at (i := 29) 74 (v := .int .i64 ((Z.1.length : Nat) : Int)) rfl rfl (by kernel_rfl) (by kernel_rfl) (by kernel_rfl) (fun _ _ _ h => h) (Or.inl ⟨by rfl, fun w' hw' => by go_simp⟩) hS ?_
  simp only [Act.put, List.setIfInBounds_toArray, List.set_cons_zero, List.set_cons_succ]
  refine wpAnyH_ready (rs := [24]) (by kernel_rfl) (by simp) ?_
  refine AllReadyH.cons rfl (fun K' hK' => ?_) AllReadyH.nil
  go_simp
  refine (rleft_any (JR.out.off hS (fun h => h) (fun _ _ _ h => h))).mono ?_
  rintro e v1 ⟨rfl, hw⟩
  rw [hw]
  clear hw v1
  refine hK'.out _ _ hS (fun hS => ?_)
  clear hK' K'
  refine take_at (i := 30) 75 (v := .bool true) rfl rfl (by kernel_rfl) (by kernel_rfl) (by kernel_rfl) (fun _ _ _ h => h) (Or.inl ⟨by rfl, fun w' hw' => by go_simp⟩) hS ?_
  simp only [Act.put, List.setIfInBounds_toArray, List.set_cons_zero, List.set_cons_succ]
  refine take_at (i := 31) 76 (v := .bool true) rfl rfl (by kernel_rfl) (by kernel_rfl) (by kernel_rfl) (fun _ _ _ h => h) (Or.inl ⟨by rfl, fun w' hw' => by go_simp⟩) hS ?_
  simp only [Act.put, List.setIfInBounds_toArray, List.set_cons_zero, List.set_cons_succ]
  refine take_at (i := 32) 77 (v := .bool true) rfl rfl (by kernel_rfl) (by kernel_rfl) (by kernel_rfl) (fun _ _ _ h => h) (Or.inl ⟨by rfl, fun w' hw' => by go_simp⟩) hS ?_
  simp only [Act.put, List.setIfInBounds_toArray, List.set_cons_zero, List.set_cons_succ]
  refine take_at (i := 33) 78 (v := .pointer (some ⟨rb, 0, none⟩)) rfl rfl (by kernel_rfl) (by kernel_rfl) (by kernel_rfl) (fun _ _ _ h => h) (Or.inl ⟨by rfl, fun w' hw' => by go_simp⟩) hS ?_
  simp only [Act.put, List.setIfInBounds_toArray, List.set_cons_zero, List.set_cons_succ]
  refine take_at (i := 35) 80 (v := .pointer (some ⟨mb, 0, none⟩)) rfl rfl (by kernel_rfl) (by kernel_rfl) (by kernel_rfl) (fun _ _ _ h => h) (Or.inl ⟨by rfl, fun w' hw' => by go_simp⟩) hS ?_
  simp only [Act.put, List.setIfInBounds_toArray, List.set_cons_zero, List.set_cons_succ]
  refine wpAnyH_ready (rs := [34]) (by kernel_rfl) (by simp) ?_
  refine AllReadyH.cons rfl (fun K' hK' => ?_) AllReadyH.nil
  go_simp
  refine (rend_any (JR.out.off hS (fun h => h) (fun _ _ _ h => h))).mono ?_
  rintro e v1 ⟨rfl, hw⟩
  rw [hw]
  clear hw v1
  refine hK'.out _ _ hS (fun hS => ?_)
  clear hK' K'
  refine wpAnyH_ready (rs := [36]) (by kernel_rfl) (by simp) ?_
  refine AllReadyH.cons rfl (fun K' hK' => ?_) AllReadyH.nil
  go_simp
  refine (frend_any (JM.out.off hS (fun h => h) (fun _ _ _ h => h))).mono ?_
  rintro e v1 ⟨rfl, hw⟩
  rw [hw]
  clear hw v1
  refine hK'.out _ _ hS (fun hS => ?_)
  clear hK' K'
  refine take_at (i := 37) 82 (v := .bool true) rfl rfl (by kernel_rfl) (by kernel_rfl) (by kernel_rfl) (fun _ _ _ h => h) (Or.inl ⟨by rfl, fun w' hw' => by go_simp⟩) hS ?_
  simp only [Act.put, List.setIfInBounds_toArray, List.set_cons_zero, List.set_cons_succ]
  refine take_at (i := 38) 83 (v := .bool true) rfl rfl (by kernel_rfl) (by kernel_rfl) (by kernel_rfl) (fun _ _ _ h => h) (Or.inl ⟨by rfl, fun w' hw' => by go_simp⟩) hS ?_
  simp only [Act.put, List.setIfInBounds_toArray, List.set_cons_zero, List.set_cons_succ]
  refine take_at (i := 39) 84 (v := .bool true) rfl rfl (by kernel_rfl) (by kernel_rfl) (by kernel_rfl) (fun _ _ _ h => h) (Or.inl ⟨by rfl, fun w' hw' => by go_simp⟩) hS ?_
  simp only [Act.put, List.setIfInBounds_toArray, List.set_cons_zero, List.set_cons_succ]
  refine wpAnyH_ready (rs := [40]) (by kernel_rfl) (by simp) ?_
  refine AllReadyH.cons rfl (fun K' hK' => ?_) AllReadyH.nil
  go_simp
  refine (awake_any _ (HT.out _ ((O.mono (fun i hi h => by omega)).trans hS (fun _ _ h => h)))).mono ?_
  rintro e v1 ⟨rfl, o1⟩
  refine hK'.out _ _ (hS.trans o1 (fun _ _ h => h)) (fun hS => ?_)
  clear hK' K' o1
  refine take_at (i := 41) 86 (v := .bool true) rfl rfl (by kernel_rfl) (by kernel_rfl) (by kernel_rfl) (fun _ _ _ h => h) (Or.inl ⟨by rfl, fun w' hw' => by go_simp⟩) hS ?_
  simp only [Act.put, List.setIfInBounds_toArray, List.set_cons_zero, List.set_cons_succ]
  refine take_at (i := 42) 4 (v := .bool true) rfl rfl (by kernel_rfl) (by kernel_rfl) (by kernel_rfl) (fun _ _ _ h => h) (Or.inl ⟨by rfl, fun w' hw' => by go_simp⟩) hS ?_
  simp only [Act.put, List.setIfInBounds_toArray, List.set_cons_zero, List.set_cons_succ]
  refine wpAnyH_done (by kernel_rfl) ?_ _
  go_wp2_with fail
  go_ret
  exact ⟨rfl, (O.mono (fun i hi h => by omega)).trans hS (fun _ _ h => h)⟩
end Go.Proofs.YtalcfkdmlebkbaaDoor
