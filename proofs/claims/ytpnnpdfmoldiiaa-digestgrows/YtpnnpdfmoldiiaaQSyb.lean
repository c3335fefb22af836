/- Items of several texts. -/
import Derived.Test.YtpnnpdfmoldiiaaQSymQ
namespace Go.Proofs.Ytpnnpdfmoldiiaa
set_option maxRecDepth 100000
open Go.Shelf Go.RowKit Go.Lib Go.Sort
theorem grow_zero (W : World) : grow (W.drewN 0) #[] = W := by
 show grow W #[] = W
 cases W
 simp [grow]
theorem cmp_at {α : Type} [Inhabited α] {enc : α → List Value} {cf : α → α → Int} {blk off : Nat} {w0 W : World} {dk : Array α} {size g : Nat} (h : SWK enc 10 w0 blk off dk W) (hC : CmpLays Try.prog g #[] enc 10 cf blk off size w0) (hs : dk.size = size) (x y : α) :
  Calls Try.prog g #[.agg (enc x).toArray, .agg (enc y).toArray] W fun e w' => e = .returned (.int .i64 (cf x y)) ∧ SWK enc 10 w0 blk off dk w' := by
 have := h.cmp hC hs x y 0 #[]
 rw [grow_zero] at this
 refine Calls.mono this ?_
 rintro e w' ⟨rfl, q, os', rfl⟩
 exact ⟨rfl, h.grown q os'⟩
theorem arr_at {α : Type} [Inhabited α] {d : Array α} {A B : List α} (h : d.toList = A ++ B) {i : Nat} (hi : i < B.length) : d[A.length + i]! = B[i]! := by
 have hl : A.length + i < d.size := by rw [← Array.length_toList, h, List.length_append]; omega
 rw [getElem!_pos d _ hl, getElem!_pos B _ hi, ← Array.getElem_toList]
 simp [h]
set_option maxHeartbeats 1000000 in
theorem sya_any {α : Type} [Inhabited α] (enc : α → List Value) (cf : α → α → Int) (Wl : Wk (ltOf cf)) (blk off cap : Nat) (d0 : Array α) (w0 : World) (R : RowK enc 10 w0 blk off d0) (hC : CmpLays Try.prog 99 #[] enc 10 cf blk off d0.size w0) (hsz : d0.size < 4611686018427387904)
  (a m b : Nat) (d : Array α) (X L Rr Y : List α) (w : World) (hs : d.size = d0.size) (S0 : SWK enc 10 w0 blk off d w) (ham : a < m) (hmb : m < b) (hb : b ≤ d.size) (hd : d.toList = X ++ (L ++ (Rr ++ Y))) (hX : X.length = a) (hL : L.length = m - a) (hR : Rr.length = b - m) (oL : Ord (ltOf cf) L) (oR : Ord (ltOf cf) Rr) (h1 : m - a = 1) :
  Calls Try.prog 148 #[.slice (some ⟨blk, off, none⟩) d.size cap, .int .i64 a, .int .i64 m, .int .i64 b, .func (.func 99) #[] #[]] w fun e w' => e = .returned (.tuple #[]) ∧ ∃ d' : Array α, d'.toList = X ++ (mgD (ltOf cf) L Rr ++ Y) ∧ SWK enc 10 w0 blk off d' w' := by
 obtain ⟨x, rfl⟩ : ∃ x, L = [x] := by
  match L, hL with
  | [x], _ => exact ⟨x, rfl⟩
  | [], e => simp at e; omega
  | _ :: _ :: _, e => simp at e; omega
 have ma : (m : Int) - (a : Int) = 1 := by omega
 have HD : Hid _ := hd
 have SW0 : Hid _ := S0
 have HSZ : Hid (d.size = d0.size) := hs
 have ex : d[a]! = x := getM_at (A := X) (B := Rr ++ Y) (by rw [hd]; simp) hX.symm
 have HEX : Hid _ := ex
 have HXL : Hid _ := hX
 have HRL : Hid _ := hR
 have HOR : Hid _ := oR
 have HG : Hid (∀ i, i < Rr.length → d[m + i]! = Rr[i]!) := fun i hi => by
  have := arr_at (d := d) (A := X ++ [x]) (B := Rr ++ Y) (by rw [hd]; simp) (i := i) (by rw [List.length_append]; omega)
  have e2 : (X ++ [x]).length = m := by simp; omega
  rw [e2] at this
  rw [this, getElem!_pos (Rr ++ Y) i (by rw [List.length_append]; omega), getElem!_pos Rr i hi, List.getElem_append_left hi]
 clear hd S0 hs ex hX hL hR oL oR
 have hb2 : b < 4611686018427387904 := by have : d.size = d0.size := HSZ.out; omega
 go_enter Try.func148, Try.ntmps148
 go_wp2_with fail
 go_loopw [10, 11] (fun y z wr => ∃ i j : Nat, y = .int .i64 (i : Int) ∧ z = .int .i64 (j : Int) ∧ m ≤ i ∧ i ≤ j ∧ j ≤ b ∧ (m < i → ltOf cf d[i - 1]! d[a]! = true) ∧ (j < b → ltOf cf d[j]! d[a]! = false) ∧ SWK enc 10 w0 blk off d wr) (fun y z _ => (intOf z - intOf y).toNat)
 case atStart => exact ⟨m, b, rfl, rfl, by omega, by omega, by omega, fun h => by omega, fun h => by omega, SW0.out⟩
 case round =>
  clear SW0
  obtain ⟨i, j, rfl, rfl, hmi, hij, hjb, hlo, hhi, S1⟩ := hrel
  have SW : Hid _ := S1
  have HLO : Hid _ := hlo
  have HHI : Hid _ := hhi
  clear S1 hlo hhi
  by_cases hlt : i < j
  ·have e1 : decide ((i : Int) < (j : Int)) = true := decide_eq_true (by omega)
   obtain ⟨h, hh⟩ : ∃ h : Nat, h = (i + j) / 2 := ⟨_, rfl⟩
   have hhi : ((i : Int) + (j : Int)) / 2 = (h : Int) := by omega
   have hh1 : i ≤ h := by omega
   have hh2 : h < j := by omega
   clear hh
   have HHD : Hid (h < d.size) := by show _ < _; omega
   have HAD : Hid (a < d.size) := by show _ < _; omega
   have hhd : h < d.size := HHD.out
   have had : a < d.size := HAD.out
   have HL1 : Hid (∀ W, SWK enc 10 w0 blk off d W → Sem.run Try.prog (loadCellsFrom ⟨blk, off + h * 10, none⟩ 0 10 #[]) W = .ok (enc d[h]!).toArray W) := fun W hW => SWK.load hW R HSZ.out Try.prog h HHD.out
   have HL2 : Hid (∀ W, SWK enc 10 w0 blk off d W → Sem.run Try.prog (loadCellsFrom ⟨blk, off + a * 10, none⟩ 0 10 #[]) W = .ok (enc d[a]!).toArray W) := fun W hW => SWK.load hW R HSZ.out Try.prog a HAD.out
   have HCM : Hid (∀ W, SWK enc 10 w0 blk off d W → Calls Try.prog 99 #[.agg (enc d[h]!).toArray, .agg (enc d[a]!).toArray] W fun e w' => e = .returned (.int .i64 (cf d[h]! d[a]!)) ∧ SWK enc 10 w0 blk off d w') := fun W hW => cmp_at hW hC HSZ.out d[h]! d[a]!
   have HLT : Hid (ltOf cf d[h]! d[a]! = decide (cf d[h]! d[a]! < 0)) := rfl
   generalize enc d[h]! = c1 at HL1 HCM
   generalize enc d[a]! = c2 at HL2 HCM
   generalize cf d[h]! d[a]! = q at HCM HLT
   go_upto_region 5 with fail
   refine wp_region_held_drew (S := SWK enc 10 w0 blk off d) (by kernel_rfl) (SWK.drew SW.out) (fun hS => ?_)
   refine take_at (i := 0) 40 (v := .func (.func 99) #[] #[]) rfl rfl (by kernel_rfl) (by kernel_rfl) (by kernel_rfl) (fun _ _ _ h => h) (Or.inl ⟨by rfl, fun w' hw' => by go_simp⟩) hS ?_
   simp only [Act.put, lsA, lsZ, lsS]
   refine take_at (i := 1) 41 (v := .slice (some ⟨blk, off, none⟩) d.size cap) rfl rfl (by kernel_rfl) (by kernel_rfl) (by kernel_rfl) (fun _ _ _ h => h) (Or.inl ⟨by rfl, fun w' hw' => by go_simp⟩) hS ?_
   simp only [Act.put, lsA, lsZ, lsS]
   refine take_at (i := 2) 42 (v := .int .i64 (h : Int)) rfl rfl (by kernel_rfl) (by kernel_rfl) (by kernel_rfl) (fun _ _ _ h => h) (Or.inl ⟨by rfl, fun w' hw' => by go_simp⟩) hS ?_
   simp only [Act.put, lsA, lsZ, lsS]
   refine take_at (i := 3) 43 (v := .pointer (some ⟨blk, off + (h) * 10, none⟩)) rfl rfl (by kernel_rfl) (by kernel_rfl) (by kernel_rfl) (fun _ _ _ h => h) (Or.inl ⟨by rfl, fun w' hw' => by go_simp⟩) hS ?_
   simp only [Act.put, lsA, lsZ, lsS]
   refine take_at (i := 5) 45 (v := .slice (some ⟨blk, off, none⟩) d.size cap) rfl rfl (by kernel_rfl) (by kernel_rfl) (by kernel_rfl) (fun _ _ _ h => h) (Or.inl ⟨by rfl, fun w' hw' => by go_simp⟩) hS ?_
   simp only [Act.put, lsA, lsZ, lsS]
   refine take_at (i := 6) 46 (v := .int .i64 (a : Int)) rfl rfl (by kernel_rfl) (by kernel_rfl) (by kernel_rfl) (fun _ _ _ h => h) (Or.inl ⟨by rfl, fun w' hw' => by go_simp⟩) hS ?_
   simp only [Act.put, lsA, lsZ, lsS]
   refine take_at (i := 7) 47 (v := .pointer (some ⟨blk, off + (a) * 10, none⟩)) rfl rfl (by kernel_rfl) (by kernel_rfl) (by kernel_rfl) (fun _ _ _ h => h) (Or.inl ⟨by rfl, fun w' hw' => by go_simp⟩) hS ?_
   simp only [Act.put, lsA, lsZ, lsS]
   refine take_at (i := 4) 44 (v := .agg c1.toArray) rfl rfl (by kernel_rfl) (by kernel_rfl) (by kernel_rfl) (fun _ _ _ h => h) (Or.inl ⟨by rfl, fun w' hw' => exec_load rfl (load_dg (HL1.out w' hw'))⟩) hS ?_
   simp only [Act.put, lsA, lsZ, lsS]
   refine take_at (i := 8) 48 (v := .agg c2.toArray) rfl rfl (by kernel_rfl) (by kernel_rfl) (by kernel_rfl) (fun _ _ _ h => h) (Or.inl ⟨by rfl, fun w' hw' => exec_load rfl (load_dg (HL2.out w' hw'))⟩) hS ?_
   simp only [Act.put, lsA, lsZ, lsS]
   refine wpAnyH_ready (rs := [9]) (by kernel_rfl) (by simp) ?_
   refine AllReadyH.cons rfl (fun K' hK' => ?_) AllReadyH.nil
   go_simp
   refine (HCM.out _ hS).mono ?_
   rintro e v1 ⟨rfl, S9⟩
   refine hK'.out _ _ S9 (fun hS => ?_)
   clear hK' K' S9
   by_cases hc : q < 0
   ·have d1 : decide (q < 0) = true := decide_eq_true hc
    have HP : Hid (ltOf cf d[h]! d[a]! = true) := HLT.out.trans d1
    refine take_at (i := 10) 50 (v := .bool true) rfl rfl (by kernel_rfl) (by kernel_rfl) (by kernel_rfl) (fun _ _ _ h => h) (Or.inl ⟨by rfl, fun w' hw' => by go_simp⟩) hS ?_
    simp only [Act.put, lsA, lsZ, lsS]
    refine wpAnyH_done (by kernel_rfl) ?_ _
    have HS9 : Hid _ := hS
    clear hS hc d1
    go_wp2_with fail
    go_roundw
    case rel => exact ⟨h + 1, j, by go_num, rfl, by omega, by omega, by omega, fun _ => HP.out, HHI.out, HS9.out⟩
    case measure => simp [intOf]; omega
   ·have d1 : decide (q < 0) = false := decide_eq_false hc
    have HP : Hid (ltOf cf d[h]! d[a]! = false) := HLT.out.trans d1
    refine take_at (i := 10) 50 (v := .bool false) rfl rfl (by kernel_rfl) (by kernel_rfl) (by kernel_rfl) (fun _ _ _ h => h) (Or.inl ⟨by rfl, fun w' hw' => by go_simp⟩) hS ?_
    simp only [Act.put, lsA, lsZ, lsS]
    refine wpAnyH_done (by kernel_rfl) ?_ _
    have HS9 : Hid _ := hS
    clear hS hc d1
    go_wp2_with fail
    go_roundw
    case rel => exact ⟨i, h, rfl, rfl, by omega, by omega, by omega, HLO.out, fun _ => HP.out, HS9.out⟩
    case measure => simp [intOf]; omega
  ·obtain rfl : i = j := by omega
   have e1 : decide ((i : Int) < (i : Int)) = false := decide_eq_false (by omega)
   have hR : Rr.length = b - m := HRL.out
   have HT : Hid (mgD (ltOf cf) [x] Rr = Rr.take (i - m) ++ x :: Rr.drop (i - m)) := symA Wl HOR.out (by omega) (fun r h0 hr => by
    have h9 := HLO.out (by omega)
    rw [HEX.out] at h9
    obtain ⟨hl, er⟩ := List.getElem?_eq_some_iff.1 hr
    have hg := HG.out (i - m - 1) hl
    rw [show m + (i - m - 1) = i - 1 by omega, getElem!_pos Rr _ hl, er] at hg
    rw [← hg]
    exact h9) (fun r hr => by
    obtain ⟨hl, er⟩ := List.getElem?_eq_some_iff.1 hr
    have h9 := HHI.out (by omega)
    rw [HEX.out] at h9
    have hg := HG.out (i - m) hl
    rw [show m + (i - m) = i by omega, getElem!_pos Rr _ hl, er] at hg
    rw [← hg]
    exact h9)
   have hl1 : (Rr.take (i - m)).length = i - m := by rw [List.length_take]; omega
   have HD1 : Hid (d.toList = X ++ ((Rr.take (i - m)).take 0 ++ x :: ((Rr.take (i - m)).drop 0 ++ (Rr.drop (i - m) ++ Y)))) := by
    show _ = _
    rw [HD.out]
    simp only [List.take_zero, List.nil_append, List.drop_zero]
    rw [← List.append_assoc (Rr.take (i - m)), List.take_append_drop]
    simp
   have HTA : Hid (X ++ (mgD (ltOf cf) [x] Rr ++ Y) = X ++ (Rr.take (i - m) ++ x :: (Rr.drop (i - m) ++ Y))) := by
    show _ = _
    rw [HT.out]
    simp
   obtain ⟨R1, hR1⟩ : ∃ R1, R1 = Rr.take (i - m) := ⟨_, rfl⟩
   obtain ⟨Z, hZ⟩ : ∃ Z, Z = Rr.drop (i - m) ++ Y := ⟨_, rfl⟩
   rw [← hR1, ← hZ] at HD1 HTA
   rw [← hR1] at hl1
   have HL1 : Hid (R1.length = i - m) := hl1
   clear hR1 hZ hl1 HT HLO HHI HG HD
   go_wp2_with fail
   go_loopw [13] (fun y wr => ∃ (t : Nat) (dk : Array α), y = .int .i64 ((a + t : Nat) : Int) ∧ t ≤ i - m ∧ dk.size = d.size ∧ Hid (dk.toList = X ++ (R1.take t ++ x :: (R1.drop t ++ Z))) ∧ Hid (SWK enc 10 w0 blk off dk wr)) (fun y _ => ((i : Int) - intOf y).toNat)
   case atStart => exact ⟨0, d, by simp, by omega, rfl, HD1, SW⟩
   case round =>
    clear HD1 SW
    obtain ⟨t, dk, rfl, ht, hsk, HDK, SK⟩ := hrel
    obtain ⟨k, hk⟩ : ∃ k, k = a + t := ⟨_, rfl⟩
    rw [← hk]
    by_cases hti : t < i - m
    ·have hk1 : (k : Int) < (i : Int) - 1 := by omega
     obtain ⟨k1, hk1e⟩ : ∃ k1, k1 = k + 1 := ⟨_, rfl⟩
     have hkz : k1 < d.size := by omega
     have hkz0 : k < d.size := by omega
     have ek1 : (k : Int) + 1 = (k1 : Int) := by omega
     have hxl : X.length = a := HXL.out
     have HDN : Hid ((swp dk k (k + 1)).toList = X ++ (R1.take (t + 1) ++ x :: (R1.drop (t + 1) ++ Z))) := stepA HDK.out (by rw [HL1.out]; exact hti) (by omega)
     rw [← hk1e] at HDN
     have S2 : Hid (SWK enc 10 w0 blk off (swp dk k k1) ((wr.drew.setCells blk (off + k * 10) (enc dk[k1]!)).setCells blk (off + k1 * 10) (enc dk[k]!))) := SK.out.swapped R k k1 (by omega) (by omega)
     have la := SK.out.ld1 R (by rw [hsk]; exact HSZ.out) Try.prog k (by omega)
     have lb := SK.out.ld1 R (by rw [hsk]; exact HSZ.out) Try.prog k1 (by omega)
     have sa := SK.out.st1 R (by rw [hsk]; exact HSZ.out) Try.prog k (by omega) dk[k1]!
     have sb := SK.out.st2 R (by rw [hsk]; exact HSZ.out) Try.prog k k1 (by omega) (by omega) dk[k1]! dk[k]!
     have na : (enc dk[k]!).length = 10 := R.hk _
     have nb : (enc dk[k1]!).length = 10 := R.hk _
     generalize enc dk[k]! = cI at S2 la sb na
     generalize enc dk[k1]! = cJ at S2 lb sa sb nb
     have HKT : Hid (k = a + t) := hk
     have hkk : k1 < 4611686018427387904 := by omega
     have HK1 : Hid (k1 = k + 1) := hk1e
     have HTI : Hid (t < i - m) := hti
     have HSK : Hid ((swp dk k k1).size = d.size) := by show _ = _; rw [size_swp, hsk]
     clear SK HDK hk hti ht hsk hxl hk1e
     go_upto_region 11 with fail
     refine wp_region_held_drew (S := fun _ => True) (by kernel_rfl) trivial (fun hS => ?_)
     refine take_at (i := 0) 61 (v := .slice (some ⟨blk, off, none⟩) d.size cap) rfl rfl (by kernel_rfl) (by kernel_rfl) (by kernel_rfl) (fun _ _ _ h => h) (Or.inl ⟨by rfl, fun w' hw' => by go_simp⟩) hS ?_
     simp only [Act.put, lsA, lsZ, lsS]
     refine take_at (i := 1) 62 (v := .int .i64 (k : Int)) rfl rfl (by kernel_rfl) (by kernel_rfl) (by kernel_rfl) (fun _ _ _ h => h) (Or.inl ⟨by rfl, fun w' hw' => by go_simp⟩) hS ?_
     simp only [Act.put, lsA, lsZ, lsS]
     refine take_at (i := 2) 63 (v := .slice (some ⟨blk, off, none⟩) d.size cap) rfl rfl (by kernel_rfl) (by kernel_rfl) (by kernel_rfl) (fun _ _ _ h => h) (Or.inl ⟨by rfl, fun w' hw' => by go_simp⟩) hS ?_
     simp only [Act.put, lsA, lsZ, lsS]
     refine take_at (i := 3) 64 (v := .int .i64 (k : Int)) rfl rfl (by kernel_rfl) (by kernel_rfl) (by kernel_rfl) (fun _ _ _ h => h) (Or.inl ⟨by rfl, fun w' hw' => by go_simp⟩) hS ?_
     simp only [Act.put, lsA, lsZ, lsS]
     refine take_at (i := 4) 65 (v := .int .i64 (k1 : Int)) rfl rfl (by kernel_rfl) (by kernel_rfl) (by kernel_rfl) (fun _ _ _ h => h) (Or.inl ⟨by rfl, fun w' hw' => by go_simp <;> (rw [IntKind.wrap_i64]; omega)⟩) hS ?_
     simp only [Act.put, lsA, lsZ, lsS]
     refine take_at (i := 5) 66 (v := .slice (some ⟨blk, off, none⟩) d.size cap) rfl rfl (by kernel_rfl) (by kernel_rfl) (by kernel_rfl) (fun _ _ _ h => h) (Or.inl ⟨by rfl, fun w' hw' => by go_simp⟩) hS ?_
     simp only [Act.put, lsA, lsZ, lsS]
     refine take_at (i := 6) 67 (v := .int .i64 (k : Int)) rfl rfl (by kernel_rfl) (by kernel_rfl) (by kernel_rfl) (fun _ _ _ h => h) (Or.inl ⟨by rfl, fun w' hw' => by go_simp⟩) hS ?_
     simp only [Act.put, lsA, lsZ, lsS]
     refine take_at (i := 7) 68 (v := .int .i64 (k1 : Int)) rfl rfl (by kernel_rfl) (by kernel_rfl) (by kernel_rfl) (fun _ _ _ h => h) (Or.inl ⟨by rfl, fun w' hw' => by go_simp <;> (rw [IntKind.wrap_i64]; omega)⟩) hS ?_
     simp only [Act.put, lsA, lsZ, lsS]
     refine take_at (i := 8) 69 (v := .pointer (some ⟨blk, off + (k1) * 10, none⟩)) rfl rfl (by kernel_rfl) (by kernel_rfl) (by kernel_rfl) (fun _ _ _ h => h) (Or.inl ⟨by rfl, fun w' hw' => by go_simp⟩) hS ?_
     simp only [Act.put, lsA, lsZ, lsS]
     refine take_at (i := 10) 71 (v := .slice (some ⟨blk, off, none⟩) d.size cap) rfl rfl (by kernel_rfl) (by kernel_rfl) (by kernel_rfl) (fun _ _ _ h => h) (Or.inl ⟨by rfl, fun w' hw' => by go_simp⟩) hS ?_
     simp only [Act.put, lsA, lsZ, lsS]
     refine take_at (i := 11) 72 (v := .int .i64 (k : Int)) rfl rfl (by kernel_rfl) (by kernel_rfl) (by kernel_rfl) (fun _ _ _ h => h) (Or.inl ⟨by rfl, fun w' hw' => by go_simp⟩) hS ?_
     simp only [Act.put, lsA, lsZ, lsS]
     refine take_at (i := 12) 73 (v := .pointer (some ⟨blk, off + (k) * 10, none⟩)) rfl rfl (by kernel_rfl) (by kernel_rfl) (by kernel_rfl) (fun _ _ _ h => h) (Or.inl ⟨by rfl, fun w' hw' => by go_simp⟩) hS ?_
     simp only [Act.put, lsA, lsZ, lsS]
     refine wpAnyH_ready (rs := [9, 13]) (by kernel_rfl) (by simp) ?_
     refine AllReadyH.cons rfl (fun K' hK' => ?_) (AllReadyH.cons rfl (fun K' hK' => ?_) AllReadyH.nil)
     ·refine rdyV 70 rfl (by rfl) (exec_load rfl (load_dg lb)) ?_
      refine hK'.out _ _ trivial (fun hS => ?_)
      clear hK' K'
      simp only [Act.put, lsA, lsZ, lsS]
      refine wpAnyH_ready (rs := [13]) (by kernel_rfl) (by simp) ?_
      refine AllReadyH.cons rfl (fun K' hK' => ?_) AllReadyH.nil
      refine rdyV 74 rfl (by rfl) (exec_load rfl (load_dg la)) ?_
      refine hK'.out _ _ trivial (fun hS => ?_)
      clear hK' K'
      simp only [Act.put, lsA, lsZ, lsS]
      refine take_at (i := 14) 75 (v := .pointer (some ⟨blk, off + (k) * 10, none⟩)) rfl rfl (by kernel_rfl) (by kernel_rfl) (by kernel_rfl) (fun _ _ _ h => h) (Or.inl ⟨by rfl, fun w' hw' => by go_simp⟩) hS ?_
      simp only [Act.put, lsA, lsZ, lsS]
      refine wpAnyH_ready (rs := [15]) (by kernel_rfl) (by simp) ?_
      refine AllReadyH.cons rfl (fun K' hK' => ?_) AllReadyH.nil
      refine rdyS rfl (by rfl) (exec_store rfl (store_dg nb sa)) ?_
      refine hK'.out _ _ trivial (fun hS => ?_)
      clear hK' K'
      refine take_at (i := 16) 76 (v := .pointer (some ⟨blk, off + (k1) * 10, none⟩)) rfl rfl (by kernel_rfl) (by kernel_rfl) (by kernel_rfl) (fun _ _ _ h => h) (Or.inl ⟨by rfl, fun w' hw' => by go_simp⟩) hS ?_
      simp only [Act.put, lsA, lsZ, lsS]
      refine wpAnyH_ready (rs := [17]) (by kernel_rfl) (by simp) ?_
      refine AllReadyH.cons rfl (fun K' hK' => ?_) AllReadyH.nil
      refine rdyS rfl (by rfl) (exec_store rfl (store_dg na sb)) ?_
      refine hK'.out _ _ trivial (fun hS => ?_)
      clear hK' K'
      refine wpAnyH_done (by kernel_rfl) ?_ _
      clear la lb sa sb
      generalize (wr.drew.setCells blk (off + k * 10) cJ).setCells blk (off + k1 * 10) cI = w2 at S2 ⊢
      go_wp2_with fail
      go_roundw
      case rel =>
       have h1 : k = a + t := HKT.out
       have h2 : t < i - m := HTI.out
       exact ⟨t + 1, swp dk k k1, by have := HK1.out; go_num, by omega, HSK.out, HDN, S2⟩
      case measure => simp [intOf]; omega
     ·refine rdyV 74 rfl (by rfl) (exec_load rfl (load_dg la)) ?_
      refine hK'.out _ _ trivial (fun hS => ?_)
      clear hK' K'
      simp only [Act.put, lsA, lsZ, lsS]
      refine wpAnyH_ready (rs := [9]) (by kernel_rfl) (by simp) ?_
      refine AllReadyH.cons rfl (fun K' hK' => ?_) AllReadyH.nil
      refine rdyV 70 rfl (by rfl) (exec_load rfl (load_dg lb)) ?_
      refine hK'.out _ _ trivial (fun hS => ?_)
      clear hK' K'
      simp only [Act.put, lsA, lsZ, lsS]
      refine take_at (i := 14) 75 (v := .pointer (some ⟨blk, off + (k) * 10, none⟩)) rfl rfl (by kernel_rfl) (by kernel_rfl) (by kernel_rfl) (fun _ _ _ h => h) (Or.inl ⟨by rfl, fun w' hw' => by go_simp⟩) hS ?_
      simp only [Act.put, lsA, lsZ, lsS]
      refine wpAnyH_ready (rs := [15]) (by kernel_rfl) (by simp) ?_
      refine AllReadyH.cons rfl (fun K' hK' => ?_) AllReadyH.nil
      refine rdyS rfl (by rfl) (exec_store rfl (store_dg nb sa)) ?_
      refine hK'.out _ _ trivial (fun hS => ?_)
      clear hK' K'
      refine take_at (i := 16) 76 (v := .pointer (some ⟨blk, off + (k1) * 10, none⟩)) rfl rfl (by kernel_rfl) (by kernel_rfl) (by kernel_rfl) (fun _ _ _ h => h) (Or.inl ⟨by rfl, fun w' hw' => by go_simp⟩) hS ?_
      simp only [Act.put, lsA, lsZ, lsS]
      refine wpAnyH_ready (rs := [17]) (by kernel_rfl) (by simp) ?_
      refine AllReadyH.cons rfl (fun K' hK' => ?_) AllReadyH.nil
      refine rdyS rfl (by rfl) (exec_store rfl (store_dg na sb)) ?_
      refine hK'.out _ _ trivial (fun hS => ?_)
      clear hK' K'
      refine wpAnyH_done (by kernel_rfl) ?_ _
      clear la lb sa sb
      generalize (wr.drew.setCells blk (off + k * 10) cJ).setCells blk (off + k1 * 10) cI = w2 at S2 ⊢
      go_wp2_with fail
      go_roundw
      case rel =>
       have h1 : k = a + t := HKT.out
       have h2 : t < i - m := HTI.out
       exact ⟨t + 1, swp dk k k1, by have := HK1.out; go_num, by omega, HSK.out, HDN, S2⟩
      case measure => simp [intOf]; omega
    ·have hk1 : ¬ (k : Int) < (i : Int) - 1 := by omega
     have et : t = i - m := by omega
     have HFD : Hid (dk.toList = X ++ (mgD (ltOf cf) [x] Rr ++ Y)) := by
      show _ = _
      rw [HDK.out, HTA.out, List.take_of_length_le (by rw [HL1.out]; omega), List.drop_eq_nil_of_le (by rw [HL1.out]; omega)]
      rfl
     clear HDK
     go_wp2_with fail
     first | go_end0 | (simp only [Exit.inBlock, Exit.then]; refine bodyPost_ret (results_none rfl _ _ _) rfl ?_) | refine bodyPost_ret (results_none rfl _ _ _) rfl ?_
     exact ⟨rfl, dk, HFD.out, SK.out⟩
end Go.Proofs.Ytpnnpdfmoldiiaa

namespace Go.Proofs.Ytpnnpdfmoldiiaa
set_option maxRecDepth 100000
open Go.Shelf Go.RowKit Go.Lib Go.Sort
set_option maxHeartbeats 1000000 in
theorem syb_any {α : Type} [Inhabited α] (enc : α → List Value) (cf : α → α → Int) (Wl : Wk (ltOf cf)) (blk off cap : Nat) (d0 : Array α) (w0 : World) (R : RowK enc 10 w0 blk off d0) (hC : CmpLays Try.prog 99 #[] enc 10 cf blk off d0.size w0) (hsz : d0.size < 4611686018427387904)
  (a m b : Nat) (d : Array α) (X L Rr Y : List α) (w : World) (hs : d.size = d0.size) (S0 : SWK enc 10 w0 blk off d w) (ham : a < m) (hmb : m < b) (hb : b ≤ d.size) (hd : d.toList = X ++ (L ++ (Rr ++ Y))) (hX : X.length = a) (hL : L.length = m - a) (hR : Rr.length = b - m) (oL : Ord (ltOf cf) L) (oR : Ord (ltOf cf) Rr) (h0 : m - a ≠ 1) (h1 : b - m = 1) :
  Calls Try.prog 148 #[.slice (some ⟨blk, off, none⟩) d.size cap, .int .i64 a, .int .i64 m, .int .i64 b, .func (.func 99) #[] #[]] w fun e w' => e = .returned (.tuple #[]) ∧ ∃ d' : Array α, d'.toList = X ++ (mgD (ltOf cf) L Rr ++ Y) ∧ SWK enc 10 w0 blk off d' w' := by
 obtain ⟨y, rfl⟩ : ∃ y, Rr = [y] := by
  match Rr, hR with
  | [y], _ => exact ⟨y, rfl⟩
  | [], e => simp at e; omega
  | _ :: _ :: _, e => simp at e; omega
 have ma : ((m : Int) - (a : Int) == 1) = false := by simp; omega
 have bm : (b : Int) - (m : Int) = 1 := by omega
 have HD : Hid _ := hd
 have SW0 : Hid _ := S0
 have HSZ : Hid (d.size = d0.size) := hs
 have ey : d[m]! = y := getM_at (A := X ++ L) (B := Y) (by rw [hd]; simp) (by rw [List.length_append]; omega)
 have HEY : Hid _ := ey
 have HXL : Hid _ := hX
 have HLL : Hid _ := hL
 have HOL : Hid _ := oL
 have HG : Hid (∀ i, i < L.length → d[a + i]! = L[i]!) := fun i hi => by
  have := arr_at (d := d) (A := X) (B := L ++ ([y] ++ Y)) hd (i := i) (by rw [List.length_append]; omega)
  rw [hX] at this
  rw [this, getElem!_pos (L ++ ([y] ++ Y)) i (by rw [List.length_append]; omega), getElem!_pos L i hi, List.getElem_append_left hi]
 clear hd S0 hs ey hX hL hR oL oR
 have hb2 : b < 4611686018427387904 := by have : d.size = d0.size := HSZ.out; omega
 go_enter Try.func148, Try.ntmps148
 go_wp2_with fail
 go_loopw [14, 15] (fun y z wr => ∃ i j : Nat, y = .int .i64 (i : Int) ∧ z = .int .i64 (j : Int) ∧ a ≤ i ∧ i ≤ j ∧ j ≤ m ∧ (a < i → ltOf cf d[m]! d[i - 1]! = false) ∧ (j < m → ltOf cf d[m]! d[j]! = true) ∧ SWK enc 10 w0 blk off d wr) (fun y z _ => (intOf z - intOf y).toNat)
 case atStart => exact ⟨a, m, rfl, rfl, by omega, by omega, by omega, fun h => by omega, fun h => by omega, SW0.out⟩
 case round =>
  clear SW0
  obtain ⟨i, j, rfl, rfl, hmi, hij, hjb, hlo, hhi, S1⟩ := hrel
  have SW : Hid _ := S1
  have HLO : Hid _ := hlo
  have HHI : Hid _ := hhi
  clear S1 hlo hhi
  by_cases hlt : i < j
  ·have e1 : decide ((i : Int) < (j : Int)) = true := decide_eq_true (by omega)
   obtain ⟨h, hh⟩ : ∃ h : Nat, h = (i + j) / 2 := ⟨_, rfl⟩
   have hhi : ((i : Int) + (j : Int)) / 2 = (h : Int) := by omega
   have hh1 : i ≤ h := by omega
   have hh2 : h < j := by omega
   clear hh
   have HHD : Hid (h < d.size) := by show _ < _; omega
   have HMD : Hid (m < d.size) := by show _ < _; omega
   have hhd : h < d.size := HHD.out
   have hmd : m < d.size := HMD.out
   have HL1 : Hid (∀ W, SWK enc 10 w0 blk off d W → Sem.run Try.prog (loadCellsFrom ⟨blk, off + m * 10, none⟩ 0 10 #[]) W = .ok (enc d[m]!).toArray W) := fun W hW => SWK.load hW R HSZ.out Try.prog m HMD.out
   have HL2 : Hid (∀ W, SWK enc 10 w0 blk off d W → Sem.run Try.prog (loadCellsFrom ⟨blk, off + h * 10, none⟩ 0 10 #[]) W = .ok (enc d[h]!).toArray W) := fun W hW => SWK.load hW R HSZ.out Try.prog h HHD.out
   have HCM : Hid (∀ W, SWK enc 10 w0 blk off d W → Calls Try.prog 99 #[.agg (enc d[m]!).toArray, .agg (enc d[h]!).toArray] W fun e w' => e = .returned (.int .i64 (cf d[m]! d[h]!)) ∧ SWK enc 10 w0 blk off d w') := fun W hW => cmp_at hW hC HSZ.out d[m]! d[h]!
   have HLT : Hid (ltOf cf d[m]! d[h]! = decide (cf d[m]! d[h]! < 0)) := rfl
   generalize enc d[m]! = c1 at HL1 HCM
   generalize enc d[h]! = c2 at HL2 HCM
   generalize cf d[m]! d[h]! = q at HCM HLT
   go_upto_region 17 with fail
   refine wp_region_held_drew (S := SWK enc 10 w0 blk off d) (by kernel_rfl) (SWK.drew SW.out) (fun hS => ?_)
   refine take_at (i := 0) 92 (v := .func (.func 99) #[] #[]) rfl rfl (by kernel_rfl) (by kernel_rfl) (by kernel_rfl) (fun _ _ _ h => h) (Or.inl ⟨by rfl, fun w' hw' => by go_simp⟩) hS ?_
   simp only [Act.put, lsA, lsZ, lsS]
   refine take_at (i := 1) 93 (v := .slice (some ⟨blk, off, none⟩) d.size cap) rfl rfl (by kernel_rfl) (by kernel_rfl) (by kernel_rfl) (fun _ _ _ h => h) (Or.inl ⟨by rfl, fun w' hw' => by go_simp⟩) hS ?_
   simp only [Act.put, lsA, lsZ, lsS]
   refine take_at (i := 2) 94 (v := .int .i64 (m : Int)) rfl rfl (by kernel_rfl) (by kernel_rfl) (by kernel_rfl) (fun _ _ _ h => h) (Or.inl ⟨by rfl, fun w' hw' => by go_simp⟩) hS ?_
   simp only [Act.put, lsA, lsZ, lsS]
   refine take_at (i := 3) 95 (v := .pointer (some ⟨blk, off + (m) * 10, none⟩)) rfl rfl (by kernel_rfl) (by kernel_rfl) (by kernel_rfl) (fun _ _ _ h => h) (Or.inl ⟨by rfl, fun w' hw' => by go_simp⟩) hS ?_
   simp only [Act.put, lsA, lsZ, lsS]
   refine take_at (i := 5) 97 (v := .slice (some ⟨blk, off, none⟩) d.size cap) rfl rfl (by kernel_rfl) (by kernel_rfl) (by kernel_rfl) (fun _ _ _ h => h) (Or.inl ⟨by rfl, fun w' hw' => by go_simp⟩) hS ?_
   simp only [Act.put, lsA, lsZ, lsS]
   refine take_at (i := 6) 98 (v := .int .i64 (h : Int)) rfl rfl (by kernel_rfl) (by kernel_rfl) (by kernel_rfl) (fun _ _ _ h => h) (Or.inl ⟨by rfl, fun w' hw' => by go_simp⟩) hS ?_
   simp only [Act.put, lsA, lsZ, lsS]
   refine take_at (i := 7) 99 (v := .pointer (some ⟨blk, off + (h) * 10, none⟩)) rfl rfl (by kernel_rfl) (by kernel_rfl) (by kernel_rfl) (fun _ _ _ h => h) (Or.inl ⟨by rfl, fun w' hw' => by go_simp⟩) hS ?_
   simp only [Act.put, lsA, lsZ, lsS]
   refine take_at (i := 4) 96 (v := .agg c1.toArray) rfl rfl (by kernel_rfl) (by kernel_rfl) (by kernel_rfl) (fun _ _ _ h => h) (Or.inl ⟨by rfl, fun w' hw' => exec_load rfl (load_dg (HL1.out w' hw'))⟩) hS ?_
   simp only [Act.put, lsA, lsZ, lsS]
   refine take_at (i := 8) 100 (v := .agg c2.toArray) rfl rfl (by kernel_rfl) (by kernel_rfl) (by kernel_rfl) (fun _ _ _ h => h) (Or.inl ⟨by rfl, fun w' hw' => exec_load rfl (load_dg (HL2.out w' hw'))⟩) hS ?_
   simp only [Act.put, lsA, lsZ, lsS]
   refine wpAnyH_ready (rs := [9]) (by kernel_rfl) (by simp) ?_
   refine AllReadyH.cons rfl (fun K' hK' => ?_) AllReadyH.nil
   go_simp
   refine (HCM.out _ hS).mono ?_
   rintro e v1 ⟨rfl, S9⟩
   refine hK'.out _ _ S9 (fun hS => ?_)
   clear hK' K' S9
   by_cases hc : q < 0
   ·have d1 : decide (q < 0) = true := decide_eq_true hc
    have HP : Hid (ltOf cf d[m]! d[h]! = true) := HLT.out.trans d1
    refine take_at (i := 10) 102 (v := .bool true) rfl rfl (by kernel_rfl) (by kernel_rfl) (by kernel_rfl) (fun _ _ _ h => h) (Or.inl ⟨by rfl, fun w' hw' => by go_simp⟩) hS ?_
    simp only [Act.put, lsA, lsZ, lsS]
    refine take_at (i := 11) 103 (v := .bool false) rfl rfl (by kernel_rfl) (by kernel_rfl) (by kernel_rfl) (fun _ _ _ h => h) (Or.inl ⟨by rfl, fun w' hw' => by go_simp⟩) hS ?_
    simp only [Act.put, lsA, lsZ, lsS]
    refine wpAnyH_done (by kernel_rfl) ?_ _
    have HS9 : Hid _ := hS
    clear hS hc d1
    go_wp2_with fail
    go_roundw
    case rel => exact ⟨i, h, rfl, rfl, by omega, by omega, by omega, HLO.out, fun _ => HP.out, HS9.out⟩
    case measure => simp [intOf]; omega
   ·have d1 : decide (q < 0) = false := decide_eq_false hc
    have HP : Hid (ltOf cf d[m]! d[h]! = false) := HLT.out.trans d1
    refine take_at (i := 10) 102 (v := .bool false) rfl rfl (by kernel_rfl) (by kernel_rfl) (by kernel_rfl) (fun _ _ _ h => h) (Or.inl ⟨by rfl, fun w' hw' => by go_simp⟩) hS ?_
    simp only [Act.put, lsA, lsZ, lsS]
    refine take_at (i := 11) 103 (v := .bool true) rfl rfl (by kernel_rfl) (by kernel_rfl) (by kernel_rfl) (fun _ _ _ h => h) (Or.inl ⟨by rfl, fun w' hw' => by go_simp⟩) hS ?_
    simp only [Act.put, lsA, lsZ, lsS]
    refine wpAnyH_done (by kernel_rfl) ?_ _
    have HS9 : Hid _ := hS
    clear hS hc d1
    go_wp2_with fail
    go_roundw
    case rel => exact ⟨h + 1, j, by go_num, rfl, by omega, by omega, by omega, fun _ => HP.out, HHI.out, HS9.out⟩
    case measure => simp [intOf]; omega
  ·obtain rfl : i = j := by omega
   have e1 : decide ((i : Int) < (i : Int)) = false := decide_eq_false (by omega)
   have hL : L.length = m - a := HLL.out
   have HT : Hid (mgD (ltOf cf) L [y] = L.take (i - a) ++ y :: L.drop (i - a)) := symB Wl HOL.out (by omega) (fun r h0 hr => by
    have h9 := HLO.out (by omega)
    rw [HEY.out] at h9
    obtain ⟨hl, er⟩ := List.getElem?_eq_some_iff.1 hr
    have hg := HG.out (i - a - 1) hl
    rw [show a + (i - a - 1) = i - 1 by omega, getElem!_pos L _ hl, er] at hg
    rw [← hg]
    exact h9) (fun r hr => by
    obtain ⟨hl, er⟩ := List.getElem?_eq_some_iff.1 hr
    have h9 := HHI.out (by omega)
    rw [HEY.out] at h9
    have hg := HG.out (i - a) hl
    rw [show a + (i - a) = i by omega, getElem!_pos L _ hl, er] at hg
    rw [← hg]
    exact h9)
   have hl1 : (L.drop (i - a)).length = m - i := by rw [List.length_drop]; omega
   have hx1 : (X ++ L.take (i - a)).length = i := by rw [List.length_append, List.length_take, HXL.out]; omega
   have HD1 : Hid (d.toList = (X ++ L.take (i - a)) ++ ((L.drop (i - a)).take (m - i) ++ y :: ((L.drop (i - a)).drop (m - i) ++ Y))) := by
    show _ = _
    have t1 : (L.drop (i - a)).take (m - i) = L.drop (i - a) := List.take_of_length_le (by omega)
    have t2 : (L.drop (i - a)).drop (m - i) = [] := List.drop_eq_nil_of_le (by omega)
    rw [HD.out, t1, t2]
    have t3 : L.take (i - a) ++ L.drop (i - a) = L := List.take_append_drop _ _
    generalize L.take (i - a) = A1 at t3 ⊢
    generalize L.drop (i - a) = B1 at t3 ⊢
    rw [← t3]
    simp
   have HTA : Hid (X ++ (mgD (ltOf cf) L [y] ++ Y) = (X ++ L.take (i - a)) ++ (y :: (L.drop (i - a) ++ Y))) := by
    show _ = _
    rw [HT.out]
    simp
   obtain ⟨L2, hL2⟩ : ∃ L2, L2 = L.drop (i - a) := ⟨_, rfl⟩
   obtain ⟨X1, hX1⟩ : ∃ X1, X1 = X ++ L.take (i - a) := ⟨_, rfl⟩
   rw [← hL2, ← hX1] at HD1 HTA
   rw [← hL2] at hl1
   rw [← hX1] at hx1
   have HL1 : Hid (L2.length = m - i) := hl1
   have HX1 : Hid (X1.length = i) := hx1
   clear hL2 hX1 hl1 hx1 HT HLO HHI HG HD
   go_wp2_with fail
   go_loopw [17] (fun z wr => ∃ (u : Nat) (dk : Array α), z = .int .i64 ((i + u : Nat) : Int) ∧ u ≤ m - i ∧ dk.size = d.size ∧ Hid (dk.toList = X1 ++ (L2.take u ++ y :: (L2.drop u ++ Y))) ∧ Hid (SWK enc 10 w0 blk off dk wr)) (fun z _ => (intOf z - (i : Int)).toNat)
   case atStart => exact ⟨m - i, d, by go_num, by omega, rfl, HD1, SW⟩
   case round =>
    clear HD1 SW
    obtain ⟨u, dk, rfl, hu, hsk, HDK, SK⟩ := hrel
    obtain ⟨k, hk⟩ : ∃ k, k = i + u := ⟨_, rfl⟩
    rw [← hk]
    by_cases hu0 : 0 < u
    ·obtain ⟨v, rfl⟩ : ∃ v, u = v + 1 := ⟨u - 1, by omega⟩
     have hk1 : (k : Int) > (i : Int) := by omega
     obtain ⟨k1, hk1e⟩ : ∃ k1, k1 = k - 1 := ⟨_, rfl⟩
     have hkz : k1 < d.size := by omega
     have hkz0 : k < d.size := by omega
     have ek1 : (k : Int) - 1 = (k1 : Int) := by omega
     have hx1 : X1.length = i := HX1.out
     have HDN : Hid ((swp dk k (k - 1)).toList = X1 ++ (L2.take v ++ y :: (L2.drop v ++ Y))) := stepB HDK.out (by rw [HL1.out]; omega) (by omega)
     rw [← hk1e] at HDN
     have S2 : Hid (SWK enc 10 w0 blk off (swp dk k k1) ((wr.drew.setCells blk (off + k * 10) (enc dk[k1]!)).setCells blk (off + k1 * 10) (enc dk[k]!))) := SK.out.swapped R k k1 (by omega) (by omega)
     have la := SK.out.ld1 R (by rw [hsk]; exact HSZ.out) Try.prog k (by omega)
     have lb := SK.out.ld1 R (by rw [hsk]; exact HSZ.out) Try.prog k1 (by omega)
     have sa := SK.out.st1 R (by rw [hsk]; exact HSZ.out) Try.prog k (by omega) dk[k1]!
     have sb := SK.out.st2 R (by rw [hsk]; exact HSZ.out) Try.prog k k1 (by omega) (by omega) dk[k1]! dk[k]!
     have na : (enc dk[k]!).length = 10 := R.hk _
     have nb : (enc dk[k1]!).length = 10 := R.hk _
     generalize enc dk[k]! = cI at S2 la sb na
     generalize enc dk[k1]! = cJ at S2 lb sa sb nb
     have HKT : Hid (k = i + (v + 1)) := hk
     have HUM : Hid (v + 1 ≤ m - i) := hu
     have hkk : k < 4611686018427387904 := by omega
     have hkk1 : k1 < 4611686018427387904 := by omega
     have HSK : Hid ((swp dk k k1).size = d.size) := by show _ = _; rw [size_swp, hsk]
     clear SK HDK hk hu hsk hx1 hk1e hu0
     go_upto_region 23 with fail
     refine wp_region_held_drew (S := fun _ => True) (by kernel_rfl) trivial (fun hS => ?_)
     refine take_at (i := 0) 113 (v := .slice (some ⟨blk, off, none⟩) d.size cap) rfl rfl (by kernel_rfl) (by kernel_rfl) (by kernel_rfl) (fun _ _ _ h => h) (Or.inl ⟨by rfl, fun w' hw' => by go_simp⟩) hS ?_
     simp only [Act.put, lsA, lsZ, lsS]
     refine take_at (i := 1) 114 (v := .int .i64 (k : Int)) rfl rfl (by kernel_rfl) (by kernel_rfl) (by kernel_rfl) (fun _ _ _ h => h) (Or.inl ⟨by rfl, fun w' hw' => by go_simp⟩) hS ?_
     simp only [Act.put, lsA, lsZ, lsS]
     refine take_at (i := 2) 115 (v := .slice (some ⟨blk, off, none⟩) d.size cap) rfl rfl (by kernel_rfl) (by kernel_rfl) (by kernel_rfl) (fun _ _ _ h => h) (Or.inl ⟨by rfl, fun w' hw' => by go_simp⟩) hS ?_
     simp only [Act.put, lsA, lsZ, lsS]
     refine take_at (i := 3) 116 (v := .int .i64 (k : Int)) rfl rfl (by kernel_rfl) (by kernel_rfl) (by kernel_rfl) (fun _ _ _ h => h) (Or.inl ⟨by rfl, fun w' hw' => by go_simp⟩) hS ?_
     simp only [Act.put, lsA, lsZ, lsS]
     refine take_at (i := 4) 117 (v := .int .i64 (k1 : Int)) rfl rfl (by kernel_rfl) (by kernel_rfl) (by kernel_rfl) (fun _ _ _ h => h) (Or.inl ⟨by rfl, fun w' hw' => by go_simp <;> (rw [IntKind.wrap_i64]; omega)⟩) hS ?_
     simp only [Act.put, lsA, lsZ, lsS]
     refine take_at (i := 5) 118 (v := .slice (some ⟨blk, off, none⟩) d.size cap) rfl rfl (by kernel_rfl) (by kernel_rfl) (by kernel_rfl) (fun _ _ _ h => h) (Or.inl ⟨by rfl, fun w' hw' => by go_simp⟩) hS ?_
     simp only [Act.put, lsA, lsZ, lsS]
     refine take_at (i := 6) 119 (v := .int .i64 (k : Int)) rfl rfl (by kernel_rfl) (by kernel_rfl) (by kernel_rfl) (fun _ _ _ h => h) (Or.inl ⟨by rfl, fun w' hw' => by go_simp⟩) hS ?_
     simp only [Act.put, lsA, lsZ, lsS]
     refine take_at (i := 7) 120 (v := .int .i64 (k1 : Int)) rfl rfl (by kernel_rfl) (by kernel_rfl) (by kernel_rfl) (fun _ _ _ h => h) (Or.inl ⟨by rfl, fun w' hw' => by go_simp <;> (rw [IntKind.wrap_i64]; omega)⟩) hS ?_
     simp only [Act.put, lsA, lsZ, lsS]
     refine take_at (i := 8) 121 (v := .pointer (some ⟨blk, off + (k1) * 10, none⟩)) rfl rfl (by kernel_rfl) (by kernel_rfl) (by kernel_rfl) (fun _ _ _ h => h) (Or.inl ⟨by rfl, fun w' hw' => by go_simp⟩) hS ?_
     simp only [Act.put, lsA, lsZ, lsS]
     refine take_at (i := 10) 123 (v := .slice (some ⟨blk, off, none⟩) d.size cap) rfl rfl (by kernel_rfl) (by kernel_rfl) (by kernel_rfl) (fun _ _ _ h => h) (Or.inl ⟨by rfl, fun w' hw' => by go_simp⟩) hS ?_
     simp only [Act.put, lsA, lsZ, lsS]
     refine take_at (i := 11) 124 (v := .int .i64 (k : Int)) rfl rfl (by kernel_rfl) (by kernel_rfl) (by kernel_rfl) (fun _ _ _ h => h) (Or.inl ⟨by rfl, fun w' hw' => by go_simp⟩) hS ?_
     simp only [Act.put, lsA, lsZ, lsS]
     refine take_at (i := 12) 125 (v := .pointer (some ⟨blk, off + (k) * 10, none⟩)) rfl rfl (by kernel_rfl) (by kernel_rfl) (by kernel_rfl) (fun _ _ _ h => h) (Or.inl ⟨by rfl, fun w' hw' => by go_simp⟩) hS ?_
     simp only [Act.put, lsA, lsZ, lsS]
     refine wpAnyH_ready (rs := [9, 13]) (by kernel_rfl) (by simp) ?_
     refine AllReadyH.cons rfl (fun K' hK' => ?_) (AllReadyH.cons rfl (fun K' hK' => ?_) AllReadyH.nil)
     ·refine rdyV 122 rfl (by rfl) (exec_load rfl (load_dg lb)) ?_
      refine hK'.out _ _ trivial (fun hS => ?_)
      clear hK' K'
      simp only [Act.put, lsA, lsZ, lsS]
      refine wpAnyH_ready (rs := [13]) (by kernel_rfl) (by simp) ?_
      refine AllReadyH.cons rfl (fun K' hK' => ?_) AllReadyH.nil
      refine rdyV 126 rfl (by rfl) (exec_load rfl (load_dg la)) ?_
      refine hK'.out _ _ trivial (fun hS => ?_)
      clear hK' K'
      simp only [Act.put, lsA, lsZ, lsS]
      refine take_at (i := 14) 127 (v := .pointer (some ⟨blk, off + (k) * 10, none⟩)) rfl rfl (by kernel_rfl) (by kernel_rfl) (by kernel_rfl) (fun _ _ _ h => h) (Or.inl ⟨by rfl, fun w' hw' => by go_simp⟩) hS ?_
      simp only [Act.put, lsA, lsZ, lsS]
      refine wpAnyH_ready (rs := [15]) (by kernel_rfl) (by simp) ?_
      refine AllReadyH.cons rfl (fun K' hK' => ?_) AllReadyH.nil
      refine rdyS rfl (by rfl) (exec_store rfl (store_dg nb sa)) ?_
      refine hK'.out _ _ trivial (fun hS => ?_)
      clear hK' K'
      refine take_at (i := 16) 128 (v := .pointer (some ⟨blk, off + (k1) * 10, none⟩)) rfl rfl (by kernel_rfl) (by kernel_rfl) (by kernel_rfl) (fun _ _ _ h => h) (Or.inl ⟨by rfl, fun w' hw' => by go_simp⟩) hS ?_
      simp only [Act.put, lsA, lsZ, lsS]
      refine wpAnyH_ready (rs := [17]) (by kernel_rfl) (by simp) ?_
      refine AllReadyH.cons rfl (fun K' hK' => ?_) AllReadyH.nil
      refine rdyS rfl (by rfl) (exec_store rfl (store_dg na sb)) ?_
      refine hK'.out _ _ trivial (fun hS => ?_)
      clear hK' K'
      refine wpAnyH_done (by kernel_rfl) ?_ _
      clear la lb sa sb
      generalize (wr.drew.setCells blk (off + k * 10) cJ).setCells blk (off + k1 * 10) cI = w2 at S2 ⊢
      go_wp2_with fail
      go_roundw
      case rel =>
       have h1 : k = i + (v + 1) := HKT.out
       have h2 : v + 1 ≤ m - i := HUM.out
       exact ⟨v, swp dk k k1, by go_num, by omega, HSK.out, HDN, S2⟩
      case measure => simp [intOf]; omega
     ·refine rdyV 126 rfl (by rfl) (exec_load rfl (load_dg la)) ?_
      refine hK'.out _ _ trivial (fun hS => ?_)
      clear hK' K'
      simp only [Act.put, lsA, lsZ, lsS]
      refine wpAnyH_ready (rs := [9]) (by kernel_rfl) (by simp) ?_
      refine AllReadyH.cons rfl (fun K' hK' => ?_) AllReadyH.nil
      refine rdyV 122 rfl (by rfl) (exec_load rfl (load_dg lb)) ?_
      refine hK'.out _ _ trivial (fun hS => ?_)
      clear hK' K'
      simp only [Act.put, lsA, lsZ, lsS]
      refine take_at (i := 14) 127 (v := .pointer (some ⟨blk, off + (k) * 10, none⟩)) rfl rfl (by kernel_rfl) (by kernel_rfl) (by kernel_rfl) (fun _ _ _ h => h) (Or.inl ⟨by rfl, fun w' hw' => by go_simp⟩) hS ?_
      simp only [Act.put, lsA, lsZ, lsS]
      refine wpAnyH_ready (rs := [15]) (by kernel_rfl) (by simp) ?_
      refine AllReadyH.cons rfl (fun K' hK' => ?_) AllReadyH.nil
      refine rdyS rfl (by rfl) (exec_store rfl (store_dg nb sa)) ?_
      refine hK'.out _ _ trivial (fun hS => ?_)
      clear hK' K'
      refine take_at (i := 16) 128 (v := .pointer (some ⟨blk, off + (k1) * 10, none⟩)) rfl rfl (by kernel_rfl) (by kernel_rfl) (by kernel_rfl) (fun _ _ _ h => h) (Or.inl ⟨by rfl, fun w' hw' => by go_simp⟩) hS ?_
      simp only [Act.put, lsA, lsZ, lsS]
      refine wpAnyH_ready (rs := [17]) (by kernel_rfl) (by simp) ?_
      refine AllReadyH.cons rfl (fun K' hK' => ?_) AllReadyH.nil
      refine rdyS rfl (by rfl) (exec_store rfl (store_dg na sb)) ?_
      refine hK'.out _ _ trivial (fun hS => ?_)
      clear hK' K'
      refine wpAnyH_done (by kernel_rfl) ?_ _
      clear la lb sa sb
      generalize (wr.drew.setCells blk (off + k * 10) cJ).setCells blk (off + k1 * 10) cI = w2 at S2 ⊢
      go_wp2_with fail
      go_roundw
      case rel =>
       have h1 : k = i + (v + 1) := HKT.out
       have h2 : v + 1 ≤ m - i := HUM.out
       exact ⟨v, swp dk k k1, by go_num, by omega, HSK.out, HDN, S2⟩
      case measure => simp [intOf]; omega
    ·obtain rfl : u = 0 := by omega
     have hk1 : ¬ (k : Int) > (i : Int) := by omega
     have HFD : Hid (dk.toList = X ++ (mgD (ltOf cf) L [y] ++ Y)) := by
      show _ = _
      rw [HDK.out, HTA.out]
      simp
     clear HDK
     go_wp2_with fail
     first | go_end0 | (simp only [Exit.inBlock, Exit.then]; refine bodyPost_ret (results_none rfl _ _ _) rfl ?_) | refine bodyPost_ret (results_none rfl _ _ _) rfl ?_
     exact ⟨rfl, dk, HFD.out, SK.out⟩
end Go.Proofs.Ytpnnpdfmoldiiaa
