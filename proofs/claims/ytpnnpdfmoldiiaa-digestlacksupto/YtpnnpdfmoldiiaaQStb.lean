/- Items of several texts. -/
import Derived.Deep.CutRange
import Derived.Test.YtpnnpdfmoldiiaaQSyb
namespace Go.Proofs.Ytpnnpdfmoldiiaa
set_option maxRecDepth 100000
open Go.Shelf Go.RowKit Go.Lib Go.Sort
structure Lh (a m b mid nn lo hi : Nat) : Prop where
 is : (mid < m ∧ lo = nn - b ∧ hi = mid) ∨ (m ≤ mid ∧ lo = a ∧ hi = m)
set_option maxHeartbeats 2000000 in
theorem syc_any {α : Type} [Inhabited α] (enc : α → List Value) (cf : α → α → Int) (Wl : Wk (ltOf cf)) (blk off cap : Nat) (d0 : Array α) (w0 : World) (R : RowK enc 10 w0 blk off d0) (hC : CmpLays Try.prog 99 #[] enc 10 cf blk off d0.size w0) (hsz : d0.size < 4611686018427387904)
  (a m b : Nat) (d : Array α) (X L Rr Y : List α) (w : World) (hs : d.size = d0.size) (S0 : SWK enc 10 w0 blk off d w) (ham : a < m) (hmb : m < b) (hb : b ≤ d.size) (hd : d.toList = X ++ (L ++ (Rr ++ Y))) (hX : X.length = a) (hL : L.length = m - a) (hR : Rr.length = b - m) (oL : Ord (ltOf cf) L) (oR : Ord (ltOf cf) Rr) (h0 : m - a ≠ 1) (h1 : b - m ≠ 1)
  (IH : ∀ (a' m' b' : Nat) (d' : Array α) (X' L' R' Y' : List α) (w' : World), b' - a' < b - a → d'.size = d0.size → SWK enc 10 w0 blk off d' w' → a' < m' → m' < b' → b' ≤ d'.size → d'.toList = X' ++ (L' ++ (R' ++ Y')) → X'.length = a' → L'.length = m' - a' → R'.length = b' - m' → Ord (ltOf cf) L' → Ord (ltOf cf) R' →
  Calls Try.prog 148 #[.slice (some ⟨blk, off, none⟩) d'.size cap, .int .i64 a', .int .i64 m', .int .i64 b', .func (.func 99) #[] #[]] w' fun e w'' => e = .returned (.tuple #[]) ∧ ∃ d'' : Array α, d''.toList = X' ++ (mgD (ltOf cf) L' R' ++ Y') ∧ SWK enc 10 w0 blk off d'' w'' ) :
  Calls Try.prog 148 #[.slice (some ⟨blk, off, none⟩) d.size cap, .int .i64 a, .int .i64 m, .int .i64 b, .func (.func 99) #[] #[]] w fun e w' => e = .returned (.tuple #[]) ∧ ∃ d' : Array α, d'.toList = X ++ (mgD (ltOf cf) L Rr ++ Y) ∧ SWK enc 10 w0 blk off d' w' := by
 have ma : ((m : Int) - (a : Int) == 1) = false := by simp; omega
 have bm : ((b : Int) - (m : Int) == 1) = false := by simp; omega
 obtain ⟨mid, hmid⟩ : ∃ mid : Nat, mid = (a + b) / 2 := ⟨_, rfl⟩
 have emid : ((a : Int) + (b : Int)) / 2 = (mid : Int) := by omega
 have hm1 : 2 * mid ≤ a + b := by omega
 have hm2 : a + b ≤ 2 * mid + 1 := by omega
 obtain ⟨nn, hnn⟩ : ∃ nn : Nat, nn = mid + m := ⟨_, rfl⟩
 have enn : (mid : Int) + (m : Int) = (nn : Int) := by omega
 obtain ⟨pp, hpp⟩ : ∃ pp : Nat, pp = nn - 1 := ⟨_, rfl⟩
 have epp : (nn : Int) - 1 = (pp : Int) := by omega
 have HD : Hid _ := hd
 have SW0 : Hid _ := S0
 have HSZ : Hid (d.size = d0.size) := hs
 have HXL : Hid _ := hX
 have HLL : Hid _ := hL
 have HRL : Hid _ := hR
 have HOL : Hid _ := oL
 have HOR : Hid _ := oR
 have HGL : Hid (∀ i, i < L.length → d[a + i]! = L[i]!) := fun i hi => by
  have := arr_at (d := d) (A := X) (B := L ++ (Rr ++ Y)) hd (i := i) (by rw [List.length_append]; omega)
  rw [hX] at this
  rw [this, getElem!_pos (L ++ (Rr ++ Y)) i (by rw [List.length_append]; omega), getElem!_pos L i hi, List.getElem_append_left hi]
 have HGR : Hid (∀ i, i < Rr.length → d[m + i]! = Rr[i]!) := fun i hi => by
  have := arr_at (d := d) (A := X ++ L) (B := Rr ++ Y) (by rw [hd]; simp) (i := i) (by rw [List.length_append]; omega)
  have e2 : (X ++ L).length = m := by rw [List.length_append]; omega
  rw [e2] at this
  rw [this, getElem!_pos (Rr ++ Y) i (by rw [List.length_append]; omega), getElem!_pos Rr i hi, List.getElem_append_left hi]
 have HMN : Hid (nn = mid + m ∧ pp = nn - 1) := ⟨hnn, hpp⟩
 have hn2 : nn < 9223372036854775807 := by have : d.size = d0.size := hs; omega
 have hb2 : b < 4611686018427387904 := by omega
 clear hd S0 hs hX hL hR oL oR hmid hnn hpp
 go_enter Try.func148, Try.ntmps148
 go_upto_if 140 with fail
 go_cut [20, 21] from 141 to 146 (fun y z wx => ∃ lo hi : Nat, y = .int .i64 (lo : Int) ∧ z = .int .i64 (hi : Int) ∧ Hid (Lh a m b mid nn lo hi) ∧ wx = w)
 case first =>
  have hq := HMN.out
  by_cases hmm : mid < m
  ·have g1 : decide ((m : Int) > (mid : Int)) = true := decide_eq_true (by omega)
   obtain ⟨lo, hlo⟩ : ∃ lo, lo = nn - b := ⟨_, rfl⟩
   have elo : (nn : Int) - (b : Int) = (lo : Int) := by omega
   have HLH : Hid (Lh a m b mid nn lo mid) := ⟨.inl ⟨hmm, hlo, rfl⟩⟩
   clear hq hlo
   go_wp2_with fail
   go_meet
   case rel => exact ⟨lo, mid, rfl, rfl, HLH, rfl⟩
  ·have g1 : decide ((m : Int) > (mid : Int)) = false := decide_eq_false (by omega)
   have HLH : Hid (Lh a m b mid nn a m) := ⟨.inr ⟨by omega, rfl, rfl⟩⟩
   clear hq
   go_wp2_with fail
   go_meet
   case rel => exact ⟨a, m, rfl, rfl, HLH, rfl⟩
 case rest =>
  obtain ⟨lo, hi, rfl, rfl, HLH, hwx⟩ := hcut
  have SWc : Hid (SWK enc 10 w0 blk off d wc) := by show SWK _ _ _ _ _ _ _; rw [hwx]; exact SW0.out
  clear SW0 hwx
  have hlo1 : a ≤ lo := by have := HLH.out.is; have := HMN.out; omega
  have hlo2 : lo ≤ hi := by have := HLH.out.is; have := HMN.out; omega
  have hhi1 : hi ≤ m := by have := HLH.out.is; have := HMN.out; omega
  have hhi2 : hi ≤ mid := by have := HLH.out.is; have := HMN.out; omega
  go_wp2_with fail
  go_loopw [20, 21] (fun y z wr => ∃ i j : Nat, y = .int .i64 (i : Int) ∧ z = .int .i64 (j : Int) ∧ lo ≤ i ∧ i ≤ j ∧ j ≤ hi ∧ (lo < i → ltOf cf d[pp - (i - 1)]! d[i - 1]! = false) ∧ (j < hi → ltOf cf d[pp - j]! d[j]! = true) ∧ SWK enc 10 w0 blk off d wr) (fun y z _ => (intOf z - intOf y).toNat)
  case atStart => exact ⟨lo, hi, rfl, rfl, by omega, by omega, by omega, fun h => by omega, fun h => by omega, SWc.out⟩
  case round =>
   clear SWc
   obtain ⟨i, j, rfl, rfl, hmi, hij, hjb, hlo, hhi, S1⟩ := hrel
   have SW : Hid _ := S1
   have HLO : Hid _ := hlo
   have HHI : Hid _ := hhi
   clear S1 hlo hhi
   by_cases hlt : i < j
   ·have e1 : decide ((i : Int) < (j : Int)) = true := decide_eq_true (by omega)
    obtain ⟨c, hc0⟩ : ∃ c : Nat, c = (i + j) / 2 := ⟨_, rfl⟩
    have hhc : ((i : Int) + (j : Int)) / 2 = (c : Int) := by omega
    have hh1 : i ≤ c := by omega
    have hh2 : c < j := by omega
    clear hc0
    obtain ⟨pc, hpc⟩ : ∃ pc, pc = pp - c := ⟨_, rfl⟩
    have epc : (pp : Int) - (c : Int) = (pc : Int) := by have := HMN.out; omega
    have HPD : Hid (pc < d.size) := by have := HMN.out; have := HLH.out.is; show _ < _; omega
    have HCD : Hid (c < d.size) := by show _ < _; omega
    have hpd : pc < d.size := HPD.out
    have hcd : c < d.size := HCD.out
    have HPC : Hid (pc = pp - c) := hpc
    clear hpc
    have HLc1 : Hid (∀ W, SWK enc 10 w0 blk off d W → Sem.run Try.prog (loadCellsFrom ⟨blk, off + pc * 10, none⟩ 0 10 #[]) W = .ok (enc d[pc]!).toArray W) := fun W hW => SWK.load hW R HSZ.out Try.prog pc HPD.out
    have HLc2 : Hid (∀ W, SWK enc 10 w0 blk off d W → Sem.run Try.prog (loadCellsFrom ⟨blk, off + c * 10, none⟩ 0 10 #[]) W = .ok (enc d[c]!).toArray W) := fun W hW => SWK.load hW R HSZ.out Try.prog c HCD.out
    have HCM : Hid (∀ W, SWK enc 10 w0 blk off d W → Calls Try.prog 99 #[.agg (enc d[pc]!).toArray, .agg (enc d[c]!).toArray] W fun e w' => e = .returned (.int .i64 (cf d[pc]! d[c]!)) ∧ SWK enc 10 w0 blk off d w') := fun W hW => cmp_at hW hC HSZ.out d[pc]! d[c]!
    have HLT : Hid (ltOf cf d[pc]! d[c]! = decide (cf d[pc]! d[c]! < 0)) := rfl
    generalize enc d[pc]! = c1 at HLc1 HCM
    generalize enc d[c]! = c2 at HLc2 HCM
    generalize cf d[pc]! d[c]! = q at HCM HLT
    go_upto_region 35 with fail
    refine wp_region_held_drew (S := SWK enc 10 w0 blk off d) (by kernel_rfl) (SWK.drew SW.out) (fun hS => ?_)
    refine take_at (i := 0) 158 (v := .func (.func 99) #[] #[]) rfl rfl (by kernel_rfl) (by kernel_rfl) (by kernel_rfl) (fun _ _ _ h => h) (Or.inl ⟨by rfl, fun w' hw' => by go_simp⟩) hS ?_
    simp only [Act.put, lsA, lsZ, lsS]
    refine take_at (i := 1) 159 (v := .slice (some ⟨blk, off, none⟩) d.size cap) rfl rfl (by kernel_rfl) (by kernel_rfl) (by kernel_rfl) (fun _ _ _ h => h) (Or.inl ⟨by rfl, fun w' hw' => by go_simp⟩) hS ?_
    simp only [Act.put, lsA, lsZ, lsS]
    refine take_at (i := 2) 160 (v := .int .i64 (pp : Int)) rfl rfl (by kernel_rfl) (by kernel_rfl) (by kernel_rfl) (fun _ _ _ h => h) (Or.inl ⟨by rfl, fun w' hw' => by go_simp⟩) hS ?_
    simp only [Act.put, lsA, lsZ, lsS]
    refine take_at (i := 3) 161 (v := .int .i64 (c : Int)) rfl rfl (by kernel_rfl) (by kernel_rfl) (by kernel_rfl) (fun _ _ _ h => h) (Or.inl ⟨by rfl, fun w' hw' => by go_simp⟩) hS ?_
    simp only [Act.put, lsA, lsZ, lsS]
    refine take_at (i := 4) 162 (v := .int .i64 (pc : Int)) rfl rfl (by kernel_rfl) (by kernel_rfl) (by kernel_rfl) (fun _ _ _ h => h) (Or.inl ⟨by rfl, fun w' hw' => by go_simp <;> (rw [IntKind.wrap_i64]; omega)⟩) hS ?_
    simp only [Act.put, lsA, lsZ, lsS]
    refine take_at (i := 5) 163 (v := .pointer (some ⟨blk, off + (pc) * 10, none⟩)) rfl rfl (by kernel_rfl) (by kernel_rfl) (by kernel_rfl) (fun _ _ _ h => h) (Or.inl ⟨by rfl, fun w' hw' => by go_simp⟩) hS ?_
    simp only [Act.put, lsA, lsZ, lsS]
    refine take_at (i := 7) 165 (v := .slice (some ⟨blk, off, none⟩) d.size cap) rfl rfl (by kernel_rfl) (by kernel_rfl) (by kernel_rfl) (fun _ _ _ h => h) (Or.inl ⟨by rfl, fun w' hw' => by go_simp⟩) hS ?_
    simp only [Act.put, lsA, lsZ, lsS]
    refine take_at (i := 8) 166 (v := .int .i64 (c : Int)) rfl rfl (by kernel_rfl) (by kernel_rfl) (by kernel_rfl) (fun _ _ _ h => h) (Or.inl ⟨by rfl, fun w' hw' => by go_simp⟩) hS ?_
    simp only [Act.put, lsA, lsZ, lsS]
    refine take_at (i := 9) 167 (v := .pointer (some ⟨blk, off + (c) * 10, none⟩)) rfl rfl (by kernel_rfl) (by kernel_rfl) (by kernel_rfl) (fun _ _ _ h => h) (Or.inl ⟨by rfl, fun w' hw' => by go_simp⟩) hS ?_
    simp only [Act.put, lsA, lsZ, lsS]
    refine take_at (i := 6) 164 (v := .agg c1.toArray) rfl rfl (by kernel_rfl) (by kernel_rfl) (by kernel_rfl) (fun _ _ _ h => h) (Or.inl ⟨by rfl, fun w' hw' => exec_load rfl (load_dg (HLc1.out w' hw'))⟩) hS ?_
    simp only [Act.put, lsA, lsZ, lsS]
    refine take_at (i := 10) 168 (v := .agg c2.toArray) rfl rfl (by kernel_rfl) (by kernel_rfl) (by kernel_rfl) (fun _ _ _ h => h) (Or.inl ⟨by rfl, fun w' hw' => exec_load rfl (load_dg (HLc2.out w' hw'))⟩) hS ?_
    simp only [Act.put, lsA, lsZ, lsS]
    refine wpAnyH_ready (rs := [11]) (by kernel_rfl) (by simp) ?_
    refine AllReadyH.cons rfl (fun K' hK' => ?_) AllReadyH.nil
    go_simp
    refine (HCM.out _ hS).mono ?_
    rintro e v1 ⟨rfl, S9⟩
    refine hK'.out _ _ S9 (fun hS => ?_)
    clear hK' K' S9
    by_cases hc : q < 0
    ·have d1 : decide (q < 0) = true := decide_eq_true hc
     have HP : Hid (ltOf cf d[pc]! d[c]! = true) := HLT.out.trans d1
     refine take_at (i := 12) 170 (v := .bool true) rfl rfl (by kernel_rfl) (by kernel_rfl) (by kernel_rfl) (fun _ _ _ h => h) (Or.inl ⟨by rfl, fun w' hw' => by go_simp⟩) hS ?_
     simp only [Act.put, lsA, lsZ, lsS]
     refine take_at (i := 13) 171 (v := .bool false) rfl rfl (by kernel_rfl) (by kernel_rfl) (by kernel_rfl) (fun _ _ _ h => h) (Or.inl ⟨by rfl, fun w' hw' => by go_simp⟩) hS ?_
     simp only [Act.put, lsA, lsZ, lsS]
     refine wpAnyH_done (by kernel_rfl) ?_ _
     have HS9 : Hid _ := hS
     clear hS hc d1
     go_wp2_with fail
     go_roundw
     case rel => exact ⟨i, c, rfl, rfl, by omega, by omega, by omega, HLO.out, fun _ => by rw [← HPC.out]; exact HP.out, HS9.out⟩
     case measure => simp [intOf]; omega
    ·have d1 : decide (q < 0) = false := decide_eq_false hc
     have HP : Hid (ltOf cf d[pc]! d[c]! = false) := HLT.out.trans d1
     refine take_at (i := 12) 170 (v := .bool false) rfl rfl (by kernel_rfl) (by kernel_rfl) (by kernel_rfl) (fun _ _ _ h => h) (Or.inl ⟨by rfl, fun w' hw' => by go_simp⟩) hS ?_
     simp only [Act.put, lsA, lsZ, lsS]
     refine take_at (i := 13) 171 (v := .bool true) rfl rfl (by kernel_rfl) (by kernel_rfl) (by kernel_rfl) (fun _ _ _ h => h) (Or.inl ⟨by rfl, fun w' hw' => by go_simp⟩) hS ?_
     simp only [Act.put, lsA, lsZ, lsS]
     refine wpAnyH_done (by kernel_rfl) ?_ _
     have HS9 : Hid _ := hS
     clear hS hc d1
     go_wp2_with fail
     go_roundw
     case rel => exact ⟨c + 1, j, by go_num, rfl, by omega, by omega, by omega, fun _ => by rw [Nat.add_sub_cancel, ← HPC.out]; exact HP.out, HHI.out, HS9.out⟩
     case measure => simp [intOf]; omega
   ·obtain rfl : i = j := by omega
    have e1 : decide ((i : Int) < (i : Int)) = false := decide_eq_false (by omega)
    obtain ⟨st, hst⟩ : ∃ st, st = i := ⟨_, rfl⟩
    subst hst
    obtain ⟨en, hen⟩ : ∃ en, en = nn - st := ⟨_, rfl⟩
    have een : (nn : Int) - (st : Int) = (en : Int) := by have := HMN.out; omega
    have hen1 : m ≤ en := by have := HMN.out; omega
    have hen2 : en ≤ b := by have := HMN.out; have := HLH.out.is; omega
    have hen3 : (st - a) + (en - m) = mid - a := by have := HMN.out; omega
    have hen4 : (m - st) = en - mid := by have := HMN.out; omega
    have hmide : mid ≤ en := by have := HMN.out; omega
    have hstm : st ≤ m := by omega
    have hsta : a ≤ st := by omega
    have hstmid : st ≤ mid := by omega
    have HMC : Hid (mgD (ltOf cf) L Rr = mgD (ltOf cf) (L.take (st - a)) (Rr.take (en - m)) ++ mgD (ltOf cf) (L.drop (st - a)) (Rr.drop (en - m))) := by
     have hL : L.length = m - a := HLL.out
     have hR : Rr.length = b - m := HRL.out
     refine symC Wl HOL.out HOR.out (by omega) (by omega) (fun r l he hr hl => ?_) (fun l r hs hl hr => ?_)
     ·obtain ⟨hl1, el⟩ := List.getElem?_eq_some_iff.1 hl
      obtain ⟨hr1, er⟩ := List.getElem?_eq_some_iff.1 hr
      have h9 := HHI.out (by have := HLH.out.is; omega)
      have g1 := HGL.out (st - a) hl1
      have g2 := HGR.out (en - m - 1) hr1
      rw [show a + (st - a) = st by omega, getElem!_pos L _ hl1, el] at g1
      rw [show m + (en - m - 1) = pp - st by have := HMN.out; omega, getElem!_pos Rr _ hr1, er] at g2
      rw [g1, g2] at h9
      exact h9
     ·obtain ⟨hl1, el⟩ := List.getElem?_eq_some_iff.1 hl
      obtain ⟨hr1, er⟩ := List.getElem?_eq_some_iff.1 hr
      have h9 := HLO.out (by have := HLH.out.is; have := HMN.out; omega)
      have g1 := HGL.out (st - a - 1) hl1
      have g2 := HGR.out (en - m) hr1
      rw [show a + (st - a - 1) = st - 1 by omega, getElem!_pos L _ hl1, el] at g1
      rw [show m + (en - m) = pp - (st - 1) by have := HMN.out; omega, getElem!_pos Rr _ hr1, er] at g2
      rw [g1, g2] at h9
      exact h9
    have HDL : Hid (d.toList = X ++ ((L.take (st - a) ++ L.drop (st - a)) ++ ((Rr.take (en - m) ++ Rr.drop (en - m)) ++ Y))) := by show _ = _; rw [List.take_append_drop, List.take_append_drop]; exact HD.out
    have HL1 : Hid ((L.take (st - a)).length = st - a) := by show _ = _; rw [List.length_take, HLL.out]; omega
    have HL2 : Hid ((L.drop (st - a)).length = m - st) := by show _ = _; rw [List.length_drop, HLL.out]; omega
    have HR1 : Hid ((Rr.take (en - m)).length = en - m) := by show _ = _; rw [List.length_take, HRL.out]; omega
    have HR2 : Hid ((Rr.drop (en - m)).length = b - en) := by show _ = _; rw [List.length_drop, HRL.out]; omega
    have HO1 : Hid (Ord (ltOf cf) (L.take (st - a)) ∧ Ord (ltOf cf) (Rr.take (en - m))) := ⟨ord_take HOL.out _, ord_take HOR.out _⟩
    have HO2 : Hid (Ord (ltOf cf) (L.drop (st - a)) ∧ Ord (ltOf cf) (Rr.drop (en - m))) := ⟨ord_drop HOL.out _, ord_drop HOR.out _⟩
    generalize L.take (st - a) = L1 at HMC HDL HL1 HO1
    generalize L.drop (st - a) = L2 at HMC HDL HL2 HO2
    generalize Rr.take (en - m) = R1 at HMC HDL HR1 HO1
    generalize Rr.drop (en - m) = R2 at HMC HDL HR2 HO2
    have SW1 : Hid _ := SW.out
    clear SW HLO HHI HGL HGR HD HLL HRL HOL HOR HLH hen hlt
    go_upto_region 39 with fail
    obtain ⟨bb, hbb⟩ : ∃ bb : Bool, bb = decide (st < m ∧ m < en) := ⟨_, rfl⟩
    have HBB : Hid (bb = decide (st < m ∧ m < en)) := hbb
    clear hbb
    go_cut [185] from 178 to 185 (fun y wx => y = .bool bb ∧ Hid (SWK enc 10 w0 blk off d wx))
    case first =>
     by_cases c1 : st < m
     ·have z1 : decide ((st : Int) < (m : Int)) = true := decide_eq_true (by omega)
      by_cases c2 : m < en
      ·have z2 : decide ((m : Int) < (en : Int)) = true := decide_eq_true (by omega)
       go_wp2_with fail
       go_meet
       case rel => exact ⟨by rw [HBB.out, decide_eq_true (And.intro c1 c2)], SW1⟩
      ·have z2 : decide ((m : Int) < (en : Int)) = false := decide_eq_false (by omega)
       go_wp2_with fail
       go_meet
       case rel => exact ⟨by rw [HBB.out, decide_eq_false (fun h => c2 h.2)], SW1⟩
     ·have z1 : decide ((st : Int) < (m : Int)) = false := decide_eq_false (by omega)
      go_wp2_with fail
      go_meet
      case rel => exact ⟨by rw [HBB.out, decide_eq_false (fun h => c1 h.1)], SW1⟩
    case rest =>
     clear SW1
     obtain ⟨rfl, SW1⟩ := hcut
     go_upto_if 185 with fail
     go_cut [] from 186 to 191 (fun wx => ∃ dn : Array α, dn.size = d.size ∧ Hid (dn.toList = X ++ (L1 ++ (R1 ++ (L2 ++ (R2 ++ Y))))) ∧ Hid (SWK enc 10 w0 blk off dn wx))
     case first =>
      cases bb
      ·have hno : ¬ (st < m ∧ m < en) := of_decide_eq_false HBB.out.symm
       have HNO : Hid (d.toList = X ++ (L1 ++ (R1 ++ (L2 ++ (R2 ++ Y))))) := by
        show _ = _
        have l2 : L2.length = m - st := HL2.out
        have r1 : R1.length = en - m := HR1.out
        rw [HDL.out]
        rcases (show L2.length = 0 ∨ R1.length = 0 by omega) with h | h
        ·rw [List.eq_nil_of_length_eq_zero h]; simp
        ·rw [List.eq_nil_of_length_eq_zero h]; simp
       go_wp2_with fail
       go_meet
       case rel => exact ⟨d, rfl, HNO, SW1⟩
      ·have hyes : st < m ∧ m < en := of_decide_eq_true HBB.out.symm
       obtain ⟨c1, c2⟩ := hyes
       have HCL : Hid _ := dgrot_any enc (.func (.func 99) #[] #[]) blk off cap st m en d0 d (X ++ (L1 ++ (R1 ++ (L2 ++ (R2 ++ Y))))) w0 wc R HSZ.out.symm SW1.out c1 c2 (by omega) (by rw [HSZ.out]; exact hsz) ⟨⟨X ++ L1, L2, R1, R2 ++ Y, by rw [HDL.out]; simp, by rw [List.length_append, HXL.out, HL1.out]; omega, by rw [HL2.out], by rw [HR1.out], by simp⟩⟩
       go_wp2_with fail
       refine Calls.mono HCL.out ?_
       rintro e v9 ⟨rfl, d9, hd9, S9⟩
       have HD9 : Hid (d9.toList = X ++ (L1 ++ (R1 ++ (L2 ++ (R2 ++ Y))))) := hd9
       have hz9 : d9.size = d.size := by
        have h1 : d9.toList.length = d.toList.length := by rw [HD9.out, HDL.out]; simp; omega
        simpa using h1
       have HS9 : Hid _ := S9
       clear hd9 S9
       go_wp2_with fail
       go_meet
       case rel => exact ⟨d9, hz9, HD9, HS9⟩
     case rest =>
      clear SW1 HBB
      obtain ⟨dn1, hdz1, HDN1, SWN1⟩ := hcut
      have SW2 : Hid _ := SWN1.out
      clear SWN1
      go_upto_region 41 with fail
      obtain ⟨bb, hbb⟩ : ∃ bb : Bool, bb = decide (a < st ∧ st < mid) := ⟨_, rfl⟩
      have HBB : Hid (bb = decide (a < st ∧ st < mid)) := hbb
      clear hbb
      go_cut [199] from 192 to 199 (fun y wx => y = .bool bb ∧ Hid (SWK enc 10 w0 blk off dn1 wx))
      case first =>
       by_cases c1 : a < st
       ·have z1 : decide ((a : Int) < (st : Int)) = true := decide_eq_true (by omega)
        by_cases c2 : st < mid
        ·have z2 : decide ((st : Int) < (mid : Int)) = true := decide_eq_true (by omega)
         go_wp2_with fail
         go_meet
         case rel => exact ⟨by rw [HBB.out, decide_eq_true (And.intro c1 c2)], SW2⟩
        ·have z2 : decide ((st : Int) < (mid : Int)) = false := decide_eq_false (by omega)
         go_wp2_with fail
         go_meet
         case rel => exact ⟨by rw [HBB.out, decide_eq_false (fun h => c2 h.2)], SW2⟩
       ·have z1 : decide ((a : Int) < (st : Int)) = false := decide_eq_false (by omega)
        go_wp2_with fail
        go_meet
        case rel => exact ⟨by rw [HBB.out, decide_eq_false (fun h => c1 h.1)], SW2⟩
      case rest =>
       clear SW2
       obtain ⟨rfl, SW2⟩ := hcut
       go_upto_if 199 with fail
       go_cut [] from 200 to 205 (fun wx => ∃ dn : Array α, dn.size = d.size ∧ Hid (dn.toList = X ++ (mgD (ltOf cf) L1 R1 ++ (L2 ++ (R2 ++ Y)))) ∧ Hid (SWK enc 10 w0 blk off dn wx))
       case first =>
        cases bb
        ·have hno : ¬ (a < st ∧ st < mid) := of_decide_eq_false HBB.out.symm
         have HNO : Hid (dn1.toList = X ++ (mgD (ltOf cf) L1 R1 ++ (L2 ++ (R2 ++ Y)))) := by
          show _ = _
          have l1 : L1.length = st - a := HL1.out
          have r1 : R1.length = en - m := HR1.out
          rw [HDN1.out]
          rcases (show L1.length = 0 ∨ R1.length = 0 by omega) with h | h
          ·rw [List.eq_nil_of_length_eq_zero h, mgD_nil]; simp
          ·rw [List.eq_nil_of_length_eq_zero h, mgD_nil']; simp
         go_wp2_with fail
         go_meet
         case rel => exact ⟨dn1, hdz1, HNO, SW2⟩
        ·have hyes : a < st ∧ st < mid := of_decide_eq_true HBB.out.symm
         obtain ⟨c1, c2⟩ := hyes
         have HCL : Hid _ := IH a st mid dn1 X L1 R1 (L2 ++ (R2 ++ Y)) wc (by omega) (by rw [hdz1]; exact HSZ.out) SW2.out (by omega) (by omega) (by omega) HDN1.out HXL.out HL1.out (by rw [HR1.out]; omega) HO1.out.1 HO1.out.2
         rw [hdz1] at HCL
         go_wp2_with fail
         refine Calls.mono HCL.out ?_
         rintro e v9 ⟨rfl, d9, hd9, S9⟩
         have HD9 : Hid (d9.toList = X ++ (mgD (ltOf cf) L1 R1 ++ (L2 ++ (R2 ++ Y)))) := hd9
         have hz9 : d9.size = d.size := by
          have h1 : d9.toList.length = dn1.toList.length := by rw [HD9.out, HDN1.out]; simp [mgD_len]; omega
          simpa [hdz1] using h1
         have HS9 : Hid _ := S9
         clear hd9 S9
         go_wp2_with fail
         go_meet
         case rel => exact ⟨d9, hz9, HD9, HS9⟩
       case rest =>
        clear SW2 HBB
        obtain ⟨dn2, hdz2, HDN2, SWN2⟩ := hcut
        have SW3 : Hid _ := SWN2.out
        clear SWN2
        go_upto_region 43 with fail
        obtain ⟨bb, hbb⟩ : ∃ bb : Bool, bb = decide (mid < en ∧ en < b) := ⟨_, rfl⟩
        have HBB : Hid (bb = decide (mid < en ∧ en < b)) := hbb
        clear hbb
        go_cut [213] from 206 to 213 (fun y wx => y = .bool bb ∧ Hid (SWK enc 10 w0 blk off dn2 wx))
        case first =>
         by_cases c1 : mid < en
         ·have z1 : decide ((mid : Int) < (en : Int)) = true := decide_eq_true (by omega)
          by_cases c2 : en < b
          ·have z2 : decide ((en : Int) < (b : Int)) = true := decide_eq_true (by omega)
           go_wp2_with fail
           go_meet
           case rel => exact ⟨by rw [HBB.out, decide_eq_true (And.intro c1 c2)], SW3⟩
          ·have z2 : decide ((en : Int) < (b : Int)) = false := decide_eq_false (by omega)
           go_wp2_with fail
           go_meet
           case rel => exact ⟨by rw [HBB.out, decide_eq_false (fun h => c2 h.2)], SW3⟩
         ·have z1 : decide ((mid : Int) < (en : Int)) = false := decide_eq_false (by omega)
          go_wp2_with fail
          go_meet
          case rel => exact ⟨by rw [HBB.out, decide_eq_false (fun h => c1 h.1)], SW3⟩
        case rest =>
         clear SW3
         obtain ⟨rfl, SW3⟩ := hcut
         cases bb
         ·have hno : ¬ (mid < en ∧ en < b) := of_decide_eq_false HBB.out.symm
          have HNO : Hid (dn2.toList = X ++ (mgD (ltOf cf) L1 R1 ++ (mgD (ltOf cf) L2 R2 ++ Y))) := by
           show _ = _
           have l2 : L2.length = m - st := HL2.out
           have r2 : R2.length = b - en := HR2.out
           rw [HDN2.out]
           rcases (show L2.length = 0 ∨ R2.length = 0 by omega) with h | h
           ·rw [List.eq_nil_of_length_eq_zero h, mgD_nil]; simp
           ·rw [List.eq_nil_of_length_eq_zero h, mgD_nil']; simp
          go_wp2_with fail
          go_end0
          exact ⟨rfl, dn2, by rw [HNO.out, HMC.out]; simp, SW3.out⟩
         ·have hyes : mid < en ∧ en < b := of_decide_eq_true HBB.out.symm
          obtain ⟨c1, c2⟩ := hyes
          have HCL : Hid _ := IH mid en b dn2 (X ++ mgD (ltOf cf) L1 R1) L2 R2 Y wc (by omega) (by rw [hdz2]; exact HSZ.out) SW3.out (by omega) (by omega) (by omega) (by rw [HDN2.out]; simp) (by rw [List.length_append, mgD_len, HL1.out, HR1.out, HXL.out]; omega) (by rw [HL2.out]; omega) (by rw [HR2.out]) HO2.out.1 HO2.out.2
          rw [hdz2] at HCL
          go_wp2_with fail
          refine Calls.mono HCL.out ?_
          rintro e v9 ⟨rfl, d9, hd9, S9⟩
          have HD9 : Hid (d9.toList = X ++ (mgD (ltOf cf) L1 R1 ++ (mgD (ltOf cf) L2 R2 ++ Y))) := by show _ = _; rw [hd9]; simp
          have HS9 : Hid _ := S9
          clear hd9 S9
          go_wp2_with fail
          go_end0
          exact ⟨rfl, d9, by rw [HD9.out, HMC.out]; simp, HS9.out⟩
theorem dgsym_any {α : Type} [Inhabited α] (enc : α → List Value) (cf : α → α → Int) (Wl : Wk (ltOf cf)) (blk off cap : Nat) (d0 : Array α) (w0 : World) (R : RowK enc 10 w0 blk off d0) (hC : CmpLays Try.prog 99 #[] enc 10 cf blk off d0.size w0) (hsz : d0.size < 4611686018427387904) :
  ∀ (n a' m' b' : Nat) (d' : Array α) (X' L' R' Y' : List α) (w' : World), b' - a' < n → d'.size = d0.size → SWK enc 10 w0 blk off d' w' → a' < m' → m' < b' → b' ≤ d'.size → d'.toList = X' ++ (L' ++ (R' ++ Y')) → X'.length = a' → L'.length = m' - a' → R'.length = b' - m' → Ord (ltOf cf) L' → Ord (ltOf cf) R' →
  Calls Try.prog 148 #[.slice (some ⟨blk, off, none⟩) d'.size cap, .int .i64 a', .int .i64 m', .int .i64 b', .func (.func 99) #[] #[]] w' fun e w'' => e = .returned (.tuple #[]) ∧ ∃ d'' : Array α, d''.toList = X' ++ (mgD (ltOf cf) L' R' ++ Y') ∧ SWK enc 10 w0 blk off d'' w''  := by
 intro n
 induction n with
 | zero => intro a m b d X L Rr Y w h; omega
 | succ n ih =>
  intro a m b d X L Rr Y w hn hs S0 ham hmb hb hd hX hL hR oL oR
  by_cases h0 : m - a = 1
  ·exact sya_any enc cf Wl blk off cap d0 w0 R hC hsz a m b d X L Rr Y w hs S0 ham hmb hb hd hX hL hR oL oR h0
  ·by_cases h1 : b - m = 1
   ·exact syb_any enc cf Wl blk off cap d0 w0 R hC hsz a m b d X L Rr Y w hs S0 ham hmb hb hd hX hL hR oL oR h0 h1
   ·exact syc_any enc cf Wl blk off cap d0 w0 R hC hsz a m b d X L Rr Y w hs S0 ham hmb hb hd hX hL hR oL oR h0 h1 (fun a' m' b' d' X' L' R' Y' w' h => ih a' m' b' d' X' L' R' Y' w' (by omega))
end Go.Proofs.Ytpnnpdfmoldiiaa

namespace Go.Proofs.Ytpnnpdfmoldiiaa
open Go.Shelf Go.RowKit Go.Lib Go.Sort
def Bl {α : Type} (lt : α → α → Bool) (s : Nat) (l : List α) : Prop := ∀ i, Ord lt ((l.drop (i * s)).take s)
theorem bl_nil {α : Type} {lt : α → α → Bool} (s : Nat) : Bl lt s ([] : List α) := fun i => by simp [Ord]
theorem bl_snoc {α : Type} {lt : α → α → Bool} {s k : Nat} {A M : List α} (hA : Bl lt s A) (hl : A.length = k * s) (hM : Ord lt M) (hm : M.length ≤ s) : Bl lt s (A ++ M) := by
 intro i
 rcases Nat.lt_trichotomy i k with h | h | h
 ·have h1 : i * s + s ≤ k * s := by
   have := Nat.mul_le_mul_right s (show i + 1 ≤ k from h)
   rwa [Nat.succ_mul] at this
  rw [List.drop_append_of_le_length (by omega), List.take_append_of_le_length (by rw [List.length_drop]; omega)]
  exact hA i
 ·subst h
  rw [← hl, List.drop_left]
  exact ord_take hM s
 ·have h1 : k * s + s ≤ i * s := by
   have := Nat.mul_le_mul_right s (show k + 1 ≤ i from h)
   rwa [Nat.succ_mul] at this
  rw [List.drop_eq_nil_of_le (by rw [List.length_append]; omega)]
  simp [Ord]
theorem bl_head {α : Type} {lt : α → α → Bool} {s : Nat} {l : List α} (h : Bl lt s l) : Ord lt (l.take s) := by
 have := h 0
 simpa using this
theorem bl_tail {α : Type} {lt : α → α → Bool} {s : Nat} {l : List α} (h : Bl lt s l) : Bl lt s (l.drop s) := by
 intro i
 have := h (i + 1)
 rw [List.drop_drop, show s + i * s = (i + 1) * s by rw [Nat.succ_mul]; omega]
 exact this
theorem bl_all {α : Type} {lt : α → α → Bool} {s : Nat} {l : List α} (h : Bl lt s l) (hl : l.length ≤ s) : Ord lt l := by
 have := bl_head h
 rwa [List.take_of_length_le hl] at this
structure Kp {α : Type} (lt : α → α → Bool) (l l0 : List α) : Prop where
 len : l.length = l0.length
 mem : ∀ x, x ∈ l ↔ x ∈ l0
 keep : ∀ p : α → Bool, (∀ x y, p x = true → p y = true → lt y x = false) → l.filter p = l0.filter p
theorem Kp.refl {α : Type} {lt : α → α → Bool} (l : List α) : Kp lt l l := ⟨rfl, fun _ => Iff.rfl, fun _ _ => rfl⟩
theorem Kp.trans {α : Type} {lt : α → α → Bool} {a b c : List α} (h : Kp lt a b) (k : Kp lt b c) : Kp lt a c := ⟨h.len.trans k.len, fun x => (h.mem x).trans (k.mem x), fun p hp => (h.keep p hp).trans (k.keep p hp)⟩
theorem Kp.app {α : Type} {lt : α → α → Bool} {a b c d : List α} (h : Kp lt a b) (k : Kp lt c d) : Kp lt (a ++ c) (b ++ d) :=
 ⟨by rw [List.length_append, List.length_append, h.len, k.len], fun x => by rw [List.mem_append, List.mem_append, h.mem, k.mem], fun p hp => by rw [List.filter_append, List.filter_append, h.keep p hp, k.keep p hp]⟩
theorem Kp.mg {α : Type} {lt : α → α → Bool} (W : Wk lt) {L R : List α} (oL : Ord lt L) : Kp lt (mgD lt L R) (L ++ R) :=
 ⟨by rw [mgD_len, List.length_append], fun x => by rw [mgD_mem _ (Nat.le_refl _), List.mem_append], fun p hp => by rw [mgD_keep W hp _ (Nat.le_refl _) oL, List.filter_append]⟩
theorem insD_mem {α : Type} {lt : α → α → Bool} : ∀ (B S : List α) (x : α), x ∈ insD lt S B ↔ x ∈ S ∨ x ∈ B
 | [], S, x => by simp [insD]
 | y :: B, S, x => by
  show x ∈ insD lt (mgD lt S [y]) B ↔ _
  rw [insD_mem B, mgD_mem _ (Nat.le_refl _)]
  simp only [List.mem_cons, List.not_mem_nil, or_false, or_assoc]
theorem Kp.ins {α : Type} {lt : α → α → Bool} (W : Wk lt) (B : List α) : Kp lt (insD lt [] B) B :=
 ⟨by rw [insD_len]; simp, fun x => by rw [insD_mem]; simp, fun p hp => by rw [insD_keep W hp (by simp [Ord])]; simp⟩
theorem insD_ord0 {α : Type} {lt : α → α → Bool} (W : Wk lt) (B : List α) : Ord lt (insD lt [] B) := insD_ord W (by simp [Ord])
end Go.Proofs.Ytpnnpdfmoldiiaa

namespace Go.Proofs.Ytpnnpdfmoldiiaa
set_option maxRecDepth 100000
open Go.Shelf Go.RowKit Go.Lib Go.Sort
structure Ph1 {α : Type} (lt : α → α → Bool) (D : List α) (s k : Nat) (d : Array α) : Prop where
 is : ∃ A C, d.toList = A ++ C ∧ A.length = k * s ∧ Bl lt s A ∧ Kp lt (A ++ C) D
structure Ph2 {α : Type} (lt : α → α → Bool) (D : List α) (s k : Nat) (d : Array α) : Prop where
 is : ∃ A C, d.toList = A ++ C ∧ A.length = k * (2 * s) ∧ Bl lt (2 * s) A ∧ Bl lt s C ∧ Kp lt (A ++ C) D
structure Ph {α : Type} (lt : α → α → Bool) (D : List α) (s : Nat) (d : Array α) : Prop where
 bl : Bl lt s d.toList
 kp : Kp lt d.toList D
theorem Ph1.step {α : Type} [Inhabited α] {lt : α → α → Bool} (W : Wk lt) {D : List α} {s k : Nat} {d : Array α} (h : Ph1 lt D s k d) {b : Nat} (hb : b = k * s + s) (hd : b ≤ d.size) : Ph1 lt D s (k + 1) (insertionSort lt d (k * s) b) := by
 obtain ⟨A, C, h1, h2, h3, h4⟩ := h.is
 have hs : d.size = A.length + C.length := by rw [← Array.length_toList, h1, List.length_append]
 have e : C = C.take s ++ C.drop s := (List.take_append_drop s C).symm
 have hl : (C.take s).length = s := by rw [List.length_take]; omega
 generalize C.take s = B at e hl
 generalize C.drop s = C2 at e
 subst e
 have hi := insSort_list W (a := k * s) (b := b) (A := A) (B := B) (C := C2) (d := d) h1 h2.symm (by rw [hl, h2]; exact hb)
 refine ⟨A ++ insD lt [] B, C2, by rw [hi]; simp, by rw [List.length_append, insD_len, h2, Nat.succ_mul]; simp [hl], bl_snoc h3 h2 (insD_ord0 W B) (by rw [insD_len]; simp [hl]), ?_⟩
 refine Kp.trans ?_ h4
 rw [List.append_assoc]
 exact (Kp.refl A).app ((Kp.ins W B).app (Kp.refl C2))
theorem Ph1.done {α : Type} [Inhabited α] {lt : α → α → Bool} (W : Wk lt) {D : List α} {s k : Nat} {d : Array α} (h : Ph1 lt D s k d) (hd : d.size < k * s + s) : Ph lt D s (insertionSort lt d (k * s) d.size) := by
 obtain ⟨A, C, h1, h2, h3, h4⟩ := h.is
 have hs : d.size = A.length + C.length := by rw [← Array.length_toList, h1, List.length_append]
 have hi := insSort_list W (a := k * s) (b := d.size) (A := A) (B := C) (C := []) (d := d) (by rw [h1]; simp) h2.symm hs
 rw [List.append_nil] at hi
 refine ⟨by rw [hi]; exact bl_snoc h3 h2 (insD_ord0 W C) (by rw [insD_len]; simp; omega), ?_⟩
 rw [hi]
 exact Kp.trans ((Kp.refl A).app (Kp.ins W C)) h4
theorem Ph2.start {α : Type} {lt : α → α → Bool} {D : List α} {s : Nat} {d : Array α} (h : Ph lt D s d) : Ph2 lt D s 0 d := ⟨⟨[], d.toList, rfl, by simp, bl_nil _, h.bl, h.kp⟩⟩
theorem Ph2.none {α : Type} {lt : α → α → Bool} {D : List α} {s k : Nat} {d : Array α} (h : Ph2 lt D s k d) (hd : d.size ≤ k * (2 * s) + s) : Ph lt D (2 * s) d := by
 obtain ⟨A, C, h1, h2, h3, h4, h5⟩ := h.is
 have hs : d.size = A.length + C.length := by rw [← Array.length_toList, h1, List.length_append]
 rw [← h1] at h5
 refine ⟨?_, h5⟩
 rw [h1]
 exact bl_snoc h3 h2 (bl_all h4 (by omega)) (by omega)
theorem Ph2.next {α : Type} {lt : α → α → Bool} (W : Wk lt) {D : List α} {s k : Nat} {d : Array α} (h : Ph2 lt D s k d) {b : Nat} (hb : b = k * (2 * s) + 2 * s) (hd : b ≤ d.size) :
  ∃ X L R Y, d.toList = X ++ (L ++ (R ++ Y)) ∧ X.length = k * (2 * s) ∧ L.length = s ∧ R.length = s ∧ Ord lt L ∧ Ord lt R ∧ ∀ d' : Array α, d'.toList = X ++ (mgD lt L R ++ Y) → Ph2 lt D s (k + 1) d' := by
 obtain ⟨A, C, h1, h2, h3, h4, h5⟩ := h.is
 have hs : d.size = A.length + C.length := by rw [← Array.length_toList, h1, List.length_append]
 have e1 : C = C.take s ++ C.drop s := (List.take_append_drop s C).symm
 have l1 : (C.take s).length = s := by rw [List.length_take]; omega
 have o1 := bl_head h4
 have b1 := bl_tail h4
 have hl : (C.drop s).length = C.length - s := List.length_drop
 generalize C.take s = L at e1 l1 o1
 generalize C.drop s = C1 at e1 b1 hl
 have e2 : C1 = C1.take s ++ C1.drop s := (List.take_append_drop s C1).symm
 have l2 : (C1.take s).length = s := by rw [List.length_take]; omega
 have o2 := bl_head b1
 have b2 := bl_tail b1
 generalize C1.take s = R at e2 l2 o2
 generalize C1.drop s = Y at e2 b2
 subst e2
 subst e1
 refine ⟨A, L, R, Y, h1, h2, l1, l2, o1, o2, fun d' hd' => ⟨A ++ mgD lt L R, Y, by rw [hd']; simp, by rw [List.length_append, mgD_len, h2, Nat.succ_mul k (2 * s)]; omega, bl_snoc h3 h2 (mgD_ord W _ (Nat.le_refl _) o1 o2) (by rw [mgD_len]; omega), b2, ?_⟩⟩
 refine Kp.trans ?_ h5
 have := (Kp.refl A).app (((Kp.mg W (R := R) o1)).app (Kp.refl Y))
 simpa using this
theorem Ph2.last {α : Type} {lt : α → α → Bool} (W : Wk lt) {D : List α} {s k : Nat} {d : Array α} (h : Ph2 lt D s k d) (hd : k * (2 * s) + s < d.size) (hd2 : d.size < k * (2 * s) + 2 * s) :
  ∃ X L R, d.toList = X ++ (L ++ (R ++ [])) ∧ X.length = k * (2 * s) ∧ L.length = s ∧ R.length = d.size - (k * (2 * s) + s) ∧ Ord lt L ∧ Ord lt R ∧ ∀ d' : Array α, d'.toList = X ++ (mgD lt L R ++ []) → Ph lt D (2 * s) d' := by
 obtain ⟨A, C, h1, h2, h3, h4, h5⟩ := h.is
 have hs : d.size = A.length + C.length := by rw [← Array.length_toList, h1, List.length_append]
 have e1 : C = C.take s ++ C.drop s := (List.take_append_drop s C).symm
 have l1 : (C.take s).length = s := by rw [List.length_take]; omega
 have o1 := bl_head h4
 have hl : (C.drop s).length = C.length - s := List.length_drop
 have o2 := bl_all (bl_tail h4) (by rw [hl]; omega)
 generalize C.take s = L at e1 l1 o1
 generalize C.drop s = R at e1 hl o2
 subst e1
 refine ⟨A, L, R, by rw [h1]; simp, h2, l1, by omega, o1, o2, fun d' hd' => ?_⟩
 rw [List.append_nil] at hd'
 refine ⟨?_, ?_⟩
 ·rw [hd']
  exact bl_snoc h3 h2 (mgD_ord W _ (Nat.le_refl _) o1 o2) (by rw [mgD_len]; omega)
 ·rw [hd']
  exact Kp.trans ((Kp.refl A).app (Kp.mg W o1)) h5
theorem wk_swo {α : Type} {lt : α → α → Bool} (h : SWO lt) : Wk lt := by
 refine ⟨fun x y hx => ?_, fun x y z h1 h2 => h.ntrans z y x h2 h1⟩
 cases hy : lt y x
 ·rfl
 ·have := h.trans x y x hx hy
  rw [h.irrefl] at this
  cases this
theorem ins_size {α : Type} [Inhabited α] {lt : α → α → Bool} (h : SWO lt) (d : Array α) (a b : Nat) (hab : a ≤ b) (hb : b ≤ d.size) : (insertionSort lt d a b).size = d.size := (insertionSort_holds h d a b hab hb).1.1
set_option maxHeartbeats 2000000 in
theorem dgstable_any {α : Type} [Inhabited α] (enc : α → List Value) (cf : α → α → Int) (hO : SWO (ltOf cf)) (blk off cap : Nat) (d : Array α) (w : World) (R : RowK enc 10 w blk off d) (hC : CmpLays Try.prog 99 #[] enc 10 cf blk off d.size w) (hsz : d.size < 1152921504606846976) (S0 : SWK enc 10 w blk off d w) :
  Calls Try.prog 133 #[.slice (some ⟨blk, off, none⟩) d.size cap, .int .i64 d.size, .func (.func 99) #[] #[]] w fun e w' => e = .returned (.tuple #[]) ∧ ∃ d' : Array α, Ord (ltOf cf) d'.toList ∧ Kp (ltOf cf) d'.toList d.toList ∧ SWK enc 10 w blk off d' w' := by
 have Wl : Wk (ltOf cf) := wk_swo hO
 have eg : ∀ args w, (callFunc 99 args).run Try.prog w = .ok (.enter 99 args) w := enters_of Try.func99 (by kernel_rfl) rfl
 have HIN : Hid (∀ (a b : Nat) (dk : Array α) (W : World), d.size = dk.size → SWK enc 10 w blk off dk W → a ≤ b → b ≤ dk.size → Calls Try.prog 147 #[.slice (some ⟨blk, off, none⟩) d.size cap, .int .i64 a, .int .i64 b, .func (.func 99) #[] #[]] W fun e w' => e = .returned (.tuple #[]) ∧ SWK enc 10 w blk off (insertionSort (ltOf cf) dk a b) w') := fun a b dk W hs S hab hb => by
  have := AnyQ.insertionSortCmpFunc_w Try.insDg 10 Try.isAgg27 Try.sizeOf27 enc cf 99 #[] blk off cap a b d dk w W eg hC R hs S hO hab hb (by omega)
  rw [← hs] at this
  exact this
 have HSY : Hid (∀ (a m b : Nat) (dk : Array α) (X L Rr Y : List α) (W : World), dk.size = d.size → SWK enc 10 w blk off dk W → a < m → m < b → b ≤ dk.size → dk.toList = X ++ (L ++ (Rr ++ Y)) → X.length = a → L.length = m - a → Rr.length = b - m → Ord (ltOf cf) L → Ord (ltOf cf) Rr →
   Calls Try.prog 148 #[.slice (some ⟨blk, off, none⟩) d.size cap, .int .i64 a, .int .i64 m, .int .i64 b, .func (.func 99) #[] #[]] W fun e w'' => e = .returned (.tuple #[]) ∧ ∃ d'' : Array α, d''.toList = X ++ (mgD (ltOf cf) L Rr ++ Y) ∧ SWK enc 10 w blk off d'' w'') := fun a m b dk X L Rr Y W hs S h1 h2 h3 h4 h5 h6 h7 h8 h9 => by
  have := dgsym_any enc cf Wl blk off cap d w R hC (by omega) (b - a + 1) a m b dk X L Rr Y W (by omega) hs S h1 h2 h3 h4 h5 h6 h7 h8 h9
  rw [hs] at this
  exact this
 have SW0 : Hid _ := S0
 clear S0 hC R eg
 go_enter Try.func133, Try.ntmps133
 go_wp2_with fail
 go_loopw [7, 8] (fun y z wr => ∃ (k : Nat) (dk : Array α), y = .int .i64 ((k * 20 : Nat) : Int) ∧ z = .int .i64 ((k * 20 + 20 : Nat) : Int) ∧ k * 20 ≤ d.size ∧ dk.size = d.size ∧ Hid (Ph1 (ltOf cf) d.toList 20 k dk) ∧ Hid (SWK enc 10 w blk off dk wr)) (fun y _ _ => ((d.size : Int) - intOf y).toNat)
 case atStart => exact ⟨0, d, rfl, rfl, by omega, rfl, ⟨⟨[], d.toList, rfl, rfl, bl_nil _, Kp.refl _⟩⟩, SW0⟩
 case round =>
  clear SW0
  obtain ⟨k, dk, rfl, rfl, hkd, hz, HP, SW⟩ := hrel
  obtain ⟨a, ha⟩ : ∃ a, a = k * 20 := ⟨_, rfl⟩
  obtain ⟨b, hb⟩ : ∃ b, b = k * 20 + 20 := ⟨_, rfl⟩
  rw [← hb, ← ha]
  have hab : b = a + 20 := by omega
  by_cases hbn : b ≤ d.size
  ·have g1 : decide ((b : Int) ≤ (d.size : Int)) = true := decide_eq_true (by omega)
   have HC : Hid _ := HIN.out a b dk wr hz.symm SW.out (by omega) (by omega)
   have HN : Hid (Ph1 (ltOf cf) d.toList 20 (k + 1) (insertionSort (ltOf cf) dk a b)) := by
    show Ph1 _ _ _ _ _
    rw [ha]
    exact HP.out.step Wl hb (by omega)
   have HZ : Hid ((insertionSort (ltOf cf) dk a b).size = d.size) := by show _ = _; rw [ins_size hO dk a b (by omega) (by omega), hz]
   have HAB : Hid (a = k * 20 ∧ b = k * 20 + 20) := ⟨ha, hb⟩
   obtain ⟨b2, hb2⟩ : ∃ b2, b2 = b + 20 := ⟨_, rfl⟩
   have eb : (b : Int) + 20 = (b2 : Int) := by omega
   have HB2 : Hid (b2 = b + 20) := hb2
   clear hb2
   clear ha hb HP SW hz hkd hab
   go_wp2_with fail
   refine Calls.mono HC.out ?_
   rintro e w1 ⟨rfl, S1⟩
   have SW1 : Hid _ := S1
   clear S1
   go_wp2_with fail
   go_roundw
   case rel =>
    have h1 := HAB.out
    have h2 : b2 = b + 20 := HB2.out
    exact ⟨k + 1, _, by rw [show (k + 1) * 20 = b by omega], by rw [show (k + 1) * 20 + 20 = b2 by omega], by omega, HZ.out, HN, SW1⟩
   case measure => have := HAB.out; simp [intOf]; omega
  ·have g1 : decide ((b : Int) ≤ (d.size : Int)) = false := decide_eq_false (by omega)
   have HC : Hid _ := HIN.out a dk.size dk wr hz.symm SW.out (by omega) (Nat.le_refl _)
   have HN : Hid (Ph (ltOf cf) d.toList 20 (insertionSort (ltOf cf) dk a dk.size)) := by
    show Ph _ _ _ _
    rw [ha]
    exact HP.out.done Wl (by omega)
   have HZ : Hid ((insertionSort (ltOf cf) dk a dk.size).size = d.size) := by show _ = _; rw [ins_size hO dk a dk.size (by omega) (Nat.le_refl _), hz]
   rw [hz] at HC HN HZ
   clear ha hb HP SW hz hkd hab
   go_wp2_with fail
   refine Calls.mono HC.out ?_
   rintro e w1 ⟨rfl, S1⟩
   have SW1 : Hid _ := S1
   clear S1 HC
   generalize insertionSort (ltOf cf) dk a d.size = d1 at HN HZ SW1
   go_wp2_with fail
   go_loopw [6] (fun y wr => ∃ (s : Nat) (dk : Array α), y = .int .i64 (s : Int) ∧ 0 < s ∧ s ≤ 2 * d.size + 20 ∧ dk.size = d.size ∧ Hid (Ph (ltOf cf) d.toList s dk) ∧ Hid (SWK enc 10 w blk off dk wr)) (fun y _ => ((d.size : Int) - intOf y).toNat)
   case atStart => exact ⟨20, d1, rfl, by omega, by omega, HZ.out, HN, SW1⟩
   case round =>
    clear HZ HN SW1
    obtain ⟨s, dk, rfl, hs0, hs1, hz, HP, SW⟩ := hrel
    by_cases hsn : s < d.size
    ·have g2 : decide ((s : Int) < (d.size : Int)) = true := decide_eq_true (by omega)
     obtain ⟨s2, hs2⟩ : ∃ s2, s2 = 2 * s := ⟨_, rfl⟩
     have es2 : (2 : Int) * (s : Int) = (s2 : Int) := by omega
     have es3 : (s : Int) * 2 = (s2 : Int) := by omega
     have HS2 : Hid (s2 = 2 * s) := hs2
     have hs2b : s2 ≤ 4 * d.size + 40 := by omega
     have hs2c : s < s2 := by omega
     have HP2 : Hid (Ph2 (ltOf cf) d.toList s 0 dk) := Ph2.start HP.out
     clear hs2 HP
     go_wp2_with fail
     go_loopw [7, 8] (fun y z wr => ∃ (k a b : Nat) (dn : Array α), y = .int .i64 (a : Int) ∧ z = .int .i64 (b : Int) ∧ a ≤ d.size ∧ Hid (b = a + s2) ∧ Hid (a = k * (2 * s)) ∧ dn.size = d.size ∧ Hid (Ph2 (ltOf cf) d.toList s k dn) ∧ Hid (SWK enc 10 w blk off dn wr)) (fun y _ _ => ((d.size : Int) - intOf y).toNat)
     case atStart => exact ⟨0, 0, s2, dk, rfl, rfl, by omega, by show s2 = 0 + s2; omega, by show 0 = 0 * (2 * s); omega, hz, HP2, SW⟩
     case round =>
      clear HP2 SW hz
      obtain ⟨k, a, b, dn, rfl, rfl, had, HBS, HAK, hz, HP, SW⟩ := hrel
      have hbs1 : b ≤ a + s2 := Nat.le_of_eq HBS.out
      have hbs2 : a + s2 ≤ b := Nat.le_of_eq HBS.out.symm
      by_cases hbn : b ≤ d.size
      ·have g3 : decide ((b : Int) ≤ (d.size : Int)) = true := decide_eq_true (by omega)
       obtain ⟨m, hm⟩ : ∃ m, m = a + s := ⟨_, rfl⟩
       have em : (a : Int) + (s : Int) = (m : Int) := by omega
       obtain ⟨b2, hb2⟩ : ∃ b2, b2 = b + s2 := ⟨_, rfl⟩
       have eb2 : (b : Int) + (s2 : Int) = (b2 : Int) := by omega
       obtain ⟨X, L, Rr, Y, q1, q2, q3, q4, q5, q6, q7⟩ := HP.out.next Wl (b := b) (by have h1 : s2 = 2 * s := HS2.out; have h2 : a = k * (2 * s) := HAK.out; omega) (by omega)
       have HC : Hid _ := HSY.out a m b dn X L Rr Y wr hz SW.out (by omega) (by have h1 : s2 = 2 * s := HS2.out; omega) (by omega) q1 (by rw [q2]; exact HAK.out.symm) (by omega) (by have h1 : s2 = 2 * s := HS2.out; omega) q5 q6
       have HQ7 : Hid _ := q7
       have HLS : Hid (∀ d' : Array α, d'.toList = X ++ (mgD (ltOf cf) L Rr ++ Y) → d'.size = d.size) := fun d' h => by
        have h1 : d'.toList.length = dn.toList.length := by rw [h, q1]; simp [mgD_len]; omega
        simpa [hz] using h1
       have HMB : Hid (m = a + s ∧ b2 = b + s2) := ⟨hm, hb2⟩
       have hb2b : b2 ≤ 5 * d.size + 40 := by omega
       clear q1 q2 q3 q4 q5 q6 q7 HP SW hm hb2 hz
       go_wp2_with fail
       refine Calls.mono HC.out ?_
       rintro e w1 ⟨rfl, d2, hd2, S1⟩
       have SW1 : Hid _ := S1
       have HN : Hid _ := HQ7.out d2 hd2
       have HZ : Hid _ := HLS.out d2 hd2
       clear S1 hd2
       go_wp2_with fail
       go_roundw
       case rel =>
        have h1 := HMB.out
        have h2 : a = k * (2 * s) := HAK.out
        have h3 : s2 = 2 * s := HS2.out
        exact ⟨k + 1, b, b2, d2, rfl, rfl, by omega, by show b2 = b + s2; omega, by show b = (k + 1) * (2 * s); rw [Nat.succ_mul k (2 * s)]; omega, HZ.out, HN, SW1⟩
       case measure => simp [intOf]; omega
      ·have g3 : decide ((b : Int) ≤ (d.size : Int)) = false := decide_eq_false (by omega)
       obtain ⟨m, hm⟩ : ∃ m, m = a + s := ⟨_, rfl⟩
       have em : (a : Int) + (s : Int) = (m : Int) := by omega
       by_cases hmn : m < d.size
       ·have g4 : decide ((m : Int) < (d.size : Int)) = true := decide_eq_true (by omega)
        obtain ⟨X, L, Rr, q1, q2, q3, q4, q5, q6, q7⟩ := HP.out.last Wl (by have h2 : a = k * (2 * s) := HAK.out; omega) (by have h1 : s2 = 2 * s := HS2.out; have h2 : a = k * (2 * s) := HAK.out; omega)
        have HC : Hid _ := HSY.out a m dn.size dn X L Rr [] wr hz SW.out (by omega) (by omega) (Nat.le_refl _) q1 (by rw [q2]; exact HAK.out.symm) (by omega) (by have h2 : a = k * (2 * s) := HAK.out; rw [q4, ← h2, hm]) q5 q6
        rw [hz] at HC
        have HQ7 : Hid _ := q7
        have HLS : Hid (∀ d' : Array α, d'.toList = X ++ (mgD (ltOf cf) L Rr ++ []) → d'.size = d.size) := fun d' h => by
         have h1 : d'.toList.length = dn.toList.length := by rw [h, q1]; simp [mgD_len]
         simpa [hz] using h1
        have hmb : m ≤ 4 * d.size + 40 := by omega
        clear q1 q2 q3 q4 q5 q6 q7 HP SW hm hz
        go_wp2_with fail
        refine Calls.mono HC.out ?_
        rintro e w1 ⟨rfl, d2, hd2, S1⟩
        have SW1 : Hid _ := S1
        have HN : Hid (Ph (ltOf cf) d.toList s2 d2) := by show Ph _ _ _ _; rw [HS2.out]; exact HQ7.out d2 hd2
        have HZ : Hid _ := HLS.out d2 hd2
        clear S1 hd2
        go_wp2_with fail
        go_roundw
        case rel => exact ⟨s2, d2, rfl, by omega, by have h1 : s2 = 2 * s := HS2.out; omega, HZ.out, HN, SW1⟩
        case measure => simp [intOf]; omega
       ·have g4 : decide ((m : Int) < (d.size : Int)) = false := decide_eq_false (by omega)
        have HN : Hid (Ph (ltOf cf) d.toList s2 dn) := by show Ph _ _ _ _; rw [HS2.out]; exact HP.out.none (by have h2 : a = k * (2 * s) := HAK.out; omega)
        have hmb : m ≤ 4 * d.size + 40 := by omega
        clear HP hm
        go_wp2_with fail
        go_roundw
        case rel => exact ⟨s2, dn, rfl, by omega, by have h1 : s2 = 2 * s := HS2.out; omega, hz, HN, SW⟩
        case measure => simp [intOf]; omega
    ·have g2 : decide ((s : Int) < (d.size : Int)) = false := decide_eq_false (by omega)
     have HFO : Hid (Ord (ltOf cf) dk.toList) := bl_all HP.out.bl (by rw [Array.length_toList]; omega)
     go_wp2_with fail
     go_end0
     exact ⟨rfl, dk, HFO.out, HP.out.kp, SW.out⟩
end Go.Proofs.Ytpnnpdfmoldiiaa
