/- Items of several texts. -/
import Derived.Deep.CutRange
import Derived.Test.YtpnnpdfmoldiiabASyb
namespace Go.Proofs.Ytpnnpdfmoldiiab
set_option maxRecDepth 100000
open Go.Shelf Go.RowKit Go.Lib Go.Sort
structure Lh (a m b mid nn lo hi : Nat) : Prop where
 is : (mid < m ∧ lo = nn - b ∧ hi = mid) ∨ (m ≤ mid ∧ lo = a ∧ hi = m)
set_option maxHeartbeats 2000000 in
theorem syc_any {α : Type} [Inhabited α] (enc : α → List Value) (cf : α → α → Int) (Wl : Wk (ltOf cf)) (blk off cap : Nat) (d0 : Array α) (w0 : World) (R : RowK enc 10 w0 blk off d0) (hC : CmpLays Try.prog 37 #[] enc 10 cf blk off d0.size w0) (hsz : d0.size < 4611686018427387904)
  (a m b : Nat) (d : Array α) (X L Rr Y : List α) (w : World) (hs : d.size = d0.size) (S0 : SWK enc 10 w0 blk off d w) (ham : a < m) (hmb : m < b) (hb : b ≤ d.size) (hd : d.toList = X ++ (L ++ (Rr ++ Y))) (hX : X.length = a) (hL : L.length = m - a) (hR : Rr.length = b - m) (oL : Ord (ltOf cf) L) (oR : Ord (ltOf cf) Rr) (h0 : m - a ≠ 1) (h1 : b - m ≠ 1)
  (IH : ∀ (a' m' b' : Nat) (d' : Array α) (X' L' R' Y' : List α) (w' : World), b' - a' < b - a → d'.size = d0.size → SWK enc 10 w0 blk off d' w' → a' < m' → m' < b' → b' ≤ d'.size → d'.toList = X' ++ (L' ++ (R' ++ Y')) → X'.length = a' → L'.length = m' - a' → R'.length = b' - m' → Ord (ltOf cf) L' → Ord (ltOf cf) R' →
  Calls Try.prog 80 #[.slice (some ⟨blk, off, none⟩) d'.size cap, .int .i64 a', .int .i64 m', .int .i64 b', .func (.func 37) #[] #[]] w' fun e w'' => e = .returned (.tuple #[]) ∧ ∃ d'' : Array α, d''.toList = X' ++ (mgD (ltOf cf) L' R' ++ Y') ∧ SWK enc 10 w0 blk off d'' w'' ) :
  Calls Try.prog 80 #[.slice (some ⟨blk, off, none⟩) d.size cap, .int .i64 a, .int .i64 m, .int .i64 b, .func (.func 37) #[] #[]] w fun e w' => e = .returned (.tuple #[]) ∧ ∃ d' : Array α, d'.toList = X ++ (mgD (ltOf cf) L Rr ++ Y) ∧ SWK enc 10 w0 blk off d' w' := by
 have ma : ((m : Int) - (a : Int) == 1) = false := by simp; omega
 have bm : ((b : Int) - (m : Int) == 1) = false := by simp; omega
 obtain ⟨mid, hmid⟩ : ∃ mid : Nat, mid = (a + b) / 2 := ⟨_, rfl⟩
 have emid : ((a : Int) + (b : Int)) / 2 = (mid : Int) := by omega
 have hm1 : 2 * mid ≤ a + b := by omega
 have hm2 : a + b ≤ 2 * mid + 1 := by omega
 obtain ⟨nn, hnn⟩ : ∃ nn : Nat, nn = mid + m := ⟨_, rfl⟩
 have enn : (mid : Int) + (m : Int) = (nn : Int) := by omega
 obtain ⟨pp, hpp⟩ : ∃ pp : Nat, pp = nn - 1 := ⟨_, rfl⟩
 have epp : (nn : Int) - 1 = (pp : Int) := by omega
 have HD : Hid _ := hd
 have SW0 : Hid _ := S0
 have HSZ : Hid (d.size = d0.size) := hs
 have HXL : Hid _ := hX
 have HLL : Hid _ := hL
 have HRL : Hid _ := hR
 have HOL : Hid _ := oL
 have HOR : Hid _ := oR
 have HGL : Hid (∀ i, i < L.length → d[a + i]! = L[i]!) := fun i hi => by
  have := arr_at (d := d) (A := X) (B := L ++ (Rr ++ Y)) hd (i := i) (by rw [List.length_append]; omega)
  rw [hX] at this
  rw [this, getElem!_pos (L ++ (Rr ++ Y)) i (by rw [List.length_append]; omega), getElem!_pos L i hi, List.getElem_append_left hi]
 have HGR : Hid (∀ i, i < Rr.length → d[m + i]! = Rr[i]!) := fun i hi => by
  have := arr_at (d := d) (A := X ++ L) (B := Rr ++ Y) (by rw [hd]; simp) (i := i) (by rw [List.length_append]; omega)
  have e2 : (X ++ L).length = m := by rw [List.length_append]; omega
  rw [e2] at this
  rw [this, getElem!_pos (Rr ++ Y) i (by rw [List.length_append]; omega), getElem!_pos Rr i hi, List.getElem_append_left hi]
 have HMN : Hid (nn = mid + m ∧ pp = nn - 1) := ⟨hnn, hpp⟩
 have hn2 : nn < 9223372036854775807 := by have : d.size = d0.size := hs; omega
 have hb2 : b < 4611686018427387904 := by omega
 clear hd S0 hs hX hL hR oL oR hmid hnn hpp
 go_enter Try.func80, Try.ntmps80
 go_upto_if 140 with fail
 go_cut [20, 21] from 141 to 146 (fun y z wx => ∃ lo hi : Nat, y = .int .i64 (lo : Int) ∧ z = .int .i64 (hi : Int) ∧ Hid (Lh a m b mid nn lo hi) ∧ wx = w)
 case first =>
  have hq := HMN.out
  by_cases hmm : mid < m
  ·have g1 : decide ((m : Int) > (mid : Int)) = true := decide_eq_true (by omega)
   obtain ⟨lo, hlo⟩ : ∃ lo, lo = nn - b := ⟨_, rfl⟩
   have elo : (nn : Int) - (b : Int) = (lo : Int) := by omega
   have HLH : Hid (Lh a m b mid nn lo mid) := ⟨.inl ⟨hmm, hlo, rfl⟩⟩
   clear hq hlo
   go_wp2_with fail
   go_meet
   case rel => exact ⟨lo, mid, rfl, rfl, HLH, rfl⟩
  ·have g1 : decide ((m : Int) > (mid : Int)) = false := decide_eq_false (by omega)
   have HLH : Hid (Lh a m b mid nn a m) := ⟨.inr ⟨by omega, rfl, rfl⟩⟩
   clear hq
   go_wp2_with fail
   go_meet
   case rel => exact ⟨a, m, rfl, rfl, HLH, rfl⟩
 case rest =>
  obtain ⟨lo, hi, rfl, rfl, HLH, hwx⟩ := hcut
  have SWc : Hid (SWK enc 10 w0 blk off d wc) := by show SWK _ _ _ _ _ _ _; rw [hwx]; exact SW0.out
  clear SW0 hwx
  have hlo1 : a ≤ lo := by have := HLH.out.is; have := HMN.out; omega
  have hlo2 : lo ≤ hi := by have := HLH.out.is; have := HMN.out; omega
  have hhi1 : hi ≤ m := by have := HLH.out.is; have := HMN.out; omega
  have hhi2 : hi ≤ mid := by have := HLH.out.is; have := HMN.out; omega
  go_wp2_with fail
  go_loopw [20, 21] (fun y z wr => ∃ i j : Nat, y = .int .i64 (i : Int) ∧ z = .int .i64 (j : Int) ∧ lo ≤ i ∧ i ≤ j ∧ j ≤ hi ∧ (lo < i → ltOf cf d[pp - (i - 1)]! d[i - 1]! = false) ∧ (j < hi → ltOf cf d[pp - j]! d[j]! = true) ∧ SWK enc 10 w0 blk off d wr) (fun y z _ => (intOf z - intOf y).toNat)
  case atStart => exact ⟨lo, hi, rfl, rfl, by omega, by omega, by omega, fun h => by omega, fun h => by omega, SWc.out⟩
  case round =>
   clear SWc
   obtain ⟨i, j, rfl, rfl, hmi, hij, hjb, hlo, hhi, S1⟩ := hrel
   have SW : Hid _ := S1
   have HLO : Hid _ := hlo
   have HHI : Hid _ := hhi
   clear S1 hlo hhi
   by_cases hlt : i < j
   ·have e1 : decide ((i : Int) < (j : Int)) = true := decide_eq_true (by omega)
    obtain ⟨c, hc0⟩ : ∃ c : Nat, c = (i + j) / 2 := ⟨_, rfl⟩
    have hhc : ((i : Int) + (j : Int)) / 2 = (c : Int) := by omega
    have hh1 : i ≤ c := by omega
    have hh2 : c < j := by omega
    clear hc0
    obtain ⟨pc, hpc⟩ : ∃ pc, pc = pp - c := ⟨_, rfl⟩
    have epc : (pp : Int) - (c : Int) = (pc : Int) := by have := HMN.out; omega
    have HPD : Hid (pc < d.size) := by have := HMN.out; have := HLH.out.is; show _ < _; omega
    have HCD : Hid (c < d.size) := by show _ < _; omega
    have hpd : pc < d.size := HPD.out
    have hcd : c < d.size := HCD.out
    have HPC : Hid (pc = pp - c) := hpc
    clear hpc
    have HLc1 : Hid (∀ W, SWK enc 10 w0 blk off d W → Sem.run Try.prog (loadCellsFrom ⟨blk, off + pc * 10, none⟩ 0 10 #[]) W = .ok (enc d[pc]!).toArray W) := fun W hW => SWK.load hW R HSZ.out Try.prog pc HPD.out
    have HLc2 : Hid (∀ W, SWK enc 10 w0 blk off d W → Sem.run Try.prog (loadCellsFrom ⟨blk, off + c * 10, none⟩ 0 10 #[]) W = .ok (enc d[c]!).toArray W) := fun W hW => SWK.load hW R HSZ.out Try.prog c HCD.out
    have HCM : Hid (∀ W, SWK enc 10 w0 blk off d W → Calls Try.prog 37 #[.agg (enc d[pc]!).toArray, .agg (enc d[c]!).toArray] W fun e w' => e = .returned (.int .i64 (cf d[pc]! d[c]!)) ∧ SWK enc 10 w0 blk off d w') := fun W hW => cmp_at hW hC HSZ.out d[pc]! d[c]!
    have HLT : Hid (ltOf cf d[pc]! d[c]! = decide (cf d[pc]! d[c]! < 0)) := rfl
    generalize enc d[pc]! = c1 at HLc1 HCM
    generalize enc d[c]! = c2 at HLc2 HCM
    generalize cf d[pc]! d[c]! = q at HCM HLT
    go_upto_region 35 with fail
    refine wp_region_held_drew (S := SWK enc 10 w0 blk off d) (by kernel_rfl) (SWK.drew SW.out) (fun hS => ?_)
    refine take_at (i := 0) 158 (v := .func (.func 37) #[] #[]) rfl rfl (by kernel_rfl) (by kernel_rfl) (by kernel_rfl) (fun _ _ _ h => h) (Or.inl ⟨by rfl, fun w' hw' => by go_simp⟩) hS ?_
    simp only [Act.put, lsA, lsZ, lsS]
    refine take_at (i := 1) 159 (v := .slice (some ⟨blk, off, none⟩) d.size cap) rfl rfl (by kernel_rfl) (by kernel_rfl) (by kernel_rfl) (fun _ _ _ h => h) (Or.inl ⟨by rfl, fun w' hw' => by go_simp⟩) hS ?_
    simp only [Act.put, lsA, lsZ, lsS]
    refine take_at (i := 2) 160 (v := .int .i64 (pp : Int)) rfl rfl (by kernel_rfl) (by kernel_rfl) (by kernel_rfl) (fun _ _ _ h => h) (Or.inl ⟨by rfl, fun w' hw' => by go_simp⟩) hS ?_
    simp only [Act.put, lsA, lsZ, lsS]
    refine take_at (i := 3) 161 (v := .int .i64 (c : Int)) rfl rfl (by kernel_rfl) (by kernel_rfl) (by kernel_rfl) (fun _ _ _ h => h) (Or.inl ⟨by rfl, fun w' hw' => by go_simp⟩) hS ?_
    simp only [Act.put, lsA, lsZ, lsS]
    refine take_at (i := 4) 162 (v := .int .i64 (pc : Int)) rfl rfl (by kernel_rfl) (by kernel_rfl) (by kernel_rfl) (fun _ _ _ h => h) (Or.inl ⟨by rfl, fun w' hw' => by go_simp <;> (rw [IntKind.wrap_i64]; omega)⟩) hS ?_
    simp only [Act.put, lsA, lsZ, lsS]
    refine take_at (i := 5) 163 (v := .pointer (some ⟨blk, off + (pc) * 10, none⟩)) rfl rfl (by kernel_rfl) (by kernel_rfl) (by kernel_rfl) (fun _ _ _ h => h) (Or.inl ⟨by rfl, fun w' hw' => by go_simp⟩) hS ?_
    simp only [Act.put, lsA, lsZ, lsS]
    refine take_at (i := 7) 165 (v := .slice (some ⟨blk, off, none⟩) d.size cap) rfl rfl (by kernel_rfl) (by kernel_rfl) (by kernel_rfl) (fun _ _ _ h => h) (Or.inl ⟨by rfl, fun w' hw' => by go_simp⟩) hS ?_
    simp only [Act.put, lsA, lsZ, lsS]
    refine take_at (i := 8) 166 (v := .int .i64 (c : Int)) rfl rfl (by kernel_rfl) (by kernel_rfl) (by kernel_rfl) (fun _ _ _ h => h) (Or.inl ⟨by rfl, fun w' hw' => by go_simp⟩) hS ?_
    simp only [Act.put, lsA, lsZ, lsS]
    refine take_at (i := 9) 167 (v := .pointer (some ⟨blk, off + (c) * 10, none⟩)) rfl rfl (by kernel_rfl) (by kernel_rfl) (by kernel_rfl) (fun _ _ _ h => h) (Or.inl ⟨by rfl, fun w' hw' => by go_simp⟩) hS ?_
    simp only [Act.put, lsA, lsZ, lsS]
    refine take_at (i := 6) 164 (v := .agg c1.toArray) rfl rfl (by kernel_rfl) (by kernel_rfl) (by kernel_rfl) (fun _ _ _ h => h) (Or.inl ⟨by rfl, fun w' hw' => exec_load rfl (load_dg (HLc1.out w' hw'))⟩) hS ?_
    simp only [Act.put, lsA, lsZ, lsS]
    refine take_at (i := 10) 168 (v := .agg c2.toArray) rfl rfl (by kernel_rfl) (by kernel_rfl) (by kernel_rfl) (fun _ _ _ h => h) (Or.inl ⟨by rfl, fun w' hw' => exec_load rfl (load_dg (HLc2.out w' hw'))⟩) hS ?_
    simp only [Act.put, lsA, lsZ, lsS]
    refine wpAnyH_ready (rs := [11]) (by kernel_rfl) (by simp) ?_
    refine AllReadyH.cons rfl (fun K' hK' => ?_) AllReadyH.nil
    go_simp
    refine (HCM.out _ hS).mono ?_
    rintro e v1 ⟨rfl, S9⟩
    refine hK'.out _ _ S9 (fun hS => ?_)
    clear hK' K' S9
    by_cases hc : q < 0
    ·have d1 : decide (q < 0) = true := decide_eq_true hc
     have HP : Hid (ltOf cf d[pc]! d[c]! = true) := HLT.out.trans d1
     refine take_at (i := 12) 170 (v := .bool true) rfl rfl (by kernel_rfl) (by kernel_rfl) (by kernel_rfl) (fun _ _ _ h => h) (Or.inl ⟨by rfl, fun w' hw' => by go_simp⟩) hS ?_
     simp only [Act.put, lsA, lsZ, lsS]
     refine take_at (i := 13) 171 (v := .bool false) rfl rfl (by kernel_rfl) (by kernel_rfl) (by kernel_rfl) (fun _ _ _ h => h) (Or.inl ⟨by rfl, fun w' hw' => by go_simp⟩) hS ?_
     simp only [Act.put, lsA, lsZ, lsS]
     refine wpAnyH_done (by kernel_rfl) ?_ _
     have HS9 : Hid _ := hS
     clear hS hc d1
     go_wp2_with fail
     go_roundw
     case rel => exact ⟨i, c, rfl, rfl, by omega, by omega, by omega, HLO.out, fun _ => by rw [← HPC.out]; exact HP.out, HS9.out⟩
     case measure => simp [intOf]; omega
    ·have d1 : decide (q < 0) = false := decide_eq_false hc
     have HP : Hid (ltOf cf d[pc]! d[c]! = false) := HLT.out.trans d1
     refine take_at (i := 12) 170 (v := .bool false) rfl rfl (by kernel_rfl) (by kernel_rfl) (by kernel_rfl) (fun _ _ _ h => h) (Or.inl ⟨by rfl, fun w' hw' => by go_simp⟩) hS ?_
     simp only [Act.put, lsA, lsZ, lsS]
     refine take_at (i := 13) 171 (v := .bool true) rfl rfl (by kernel_rfl) (by kernel_rfl) (by kernel_rfl) (fun _ _ _ h => h) (Or.inl ⟨by rfl, fun w' hw' => by go_simp⟩) hS ?_
     simp only [Act.put, lsA, lsZ, lsS]
     refine wpAnyH_done (by kernel_rfl) ?_ _
     have HS9 : Hid _ := hS
     clear hS hc d1
     go_wp2_with fail
     go_roundw
     case rel => exact ⟨c + 1, j, by go_num, rfl, by omega, by omega, by omega, fun _ => by rw [Nat.add_sub_cancel, ← HPC.out]; exact HP.out, HHI.out, HS9.out⟩
     case measure => simp [intOf]; omega
   ·obtain rfl : i = j := by omega
    have e1 : decide ((i : Int) < (i : Int)) = false := decide_eq_false (by omega)
    obtain ⟨st, hst⟩ : ∃ st, st = i := ⟨_, rfl⟩
    subst hst
    obtain ⟨en, hen⟩ : ∃ en, en = nn - st := ⟨_, rfl⟩
    have een : (nn : Int) - (st : Int) = (en : Int) := by have := HMN.out; omega
    have hen1 : m ≤ en := by have := HMN.out; omega
    have hen2 : en ≤ b := by have := HMN.out; have := HLH.out.is; omega
    have hen3 : (st - a) + (en - m) = mid - a := by have := HMN.out; omega
    have hen4 : (m - st) = en - mid := by have := HMN.out; omega
    have hmide : mid ≤ en := by have := HMN.out; omega
    have hstm : st ≤ m := by omega
    have hsta : a ≤ st := by omega
    have hstmid : st ≤ mid := by omega
    have HMC : Hid (mgD (ltOf cf) L Rr = mgD (ltOf cf) (L.take (st - a)) (Rr.take (en - m)) ++ mgD (ltOf cf) (L.drop (st - a)) (Rr.drop (en - m))) := by
     have hL : L.length = m - a := HLL.out
     have hR : Rr.length = b - m := HRL.out
     refine symC Wl HOL.out HOR.out (by omega) (by omega) (fun r l he hr hl => ?_) (fun l r hs hl hr => ?_)
     ·obtain ⟨hl1, el⟩ := List.getElem?_eq_some_iff.1 hl
      obtain ⟨hr1, er⟩ := List.getElem?_eq_some_iff.1 hr
      have h9 := HHI.out (by have := HLH.out.is; omega)
      have g1 := HGL.out (st - a) hl1
      have g2 := HGR.out (en - m - 1) hr1
      rw [show a + (st - a) = st by omega, getElem!_pos L _ hl1, el] at g1
      rw [show m + (en - m - 1) = pp - st by have := HMN.out; omega, getElem!_pos Rr _ hr1, er] at g2
      rw [g1, g2] at h9
      exact h9
     ·obtain ⟨hl1, el⟩ := List.getElem?_eq_some_iff.1 hl
      obtain ⟨hr1, er⟩ := List.getElem?_eq_some_iff.1 hr
      have h9 := HLO.out (by have := HLH.out.is; have := HMN.out; omega)
      have g1 := HGL.out (st - a - 1) hl1
      have g2 := HGR.out (en - m) hr1
      rw [show a + (st - a - 1) = st - 1 by omega, getElem!_pos L _ hl1, el] at g1
      rw [show m + (en - m) = pp - (st - 1) by have := HMN.out; omega, getElem!_pos Rr _ hr1, er] at g2
      rw [g1, g2] at h9
      exact h9
    have HDL : Hid (d.toList = X ++ ((L.take (st - a) ++ L.drop (st - a)) ++ ((Rr.take (en - m) ++ Rr.drop (en - m)) ++ Y))) := by show _ = _; rw [List.take_append_drop, List.take_append_drop]; exact HD.out
    have HL1 : Hid ((L.take (st - a)).length = st - a) := by show _ = _; rw [List.length_take, HLL.out]; omega
    have HL2 : Hid ((L.drop (st - a)).length = m - st) := by show _ = _; rw [List.length_drop, HLL.out]; omega
    have HR1 : Hid ((Rr.take (en - m)).length = en - m) := by show _ = _; rw [List.length_take, HRL.out]; omega
    have HR2 : Hid ((Rr.drop (en - m)).length = b - en) := by show _ = _; rw [List.length_drop, HRL.out]; omega
    have HO1 : Hid (Ord (ltOf cf) (L.take (st - a)) ∧ Ord (ltOf cf) (Rr.take (en - m))) := ⟨ord_take HOL.out _, ord_take HOR.out _⟩
    have HO2 : Hid (Ord (ltOf cf) (L.drop (st - a)) ∧ Ord (ltOf cf) (Rr.drop (en - m))) := ⟨ord_drop HOL.out _, ord_drop HOR.out _⟩
    generalize L.take (st - a) = L1 at HMC HDL HL1 HO1
    generalize L.drop (st - a) = L2 at HMC HDL HL2 HO2
    generalize Rr.take (en - m) = R1 at HMC HDL HR1 HO1
    generalize Rr.drop (en - m) = R2 at HMC HDL HR2 HO2
    have SW1 : Hid _ := SW.out
    clear SW HLO HHI HGL HGR HD HLL HRL HOL HOR HLH hen hlt
    go_upto_region 39 with fail
    obtain ⟨bb, hbb⟩ : ∃ bb : Bool, bb = decide (st < m ∧ m < en) := ⟨_, rfl⟩
    have HBB : Hid (bb = decide (st < m ∧ m < en)) := hbb
    clear hbb
    go_cut [185] from 178 to 185 (fun y wx => y = .bool bb ∧ Hid (SWK enc 10 w0 blk off d wx))
    case first =>
     by_cases c1 : st < m
     ·have z1 : decide ((st : Int) < (m : Int)) = true := decide_eq_true (by omega)
      by_cases c2 : m < en
      ·have z2 : decide ((m : Int) < (en : Int)) = true := decide_eq_true (by omega)
       go_wp2_with fail
       go_meet
       case rel => exact ⟨by rw [HBB.out, decide_eq_true (And.intro c1 c2)], SW1⟩
      ·have z2 : decide ((m : Int) < (en : Int)) = false := decide_eq_false (by omega)
       go_wp2_with fail
       go_meet
       case rel => exact ⟨by rw [HBB.out, decide_eq_false (fun h => c2 h.2)], SW1⟩
     ·have z1 : decide ((st : Int) < (m : Int)) = false := decide_eq_false (by omega)
      go_wp2_with fail
      go_meet
      case rel => exact ⟨by rw [HBB.out, decide_eq_false (fun h => c1 h.1)], SW1⟩
    case rest =>
     clear SW1
     obtain ⟨rfl, SW1⟩ := hcut
     go_upto_if 185 with fail
     go_cut [] from 186 to 191 (fun wx => ∃ dn : Array α, dn.size = d.size ∧ Hid (dn.toList = X ++ (L1 ++ (R1 ++ (L2 ++ (R2 ++ Y))))) ∧ Hid (SWK enc 10 w0 blk off dn wx))
     case first =>
      cases bb
      ·have hno : ¬ (st < m ∧ m < en) := of_decide_eq_false HBB.out.symm
       have HNO : Hid (d.toList = X ++ (L1 ++ (R1 ++ (L2 ++ (R2 ++ Y))))) := by
        show _ = _
        have l2 : L2.length = m - st := HL2.out
        have r1 : R1.length = en - m := HR1.out
        rw [HDL.out]
        rcases (show L2.length = 0 ∨ R1.length = 0 by omega) with h | h
        ·rw [List.eq_nil_of_length_eq_zero h]; simp
        ·rw [List.eq_nil_of_length_eq_zero h]; simp
       go_wp2_with fail
       go_meet
       case rel => exact ⟨d, rfl, HNO, SW1⟩
      ·have hyes : st < m ∧ m < en := of_decide_eq_true HBB.out.symm
       obtain ⟨c1, c2⟩ := hyes
       have HCL : Hid _ := dgrot_any enc (.func (.func 37) #[] #[]) blk off cap st m en d0 d (X ++ (L1 ++ (R1 ++ (L2 ++ (R2 ++ Y))))) w0 wc R HSZ.out.symm SW1.out c1 c2 (by omega) (by rw [HSZ.out]; exact hsz) ⟨⟨X ++ L1, L2, R1, R2 ++ Y, by rw [HDL.out]; simp, by rw [List.length_append, HXL.out, HL1.out]; omega, by rw [HL2.out], by rw [HR1.out], by simp⟩⟩
       go_wp2_with fail
       refine Calls.mono HCL.out ?_
       rintro e v9 ⟨rfl, d9, hd9, S9⟩
       have HD9 : Hid (d9.toList = X ++ (L1 ++ (R1 ++ (L2 ++ (R2 ++ Y))))) := hd9
       have hz9 : d9.size = d.size := by
        have h1 : d9.toList.length = d.toList.length := by rw [HD9.out, HDL.out]; simp; omega
        simpa using h1
       have HS9 : Hid _ := S9
       clear hd9 S9
       go_wp2_with fail
       go_meet
       case rel => exact ⟨d9, hz9, HD9, HS9⟩
     case rest =>
      clear SW1 HBB
      obtain ⟨dn1, hdz1, HDN1, SWN1⟩ := hcut
      have SW2 : Hid _ := SWN1.out
      clear SWN1
      go_upto_region 41 with fail
      obtain ⟨bb, hbb⟩ : ∃ bb : Bool, bb = decide (a < st ∧ st < mid) := ⟨_, rfl⟩
      have HBB : Hid (bb = decide (a < st ∧ st < mid)) := hbb
      clear hbb
      go_cut [199] from 192 to 199 (fun y wx => y = .bool bb ∧ Hid (SWK enc 10 w0 blk off dn1 wx))
      case first =>
       by_cases c1 : a < st
       ·have z1 : decide ((a : Int) < (st : Int)) = true := decide_eq_true (by omega)
        by_cases c2 : st < mid
        ·have z2 : decide ((st : Int) < (mid : Int)) = true := decide_eq_true (by omega)
         go_wp2_with fail
         go_meet
         case rel => exact ⟨by rw [HBB.out, decide_eq_true (And.intro c1 c2)], SW2⟩
        ·have z2 : decide ((st : Int) < (mid : Int)) = false := decide_eq_false (by omega)
         go_wp2_with fail
         go_meet
         case rel => exact ⟨by rw [HBB.out, decide_eq_false (fun h => c2 h.2)], SW2⟩
       ·have z1 : decide ((a : Int) < (st : Int)) = false := decide_eq_false (by omega)
        go_wp2_with fail
        go_meet
        case rel => exact ⟨by rw [HBB.out, decide_eq_false (fun h => c1 h.1)], SW2⟩
      case rest =>
       clear SW2
       obtain ⟨rfl, SW2⟩ := hcut
       go_upto_if 199 with fail
       go_cut [] from 200 to 205 (fun wx => ∃ dn : Array α, dn.size = d.size ∧ Hid (dn.toList = X ++ (mgD (ltOf cf) L1 R1 ++ (L2 ++ (R2 ++ Y)))) ∧ Hid (SWK enc 10 w0 blk off dn wx))
       case first =>
        cases bb
        ·have hno : ¬ (a < st ∧ st < mid) := of_decide_eq_false HBB.out.symm
         have HNO : Hid (dn1.toList = X ++ (mgD (ltOf cf) L1 R1 ++ (L2 ++ (R2 ++ Y)))) := by
          show _ = _
          have l1 : L1.length = st - a := HL1.out
          have r1 : R1.length = en - m := HR1.out
          rw [HDN1.out]
          rcases (show L1.length = 0 ∨ R1.length = 0 by omega) with h | h
          ·rw [List.eq_nil_of_length_eq_zero h, mgD_nil]; simp
          ·rw [List.eq_nil_of_length_eq_zero h, mgD_nil']; simp
         go_wp2_with fail
         go_meet
         case rel => exact ⟨dn1, hdz1, HNO, SW2⟩
        ·have hyes : a < st ∧ st < mid := of_decide_eq_true HBB.out.symm
         obtain ⟨c1, c2⟩ := hyes
         have HCL : Hid _ := IH a st mid dn1 X L1 R1 (L2 ++ (R2 ++ Y)) wc (by omega) (by rw [hdz1]; exact HSZ.out) SW2.out (by omega) (by omega) (by omega) HDN1.out HXL.out HL1.out (by rw [HR1.out]; omega) HO1.out.1 HO1.out.2
         rw [hdz1] at HCL
         go_wp2_with fail
         refine Calls.mono HCL.out ?_
         rintro e v9 ⟨rfl, d9, hd9, S9⟩
         have HD9 : Hid (d9.toList = X ++ (mgD (ltOf cf) L1 R1 ++ (L2 ++ (R2 ++ Y)))) := hd9
         have hz9 : d9.size = d.size := by
          have h1 : d9.toList.length = dn1.toList.length := by rw [HD9.out, HDN1.out]; simp [mgD_len]; omega
          simpa [hdz1] using h1
         have HS9 : Hid _ := S9
         clear hd9 S9
         go_wp2_with fail
         go_meet
         case rel => exact ⟨d9, hz9, HD9, HS9⟩
       case rest =>
        clear SW2 HBB
        obtain ⟨dn2, hdz2, HDN2, SWN2⟩ := hcut
        have SW3 : Hid _ := SWN2.out
        clear SWN2
        go_upto_region 43 with fail
        obtain ⟨bb, hbb⟩ : ∃ bb : Bool, bb = decide (mid < en ∧ en < b) := ⟨_, rfl⟩
        have HBB : Hid (bb = decide (mid < en ∧ en < b)) := hbb
        clear hbb
        go_cut [213] from 206 to 213 (fun y wx => y = .bool bb ∧ Hid (SWK enc 10 w0 blk off dn2 wx))
        case first =>
         by_cases c1 : mid < en
         ·have z1 : decide ((mid : Int) < (en : Int)) = true := decide_eq_true (by omega)
          by_cases c2 : en < b
          ·have z2 : decide ((en : Int) < (b : Int)) = true := decide_eq_true (by omega)
           go_wp2_with fail
           go_meet
           case rel => exact ⟨by rw [HBB.out, decide_eq_true (And.intro c1 c2)], SW3⟩
          ·have z2 : decide ((en : Int) < (b : Int)) = false := decide_eq_false (by omega)
           go_wp2_with fail
           go_meet
           case rel => exact ⟨by rw [HBB.out, decide_eq_false (fun h => c2 h.2)], SW3⟩
         ·have z1 : decide ((mid : Int) < (en : Int)) = false := decide_eq_false (by omega)
          go_wp2_with fail
          go_meet
          case rel => exact ⟨by rw [HBB.out, decide_eq_false (fun h => c1 h.1)], SW3⟩
        case rest =>
         clear SW3
         obtain ⟨rfl, SW3⟩ := hcut
         cases bb
         ·have hno : ¬ (mid < en ∧ en < b) := of_decide_eq_false HBB.out.symm
          have HNO : Hid (dn2.toList = X ++ (mgD (ltOf cf) L1 R1 ++ (mgD (ltOf cf) L2 R2 ++ Y))) := by
           show _ = _
           have l2 : L2.length = m - st := HL2.out
           have r2 : R2.length = b - en := HR2.out
           rw [HDN2.out]
           rcases (show L2.length = 0 ∨ R2.length = 0 by omega) with h | h
           ·rw [List.eq_nil_of_length_eq_zero h, mgD_nil]; simp
           ·rw [List.eq_nil_of_length_eq_zero h, mgD_nil']; simp
          go_wp2_with fail
          go_end0
          exact ⟨rfl, dn2, by rw [HNO.out, HMC.out]; simp, SW3.out⟩
         ·have hyes : mid < en ∧ en < b := of_decide_eq_true HBB.out.symm
          obtain ⟨c1, c2⟩ := hyes
          have HCL : Hid _ := IH mid en b dn2 (X ++ mgD (ltOf cf) L1 R1) L2 R2 Y wc (by omega) (by rw [hdz2]; exact HSZ.out) SW3.out (by omega) (by omega) (by omega) (by rw [HDN2.out]; simp) (by rw [List.length_append, mgD_len, HL1.out, HR1.out, HXL.out]; omega) (by rw [HL2.out]; omega) (by rw [HR2.out]) HO2.out.1 HO2.out.2
          rw [hdz2] at HCL
          go_wp2_with fail
          refine Calls.mono HCL.out ?_
          rintro e v9 ⟨rfl, d9, hd9, S9⟩
          have HD9 : Hid (d9.toList = X ++ (mgD (ltOf cf) L1 R1 ++ (mgD (ltOf cf) L2 R2 ++ Y))) := by show _ = _; rw [hd9]; simp
          have HS9 : Hid _ := S9
          clear hd9 S9
          go_wp2_with fail
          go_end0
          exact ⟨rfl, d9, by rw [HD9.out, HMC.out]; simp, HS9.out⟩
theorem dgsym_any {α : Type} [Inhabited α] (enc : α → List Value) (cf : α → α → Int) (Wl : Wk (ltOf cf)) (blk off cap : Nat) (d0 : Array α) (w0 : World) (R : RowK enc 10 w0 blk off d0) (hC : CmpLays Try.prog 37 #[] enc 10 cf blk off d0.size w0) (hsz : d0.size < 4611686018427387904) :
  ∀ (n a' m' b' : Nat) (d' : Array α) (X' L' R' Y' : List α) (w' : World), b' - a' < n → d'.size = d0.size → SWK enc 10 w0 blk off d' w' → a' < m' → m' < b' → b' ≤ d'.size → d'.toList = X' ++ (L' ++ (R' ++ Y')) → X'.length = a' → L'.length = m' - a' → R'.length = b' - m' → Ord (ltOf cf) L' → Ord (ltOf cf) R' →
  Calls Try.prog 80 #[.slice (some ⟨blk, off, none⟩) d'.size cap, .int .i64 a', .int .i64 m', .int .i64 b', .func (.func 37) #[] #[]] w' fun e w'' => e = .returned (.tuple #[]) ∧ ∃ d'' : Array α, d''.toList = X' ++ (mgD (ltOf cf) L' R' ++ Y') ∧ SWK enc 10 w0 blk off d'' w''  := by
 intro n
 induction n with
 | zero => intro a m b d X L Rr Y w h; omega
 | succ n ih =>
  intro a m b d X L Rr Y w hn hs S0 ham hmb hb hd hX hL hR oL oR
  by_cases h0 : m - a = 1
  ·exact sya_any enc cf Wl blk off cap d0 w0 R hC hsz a m b d X L Rr Y w hs S0 ham hmb hb hd hX hL hR oL oR h0
  ·by_cases h1 : b - m = 1
   ·exact syb_any enc cf Wl blk off cap d0 w0 R hC hsz a m b d X L Rr Y w hs S0 ham hmb hb hd hX hL hR oL oR h0 h1
   ·exact syc_any enc cf Wl blk off cap d0 w0 R hC hsz a m b d X L Rr Y w hs S0 ham hmb hb hd hX hL hR oL oR h0 h1 (fun a' m' b' d' X' L' R' Y' w' h => ih a' m' b' d' X' L' R' Y' w' (by omega))
end Go.Proofs.Ytpnnpdfmoldiiab
