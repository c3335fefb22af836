/- Items of several texts. -/
import Derived.Test.YtmeclfgehpbjlaaYQr18
namespace Go.Proofs.Ytmeclfgehpbjlaa
open Go.RowKit
theorem flw_take {α : Type} {cs : α → List Value} {size : Nat} (wcs : ∀ x, (cs x).length = size) (l : List α) (i : Nat) : (l.take i).flatMap cs = (l.flatMap cs).take (i * size) := by
 induction l generalizing i with
 | nil => simp
 | cons x l ih =>
  cases i with
  | zero => simp
  | succ i =>
   rw [List.take_succ_cons, List.flatMap_cons, List.flatMap_cons, ih, List.take_append, wcs, Nat.succ_mul, Nat.add_sub_cancel]
   rw [List.take_of_length_le (l := cs x) (by rw [wcs]; omega)]
theorem flw_drop {α : Type} {cs : α → List Value} {size : Nat} (wcs : ∀ x, (cs x).length = size) (l : List α) (i : Nat) : (l.drop i).flatMap cs = (l.flatMap cs).drop (i * size) := by
 induction l generalizing i with
 | nil => simp
 | cons x l ih =>
  cases i with
  | zero => simp
  | succ i =>
   rw [List.drop_succ_cons, List.flatMap_cons, ih, List.drop_append, wcs, Nat.succ_mul, Nat.add_sub_cancel]
   rw [List.drop_of_length_le (l := cs x) (by rw [wcs]; omega), List.nil_append]
theorem sizeW (W : World) : (sizeOf (Try.prog.elem 60)).run Try.prog W = .ok 11 W := by
 have : Try.prog.elem 60 = 68 := by kernel_rfl
 rw [this]
 obtain ⟨i0, hi, hz0, hz1, hz2⟩ := info_parts Try.infoW
 simp [sizeOf, typeInfo, hi, hz1]
theorem slh (g n cap k : Nat) (hk : k ≤ cap) (W : World) : (Instr.slice 60 (.slice (some ⟨g, 0, none⟩) n cap) none (some (.int .i64 (k : Int))) none).run Try.prog W = .ok (.slice (some ⟨g, 0, none⟩) k cap) W := by
 rw [run_slice_h (P := Try.prog) (t := 60) (ht := by kernel_rfl) (h0 := by omega) (h2 := by omega), sizeW]
 simp [Result.andThen, sliced, Addr.add]
theorem sll (g n cap k : Nat) (kk : Int) (hkk : kk = (k : Int)) (hk : k ≤ n) : ∃ o, (∀ W, (Instr.slice 60 (.slice (some ⟨g, 0, none⟩) n cap) (some (.int .i64 kk)) none none).run Try.prog W = .ok (.slice (some ⟨g, o, none⟩) (n - k) (cap - k)) W) ∧ (k < cap → o = k * 11) := by
 subst hkk
 refine ⟨if cap = k then 0 else k * 11, fun W => ?_, fun h => by rw [if_neg (by omega)]⟩
 rw [run_slice_l (P := Try.prog) (t := 60) (ht := by kernel_rfl) (h0 := by omega) (h1 := by omega), sizeW]
 by_cases e : cap = k
 ·simp [Result.andThen, sliced, e]
 ·simp [Result.andThen, sliced, e, Addr.add]
  omega
set_option maxHeartbeats 1000000 in
set_option maxRecDepth 100000 in
theorem wdel_any (a : Option Addr) (cap : Nat) (xs : List Wt) (i : Nat) (w : World) (own : OwnG 68 11 wcs w a cap xs) (hi : i < xs.length) (hf : xs.length ≤ 1000) (ys : List Wt) (hys : ys = xs.take i ++ xs.drop (i + 1)) :
  Calls Try.prog 30 #[.slice a xs.length cap, .int .i64 (i : Int), .int .i64 ((i : Int) + 1)] w fun e w' => ∃ n, e = .returned (.slice a n cap) ∧ n = ys.length ∧ OwnG 68 11 wcs w' a cap ys ∧ Off (fun c => blk a = some c) w w' := by
 obtain ⟨g, cur, rfl, hcel, hlc, hcm, hcs0, htk⟩ := own.celw (fun e => by have := own.nnw e; rw [this] at hi; simp at hi)
 obtain ⟨m, hm⟩ : ∃ m, xs.length = m + 1 := ⟨xs.length - 1, by omega⟩
 rw [hm] at hlc htk hi hf ⊢
 have hsplit : ys.length = m := by rw [hys]; simp; omega
 have HYS : Hid _ := hys
 clear hys
 have HM : Hid (xs.length = m + 1) := hm
 have HSP : Hid _ := hsplit
 have HC : Hid _ := hcel
 have HCS : Hid _ := hcs0
 have HTK : Hid _ := htk
 have HOW : Hid _ := own
 have hcm2 : cap ≤ 9223372036854775807 := by unfold maxLen at hcm; omega
 have HDL : Hid (((xs.drop (i + 1)).flatMap wcs).length = (m - i) * 11) := by show _ = _; rw [flw_len wcs_len, List.length_drop, hm]; congr 1; omega
 obtain ⟨o, hs2, ho⟩ := sll g (m + 1) cap (i + 1) ((i : Int) + 1) (by simp) (by omega)
 have hs1 := slh g (m + 1) cap i (by omega)
 obtain ⟨co, hco⟩ : ∃ co, co = cap - (i + 1) := ⟨_, rfl⟩
 rw [← hco, show m + 1 - (i + 1) = m - i by omega] at hs2
 have HSRC : Hid (∀ j v, ((xs.drop (i + 1)).flatMap wcs)[j]? = some v → w.drew.cell? ((⟨g, o, none⟩ : Addr).add j) = some v) := fun j v hj => by
  have hlt : j < (m - i) * 11 := by
   obtain ⟨h, -⟩ := List.getElem?_eq_some_iff.1 hj
   rwa [HDL.out] at h
  rw [flw_drop wcs_len, List.getElem?_drop, ← HTK.out, List.getElem?_take] at hj
  split at hj
  ·rw [ho (by omega), add_lit]
   show w.cell? _ = _
   rw [HC.out.cell]
   simpa using hj
  ·simp at hj
 clear own hcel hcs0 htk hm hsplit hco ho hcm
 have d1 : (((i : Int)) == ((i : Int) + 1)) = false := by rw [beq_eq_false_iff_ne]; omega
 have b1 : (i : Int) + 1 ≤ (m : Int) + 1 := by omega
 have b2 : m + 1 ≤ cap := hlc
 have b3 : ¬ (m + 1 = i) := by omega
 have b4 : ¬ (cap = m) := by omega
 go_enter Try.func30, Try.ntmps30
 go_upto_region 5 with fail
 refine wp_region_held_drew (S := fun w' => Off (fun c => c = g) w w') (by kernel_rfl) ((Off.refl _ w).drew) (fun hS => ?_)
 refine take_at (i := 0) 20 (v := .slice (some ⟨g, 0, none⟩) (m + 1) cap) rfl rfl (by kernel_rfl) (by kernel_rfl) (by kernel_rfl) (fun _ _ _ h => h) (Or.inl ⟨by rfl, fun w' hw' => by go_simp⟩) hS ?_
 simp only [Act.put, lsA, lsZ, lsS]
 refine take_at (i := 1) 21 (v := .int .i64 (i : Int)) rfl rfl (by kernel_rfl) (by kernel_rfl) (by kernel_rfl) (fun _ _ _ h => h) (Or.inl ⟨by rfl, fun w' hw' => by go_simp⟩) hS ?_
 simp only [Act.put, lsA, lsZ, lsS]
 refine take_at (i := 2) 22 (v := .slice (some ⟨g, 0, none⟩) i cap) rfl rfl (by kernel_rfl) (by kernel_rfl) (by kernel_rfl) (fun _ _ _ h => h) (Or.inl ⟨by rfl, fun w' hw' => by have := hs1 w'; go_simp⟩) hS ?_
 simp only [Act.put, lsA, lsZ, lsS]
 refine take_at (i := 3) 23 (v := .slice (some ⟨g, 0, none⟩) (m + 1) cap) rfl rfl (by kernel_rfl) (by kernel_rfl) (by kernel_rfl) (fun _ _ _ h => h) (Or.inl ⟨by rfl, fun w' hw' => by go_simp⟩) hS ?_
 simp only [Act.put, lsA, lsZ, lsS]
 refine take_at (i := 4) 24 (v := .int .i64 ((i : Int) + 1)) rfl rfl (by kernel_rfl) (by kernel_rfl) (by kernel_rfl) (fun _ _ _ h => h) (Or.inl ⟨by rfl, fun w' hw' => by go_simp⟩) hS ?_
 simp only [Act.put, lsA, lsZ, lsS]
 refine take_at (i := 5) 25 (v := .slice (some ⟨g, o, none⟩) (m - i) co) rfl rfl (by kernel_rfl) (by kernel_rfl) (by kernel_rfl) (fun _ _ _ h => h) (Or.inl ⟨by rfl, fun w' hw' => by have := hs2 w'; go_simp⟩) hS ?_
 simp only [Act.put, lsA, lsZ, lsS]
 obtain ⟨w1, hr, hc1, o1⟩ := room_run (i := i) (cap := cap) (a := ⟨g, o, none⟩) (sLen := m - i) (sCap := co) (cs := (xs.drop (i + 1)).flatMap wcs) (HC.out.drew) HDL.out (by omega) HCS.out HSRC.out (flw_one wcs_one _) 60
 rw [show i + (m - i) = m by omega] at hr
 refine wpAnyH_ready (rs := [6]) (by kernel_rfl) (by simp) ?_
 refine AllReadyH.cons rfl (fun K' hK' => ?_) AllReadyH.nil
 refine wp_append_if rfl (.tmp 22) (.tmp 25) rfl rfl rfl hr 26 rfl ?_
 simp only [Act.put, lsA, lsZ, lsS]
 refine hK'.out _ _ (((Off.refl (fun c => c = g) w).drew).trans o1 (fun _ _ h => h)) (fun hS => ?_)
 clear hK' K' hr
 have HC1 : Hid _ := hc1
 clear hc1 o1
 refine take_at (i := 7) 0 (v := .slice (some ⟨g, 0, none⟩) m cap) rfl rfl (by kernel_rfl) (by kernel_rfl) (by kernel_rfl) (fun _ _ _ h => h) (Or.inl ⟨by rfl, fun w' hw' => by go_simp⟩) hS ?_
 simp only [Act.put, List.setIfInBounds_toArray, List.set_cons_zero]
 refine wpAnyH_done (by kernel_rfl) ?_ _
 have HO1 : Hid _ := hS
 clear hS
 obtain ⟨w2, hr, hc2, o2⟩ := clear_run (o := m * 11) (c := cap - m) HC1.out (by have h1 := HDL.out; have h2 := HCS.out; rw [List.size_toArray, spl_len (by rw [HDL.out, Array.length_toList]; omega), Array.length_toList]; omega) 0
 have HC2 : Hid _ := hc2
 have HO2 : Hid _ := HO1.out.trans o2 (fun _ _ h => h)
 clear hc2 o2
 go_wp2_with fail
 go_ret
 refine ⟨m, rfl, HSP.out.symm, ?_, HO2.out.mono (fun _ _ h => by rw [h]; rfl)⟩
 have hl : cur.toList.length = cap * 11 := by rw [Array.length_toList]; exact HCS.out
 have hd := HDL.out
 have s1 : (spl cur.toList (i * 11) ((xs.drop (i + 1)).flatMap wcs)).length = cap * 11 := by rw [spl_len (by omega), hl]
 refine ownw_of wcs_len HC2.out (by rw [HSP.out]; omega) (by unfold maxLen; omega) ?_ ?_
 ·rw [List.size_toArray, spl_len (by rw [List.toList_toArray, s1]; show m * 11 + 11 ≤ _; omega), List.toList_toArray, s1]
 ·rw [HSP.out, List.toList_toArray, List.toList_toArray, spl_lo (by rw [s1]; omega) (Nat.le_refl _), spl_in (by omega) (by omega), HYS.out, List.flatMap_append, flw_take wcs_len, ← HTK.out, List.take_take]
  congr 2
  omega
end Go.Proofs.Ytmeclfgehpbjlaa
