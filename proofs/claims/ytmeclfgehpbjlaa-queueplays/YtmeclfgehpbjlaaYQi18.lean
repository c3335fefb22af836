/- Items of several texts. -/
import Derived.Test.YtmeclfgehpbjlaaYQd18
namespace Go.Proofs.Ytmeclfgehpbjlaa
open Go.RowKit
theorem spl_mid {l : List Value} {o k n : Nat} {cs : List Value} (h : o ≤ l.length) (hk : k = o) (hn : n = cs.length) : ((spl l o cs).drop k).take n = cs := by
 subst hk hn
 unfold spl
 rw [List.append_assoc, List.drop_append, List.drop_of_length_le (by rw [List.length_take]; omega), List.nil_append, List.length_take, Nat.min_eq_left h, Nat.sub_self, List.drop_zero, List.take_left]
theorem wp_copy_run {P : Program} (w : World) {o : Oper} {a : Act} {K : Act → World → Prop} {Q : Exit → Act → World → Prop} (d s : Operand) (t t' : TypeId)
  (ho : o.op = .call { callee := .builtin .copy, args := #[d, s], argTypes := #[t, t'] }) (v u : Value) (hd : a.eval d = v) (hs : a.eval s = u) {v' : Value} {w' : World}
  (hr : (Builtin.copy_ #[t, t'] o.type #[v, u]).run P w = .ok v' w') (h : K (a.put o.dst v') w') : o.wp P a w K Q := by
 unfold Oper.wp execOp
 simp only [ho, resolve, invoke, builtin, Sem.run_bind, Sem.run_pure, Result.andThen_ok, List.map_toArray, List.map_cons, List.map_nil, hd, hs, hr]
 exact h
theorem wpList_copy_run {P : Program} (w : World) {ops : Array Oper} {rest : List Oper} {o : Oper} {a : Act} {Q : Exit → Act → World → Prop} (hgd : o.guard = none) (d s : Operand) (t t' : TypeId)
  (ho : o.op = .call { callee := .builtin .copy, args := #[d, s], argTypes := #[t, t'] }) (v u : Value) (hd : a.eval d = v) (hs : a.eval s = u) {v' : Value} {w' : World}
  (hr : (Builtin.copy_ #[t, t'] o.type #[v, u]).run P w = .ok v' w') (h : wpList P ops Q rest (a.put o.dst v') w') : wpList P ops Q (o :: rest) a w :=
 wpList_plain hgd fun _ hK => wp_copy_run w d s t t' ho v u hd hs hr (hK _ _ h)
theorem wp_copy_if {P : Program} {o : Oper} {a : Act} {w w' : World} {K : Act → World → Prop} {Q : Exit → Act → World → Prop} {y : Nat → Option Bool} {E : Prop} (hw : Region.wanted o y = true) (s x : Operand) {t u : TypeId}
  (ho : o.op = .call { callee := .builtin .copy, args := #[s, x], argTypes := #[t, u] }) {v v' X : Value} (hs : a.eval s = v) (hx : a.eval x = X) (hr : (Builtin.copy_ #[t, u] o.type #[v, X]).run P w = .ok v' w')
  (d : Nat) (hd : o.dst = some d) (h : K (a.put (some d) v') w') : if Region.wanted o y = true then Oper.wp P o a w K Q else E := by
 rw [if_pos hw]
 rw [← hd] at h
 exact wp_copy_run w s x t u ho v X hs hx hr h
set_option maxHeartbeats 2000000 in
set_option maxRecDepth 100000 in
theorem wins_any (a : Option Addr) (cap : Nat) (xs : List Wt) (i : Nat) (u : Wt) (vb : Nat) (w : World) (own : OwnG 68 11 wcs w a cap xs) (hi : i ≤ xs.length) (hf : xs.length ≤ 999) (hv : Cel vb 68 #[.int .i64 u.m.k, .int .i64 u.m.fr, .int .i64 u.m.tn, .int .i64 u.m.op, .int .i64 u.m.fo, .string u.m.key, .int .i64 u.m.bk, .slice u.m.ea u.m.el u.m.ec, .slice u.m.da u.m.dl u.m.dc, .slice u.m.ma u.m.ml u.m.mc, .int .i64 u.base] w) (hne : blk a ≠ some vb) (ys : List Wt) (hys : ys = xs.take i ++ u :: xs.drop i) :
  Calls Try.prog 29 #[.slice a xs.length cap, .int .i64 (i : Int), .slice (some ⟨vb, 0, none⟩) 1 1] w fun e w' => ∃ a' c' n, e = .returned (.slice a' n c') ∧ n = ys.length ∧ OwnG 68 11 wcs w' a' c' ys ∧ Off (fun c => blk a = some c) w w' ∧ ∀ g, blk a' = some g → blk a = some g ∨ w.heap.size ≤ g := by
 obtain ⟨n, hn⟩ : ∃ n, n = xs.length := ⟨_, rfl⟩
 rw [← hn] at hi hf ⊢
 have HN : Hid (xs.length = n) := hn.symm
 have HVC : Hid _ := hv
 have HYS : Hid _ := hys
 have HOW : Hid _ := own
 have HUC : Hid (∀ W, Cel vb 68 #[.int .i64 u.m.k, .int .i64 u.m.fr, .int .i64 u.m.tn, .int .i64 u.m.op, .int .i64 u.m.fo, .string u.m.key, .int .i64 u.m.bk, .slice u.m.ea u.m.el u.m.ec, .slice u.m.da u.m.dl u.m.dc, .slice u.m.ma u.m.ml u.m.mc, .int .i64 u.base] W → ∀ j v, (wcs u)[j]? = some v → W.cell? ((⟨vb, 0, none⟩ : Addr).add j) = some v) := fun W hW j v hj => by rw [add_lit, Nat.zero_add, hW.cell, ← hj, List.getElem?_toArray]; rfl
 clear hn own hv hys
 by_cases hin0 : n ≤ i
 ·clear hne HUC
  have hn0 : i = n := by omega
  subst hn0
  have d1 : (((i : Int)) == ((i : Int))) = true := by simp
  have HV : Hid (Wns w (some ⟨vb, 0, none⟩) 1 [u]) := ⟨by simp, by omega, fun j v hj => by
    match j, hj with
    | 0, hj =>
     simp at hj
     subst hj
     exact ⟨vb, 0, rfl, ⟨fun r x hr => by simp only [Nat.zero_mul, Nat.zero_add]; rw [HVC.out.cell, ← hr, List.getElem?_toArray]; rfl⟩⟩⟩
  have own := HOW.out
  have hl := HN.out
  go_enter Try.func29, Try.ntmps29
  go_wp2_with (at_builtin; refine wpList_appW rfl (.tmp 23) (.tmp 24) rfl a cap xs (by rw [hl]; rfl) own _ 1 [u] rfl HV.out (fun h => by cases h) (by simp; omega) ?_; intro t' c' w' zs hzs own' off' at')
  all_goals (
   go_ret
   have e : zs = ys := by rw [hzs.out, HYS.out, ← hl, List.take_length, List.drop_length]
   rw [e] at own'
   refine ⟨t', c', zs.length, rfl, by rw [e], own', off', fun g hg => ?_⟩
   rcases at' with h | h
   ·exact .inl (h ▸ hg)
   ·rw [h] at hg
    simp at hg
    exact .inr (by omega))
 ·have hin : i < n := by omega
  have d1 : (((i : Int)) == ((n : Int))) = false := by rw [beq_eq_false_iff_ne]; omega
  obtain ⟨g, cur, rfl, hcel, hlc, hcm, hcs0, htk⟩ := HOW.out.celw (fun e => by have := HOW.out.nnw e; have h2 := HN.out; rw [this] at h2; simp at h2; omega)
  rw [HN.out] at hlc htk
  have hcm2 : cap ≤ 9223372036854775807 := by unfold maxLen at hcm; omega
  have HC : Hid _ := hcel
  have HCS : Hid _ := hcs0
  have HTK : Hid _ := htk
  have HNE : Hid (g ≠ vb) := fun e => hne (by rw [← e]; rfl)
  have HCL : Hid (cur.toList.length = cap * 11) := by show _ = _; rw [Array.length_toList]; exact hcs0
  have HDL : Hid (((xs.drop i).flatMap wcs).length = (n - i) * 11) := by show _ = _; rw [flw_len wcs_len, List.length_drop, HN.out]
  have HTL : Hid (((xs.take i).flatMap wcs).length = i * 11) := by show _ = _; rw [flw_len wcs_len, List.length_take, HN.out]; congr 1; omega
  have HTI : Hid (cur.toList.take (i * 11) = (xs.take i).flatMap wcs) := by show _ = _; rw [flw_take wcs_len, ← htk, List.take_take]; congr 1; omega
  have HSR : Hid (∀ W, Cel g 68 cur W → ∀ j v, ((xs.drop i).flatMap wcs)[j]? = some v → W.cell? ((⟨g, i * 11, none⟩ : Addr).add j) = some v) := fun W hW j v hj => by
    rw [flw_drop wcs_len, List.getElem?_drop, ← HTK.out, List.getElem?_take] at hj
    split at hj
    ·rw [add_lit, hW.cell]
     simpa using hj
    ·simp at hj
  have HYL : Hid (ys.length = n + 1) := by show _ = _; rw [HYS.out]; simp; have := HN.out; omega
  have HYF : Hid (ys.flatMap wcs = (xs.take i).flatMap wcs ++ wcs u ++ (xs.drop i).flatMap wcs) := by show _ = _; rw [HYS.out, List.flatMap_append, List.flatMap_cons, List.append_assoc]
  clear hcel hcs0 htk hne
  have hz1 : (1 : Int) + 0 = 1 := rfl
  clear hz1
  by_cases hroom : n + 1 ≤ cap
  ·have d2 : decide ((cap : Int) < (n : Int) + 1) = false := decide_eq_false (by omega)
   have d2' : decide (cap < n + 1) = false := decide_eq_false (by omega)
   have b1 : (n : Int) + 1 ≤ (cap : Int) := by omega
   have b1' : n + 1 ≤ cap := by omega
   have b2 : (i : Int) + 1 ≤ (n : Int) + 1 := by omega
   have b3 : ¬ (cap = i + 1) := by omega
   have b4 : (i : Int) ≤ (n : Int) + 1 := by omega
   have b5 : ¬ (cap = i) := by omega
   have hov : ∀ o lb cb, (callFunc 44 #[.slice (some ⟨vb, 0, none⟩) 1 1, .slice (some ⟨g, o, none⟩) lb cb]).run Try.prog w = .ok (.value (.bool false)) w := fun o lb cb => by
     rw [run_callFunc_extern Try.func44 (by kernel_rfl) (by kernel_rfl) (by kernel_rfl) (e := Extern.SlicesOverlaps.overlaps #[60, 60] #[4]) (by kernel_rfl),
      Lib.run_overlaps_apart w 60 4 68 Try.underlying60 11 (fun W => by obtain ⟨i0, hi, hz0, hz1, hz2⟩ := info_parts Try.infoW; simp [sizeOf, typeInfo, hi, hz1]) ⟨vb, 0, none⟩ ⟨g, o, none⟩ 1 1 lb cb (fun e => HNE.out e.symm) 68 68 11 (cap * 11) (by unfold World.shape?; rw [HVC.out.is]; rfl) (by unfold World.shape?; rw [HC.out.is]; simp [HCS.out]) (by omega) (HVC.out.free 0) (HVC.out.free 11)]
     rfl
   go_enter Try.func29, Try.ntmps29
   go_upto_region 15 with (simp only [hov])
   obtain ⟨o4, hd, ho4⟩ := sll g (n + 1) cap (i + 1) ((i : Int) + 1) (by simp) (by omega)
   obtain ⟨o5, hs, ho5⟩ := sll g (n + 1) cap i (i : Int) rfl (by omega)
   obtain rfl : o4 = (i + 1) * 11 := ho4 (by omega)
   obtain rfl : o5 = i * 11 := ho5 (by omega)
   rw [show n + 1 - (i + 1) = n - i by omega] at hd
   clear hov ho4 ho5
   obtain ⟨w4, hr4, hc4, o4⟩ := copy_run (w := w.drew) (o := (i + 1) * 11) (dLen := n - i) (dCap := cap - (i + 1)) (sLen := n + 1 - i) (sCap := cap - i) (a := ⟨g, i * 11, none⟩) (cs := (xs.drop i).flatMap wcs) HC.out.drew (n - i) (by show min _ _ = _; omega) HDL.out (HSR.out _ HC.out.drew) (by rw [HDL.out]; have := HCS.out; omega) (flw_one wcs_one _) 3
   have HC4 : Hid _ := hc4
   have HO4 : Hid (Off (fun c => c = g) w w4) := ((Off.refl _ w).drew).trans o4 (fun _ _ h => h)
   clear hc4 o4
   refine wp_region_held_drew (S := fun w' => Off (fun c => c = g) w w') (by kernel_rfl) ((Off.refl _ w).drew) (fun hS => ?_)
   refine take_at (i := 0) 69 (v := .slice (some ⟨g, 0, none⟩) (n + 1) cap) rfl rfl (by kernel_rfl) (by kernel_rfl) (by kernel_rfl) (fun _ _ _ h => h) (Or.inl ⟨by rfl, fun w' hw' => by go_simp⟩) hS ?_
   simp only [Act.put, lsA, lsZ, lsS]
   refine take_at (i := 1) 70 (v := .int .i64 (i : Int)) rfl rfl (by kernel_rfl) (by kernel_rfl) (by kernel_rfl) (fun _ _ _ h => h) (Or.inl ⟨by rfl, fun w' hw' => by go_simp⟩) hS ?_
   simp only [Act.put, lsA, lsZ, lsS]
   refine take_at (i := 2) 71 (v := .int .i64 1) rfl rfl (by kernel_rfl) (by kernel_rfl) (by kernel_rfl) (fun _ _ _ h => h) (Or.inl ⟨by rfl, fun w' hw' => by go_simp⟩) hS ?_
   simp only [Act.put, lsA, lsZ, lsS]
   refine take_at (i := 3) 72 (v := .int .i64 ((i : Int) + 1)) rfl rfl (by kernel_rfl) (by kernel_rfl) (by kernel_rfl) (fun _ _ _ h => h) (Or.inl ⟨by rfl, fun w' hw' => by go_simp; rw [IntKind.wrap_i64]; omega⟩) hS ?_
   simp only [Act.put, lsA, lsZ, lsS]
   refine take_at (i := 4) 73 (v := .slice (some ⟨g, ((i + 1) * 11), none⟩) (n - i) (cap - (i + 1))) rfl rfl (by kernel_rfl) (by kernel_rfl) (by kernel_rfl) (fun _ _ _ h => h) (Or.inl ⟨by rfl, fun w' hw' => by have := hd w'; go_simp⟩) hS ?_
   simp only [Act.put, lsA, lsZ, lsS]
   refine take_at (i := 5) 74 (v := .slice (some ⟨g, 0, none⟩) (n + 1) cap) rfl rfl (by kernel_rfl) (by kernel_rfl) (by kernel_rfl) (fun _ _ _ h => h) (Or.inl ⟨by rfl, fun w' hw' => by go_simp⟩) hS ?_
   simp only [Act.put, lsA, lsZ, lsS]
   refine take_at (i := 6) 75 (v := .int .i64 (i : Int)) rfl rfl (by kernel_rfl) (by kernel_rfl) (by kernel_rfl) (fun _ _ _ h => h) (Or.inl ⟨by rfl, fun w' hw' => by go_simp⟩) hS ?_
   simp only [Act.put, lsA, lsZ, lsS]
   refine take_at (i := 7) 76 (v := .slice (some ⟨g, (i * 11), none⟩) (n + 1 - i) (cap - i)) rfl rfl (by kernel_rfl) (by kernel_rfl) (by kernel_rfl) (fun _ _ _ h => h) (Or.inl ⟨by rfl, fun w' hw' => by have := hs w'; go_simp⟩) hS ?_
   simp only [Act.put, lsA, lsZ, lsS]
   refine wpAnyH_ready (rs := [8]) (by kernel_rfl) (by simp) ?_
   refine AllReadyH.cons rfl (fun K' hK' => ?_) AllReadyH.nil
   refine wp_copy_if rfl (.tmp 73) (.tmp 76) rfl rfl rfl hr4 77 rfl ?_
   simp only [Act.put, lsA, lsZ, lsS]
   refine hK'.out _ _ HO4.out (fun hS => ?_)
   clear hK' K'
   refine wpAnyH_done (by kernel_rfl) ?_ _
   clear hS hr4 hd hs
   have hsl : (spl cur.toList ((i + 1) * 11) ((xs.drop i).flatMap wcs)).length = cap * 11 := by have h1 := HDL.out; have h2 := HCL.out; rw [spl_len (by omega), h2]
   have HSL : Hid _ := hsl
   clear hsl
   obtain ⟨w5, hr5, hc5, o5⟩ := copy_run (o := i * 11) (dLen := n + 1 - i) (dCap := cap - i) (sLen := 1) (sCap := 1) (a := ⟨vb, 0, none⟩) (cs := wcs u) HC4.out 1 (by show min 1 _ = 1; omega) rfl (HUC.out _ (HVC.out.off HO4.out (fun e => HNE.out e.symm))) (by rw [wcs_len, List.size_toArray, HSL.out]; omega) (wcs_one u) 3
   have HC5 : Hid _ := hc5
   have HO5 : Hid _ := HO4.out.trans o5 (fun _ _ h => h)
   clear hc5 o5
   go_wp2_with (at_builtin; refine wpList_copy_run _ rfl (.tmp 80) (.tmp 81) 60 60 rfl _ _ rfl rfl hr5 ?_)
   go_ret
   have hsz : (spl (spl cur.toList ((i + 1) * 11) ((xs.drop i).flatMap wcs)).toArray.toList (i * 11) (wcs u)).length = cap * 11 := by rw [List.toList_toArray, spl_len (by rw [wcs_len, HSL.out]; omega), HSL.out]
   refine ⟨some ⟨g, 0, none⟩, cap, n + 1, rfl, HYL.out.symm, ownw_of wcs_len HC5.out (by rw [HYL.out]; omega) hcm (by rw [List.size_toArray]; exact hsz) ?_, HO5.out.mono (fun _ _ h => by rw [h]; rfl), fun x hx => .inl hx⟩
   have hsl := HSL.out
   have hdl := HDL.out
   have hcl := HCL.out
   rw [HYL.out, List.toList_toArray, List.toList_toArray, spl_up (by omega) (by rw [wcs_len]; omega), spl_lo (by omega) (by omega), HTI.out, HYF.out, wcs_len]
   congr 1
   rw [spl_mid (by omega) (by omega) (by omega)]
  ·have d2 : decide ((cap : Int) < (n : Int) + 1) = true := decide_eq_true (by omega)
   have d2' : decide (cap < n + 1) = true := decide_eq_true (by omega)
   obtain ⟨k, hk⟩ : ∃ k : Nat, k = n + 1 - i := ⟨_, rfl⟩
   have hk1 : (n : Int) + 1 - (i : Int) = (k : Int) := by omega
   have HK : Hid (i + k = n + 1) := by show _ = _; omega
   have hk0 : 0 < k := by omega
   clear hk
   obtain ⟨g2, c2, cur2, w2, hr, hc2, ht2, hl2, hm2, hs2, hg2, o2⟩ := zeros_run (w := w) (g := g) (i := i) (cap := cap) (k := k) HTL.out (fun j v hj => by rw [HC.out.cell]; rw [← HTI.out, List.getElem?_take] at hj; split at hj; simpa using hj; simp at hj) hk0 (by have := HK.out; omega) (by have := HK.out; omega) 60
   rw [HK.out] at hr hl2
   have HC2 : Hid _ := hc2
   have HT2 : Hid _ := ht2
   have HS2 : Hid _ := hs2
   have HG2 : Hid _ := hg2
   have HO2 : Hid _ := o2
   have HM2 : Hid _ := hm2
   have hm3 : c2 ≤ 9223372036854775807 := by unfold maxLen at hm2; omega
   clear hc2 ht2 hs2 hg2 o2 hm2
   have b1 : (i : Int) ≤ (n : Int) + 1 := by omega
   have b2 : ¬ (c2 = i) := by omega
   have b3 : ¬ (cap = i) := by omega
   obtain ⟨w3, hr3, hc3, o3⟩ := copy_run (o := i * 11) (dLen := n + 1 - i) (dCap := c2 - i) (sLen := 1) (sCap := 1) (a := ⟨vb, 0, none⟩) (cs := wcs u) HC2.out 1 (by show min 1 _ = 1; omega) rfl (HUC.out _ (HVC.out.off HO2.out (fun h => h))) (by rw [wcs_len]; have := HS2.out; omega) (wcs_one u) 3
   have HC3 : Hid _ := hc3
   have HO3 : Hid _ := o3
   clear hc3 o3
   go_enter Try.func29, Try.ntmps29
   go_upto_region 10 with (at_builtin; refine Lib.wpList_append_run _ rfl (.tmp 34) (.tmp 39) 60 3 rfl _ _ rfl rfl _ _ hr ?_)
   go_upto_region 11 with (at_builtin; refine wpList_copy_run _ rfl (.tmp 43) (.tmp 44) 60 60 rfl _ _ rfl rfl hr3 ?_)
   obtain ⟨o4, hd, ho4⟩ := sll g2 (n + 1) c2 (i + 1) ((i : Int) + 1) (by simp) (by omega)
   obtain ⟨o5, hs, ho5⟩ := sll g n cap i (i : Int) rfl (by omega)
   obtain rfl : o4 = (i + 1) * 11 := ho4 (by omega)
   obtain rfl : o5 = i * 11 := ho5 (by omega)
   rw [show n + 1 - (i + 1) = n - i by omega] at hd
   have hcl2 : cur2.toList.length = c2 * 11 := by rw [Array.length_toList]; exact HS2.out
   have hsl : (spl cur2.toList (i * 11) (wcs u)).length = c2 * 11 := by rw [spl_len (by rw [wcs_len]; omega), hcl2]
   have HSL : Hid _ := hsl
   have HCL2 : Hid _ := hcl2
   clear hsl hcl2 ho4 ho5
   obtain ⟨w4, hr4, hc4, o4⟩ := copy_run (w := w3.drew) (o := (i + 1) * 11) (dLen := n - i) (dCap := c2 - (i + 1)) (sLen := n - i) (sCap := cap - i) (a := ⟨g, i * 11, none⟩) (cs := (xs.drop i).flatMap wcs) HC3.out.drew (n - i) (by show min _ _ = _; omega) HDL.out (HSR.out _ ((HC.out.off HO2.out (fun h => h)).off HO3.out (fun e => by have h1 := HC.out.lt; have h2 := HG2.out; omega)).drew) (by rw [HDL.out, List.size_toArray, HSL.out]; omega) (flw_one wcs_one _) 3
   have HC4 : Hid _ := hc4
   have HO4 : Hid (Off (fun c => c = g2) w3 w4) := ((Off.refl _ w3).drew).trans o4 (fun _ _ h => h)
   clear hc4 o4 hr hr3
   refine wp_region_held_drew (S := fun w' => Off (fun c => c = g2) w3 w') (by kernel_rfl) ((Off.refl _ w3).drew) (fun hS => ?_)
   refine take_at (i := 0) 46 (v := .slice (some ⟨g2, 0, none⟩) (n + 1) c2) rfl rfl (by kernel_rfl) (by kernel_rfl) (by kernel_rfl) (fun _ _ _ h => h) (Or.inl ⟨by rfl, fun w' hw' => by go_simp⟩) hS ?_
   simp only [Act.put, lsA, lsZ, lsS]
   refine take_at (i := 1) 47 (v := .int .i64 (i : Int)) rfl rfl (by kernel_rfl) (by kernel_rfl) (by kernel_rfl) (fun _ _ _ h => h) (Or.inl ⟨by rfl, fun w' hw' => by go_simp⟩) hS ?_
   simp only [Act.put, lsA, lsZ, lsS]
   refine take_at (i := 2) 48 (v := .int .i64 1) rfl rfl (by kernel_rfl) (by kernel_rfl) (by kernel_rfl) (fun _ _ _ h => h) (Or.inl ⟨by rfl, fun w' hw' => by go_simp⟩) hS ?_
   simp only [Act.put, lsA, lsZ, lsS]
   refine take_at (i := 3) 49 (v := .int .i64 ((i : Int) + 1)) rfl rfl (by kernel_rfl) (by kernel_rfl) (by kernel_rfl) (fun _ _ _ h => h) (Or.inl ⟨by rfl, fun w' hw' => by go_simp; rw [IntKind.wrap_i64]; omega⟩) hS ?_
   simp only [Act.put, lsA, lsZ, lsS]
   refine take_at (i := 4) 50 (v := .slice (some ⟨g2, ((i + 1) * 11), none⟩) (n - i) (c2 - (i + 1))) rfl rfl (by kernel_rfl) (by kernel_rfl) (by kernel_rfl) (fun _ _ _ h => h) (Or.inl ⟨by rfl, fun w' hw' => by have := hd w'; go_simp⟩) hS ?_
   simp only [Act.put, lsA, lsZ, lsS]
   refine take_at (i := 5) 51 (v := .slice (some ⟨g, 0, none⟩) n cap) rfl rfl (by kernel_rfl) (by kernel_rfl) (by kernel_rfl) (fun _ _ _ h => h) (Or.inl ⟨by rfl, fun w' hw' => by go_simp⟩) hS ?_
   simp only [Act.put, lsA, lsZ, lsS]
   refine take_at (i := 6) 52 (v := .int .i64 (i : Int)) rfl rfl (by kernel_rfl) (by kernel_rfl) (by kernel_rfl) (fun _ _ _ h => h) (Or.inl ⟨by rfl, fun w' hw' => by go_simp⟩) hS ?_
   simp only [Act.put, lsA, lsZ, lsS]
   refine take_at (i := 7) 53 (v := .slice (some ⟨g, (i * 11), none⟩) (n - i) (cap - i)) rfl rfl (by kernel_rfl) (by kernel_rfl) (by kernel_rfl) (fun _ _ _ h => h) (Or.inl ⟨by rfl, fun w' hw' => by have := hs w'; go_simp⟩) hS ?_
   simp only [Act.put, lsA, lsZ, lsS]
   refine wpAnyH_ready (rs := [8]) (by kernel_rfl) (by simp) ?_
   refine AllReadyH.cons rfl (fun K' hK' => ?_) AllReadyH.nil
   refine wp_copy_if rfl (.tmp 50) (.tmp 53) rfl rfl rfl hr4 54 rfl ?_
   simp only [Act.put, lsA, lsZ, lsS]
   refine hK'.out _ _ HO4.out (fun hS => ?_)
   clear hK' K'
   refine wpAnyH_done (by kernel_rfl) ?_ _
   clear hS
   go_wp2_with fail
   go_ret
   have hsz : (spl (spl cur2.toList (i * 11) (wcs u)).toArray.toList ((i + 1) * 11) ((xs.drop i).flatMap wcs)).length = c2 * 11 := by rw [List.toList_toArray, spl_len (by rw [HDL.out, HSL.out]; omega), HSL.out]
   refine ⟨some ⟨g2, 0, none⟩, c2, n + 1, rfl, HYL.out.symm, ownw_of wcs_len HC4.out (by rw [HYL.out]; exact hl2) HM2.out (by rw [List.size_toArray]; exact hsz) ?_, ?_, fun x hx => ?_⟩
   ·have hsl := HSL.out
    have hdl := HDL.out
    have hcl := HCL2.out
    rw [HYL.out, List.toList_toArray, List.toList_toArray, spl_in (by omega) (by omega), spl_in (by omega) (by rw [wcs_len]; omega), HT2.out, HYF.out]
   ·refine (HO2.out.mono (fun _ _ h => h.elim)).trans ((HO3.out).trans HO4.out (fun _ _ h => h)) (fun c hc e => ?_)
    have := HG2.out
    omega
   ·simp [blk] at hx
    right
    have := HG2.out
    omega
end Go.Proofs.Ytmeclfgehpbjlaa
