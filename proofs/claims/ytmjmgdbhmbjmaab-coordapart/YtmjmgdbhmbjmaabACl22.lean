/- Items of several texts. -/
import Derived.Test.YtmjmgdbhmbjmaabACf22
namespace Go.Proofs.Ytmjmgdbhmbjmaab
set_option maxRecDepth 100000
open Go.RowKit
theorem k9s {o : OpD} {n : Nat} {s : SV} {w : World} (h : OpAt (setTl o n s) w) : w.cell? ⟨o.q, 2, none⟩ = some (.int .i64 (o.kn.f 0)) ∧ w.cell? ⟨o.q, 3, none⟩ = some (.int .i64 (o.kn.f 1)) ∧ w.cell? ⟨o.q, 4, none⟩ = some (.int .i64 (o.kn.f 2)) ∧ w.cell? ⟨o.q, 5, none⟩ = some (.int .i64 (o.kn.f 3)) ∧ w.cell? ⟨o.q, 6, none⟩ = some (.int .i64 (o.kn.f 4)) ∧ w.cell? ⟨o.q, 7, none⟩ = some (.int .i64 (o.kn.f 5)) ∧ w.cell? ⟨o.q, 8, none⟩ = some (.int .i64 (o.kn.f 6)) ∧ w.cell? ⟨o.q, 9, none⟩ = some (.int .i64 (o.kn.f 7)) ∧ w.cell? ⟨o.q, 10, none⟩ = some (.slice o.kn.a o.kn.l.length o.kn.cap) := h.k9
set_option maxHeartbeats 1000000 in
theorem learn_no {o : OpD} {w : World} (h : OpAt o w) (s : SV) (node : Int) (hw : (okN node && o.who node.toNat) = false) : Calls Try.prog 23 #[.pointer (some ⟨o.q, 0, none⟩), .int .i64 node, (.agg #[.int .i64 (s.f 0), .int .i64 (s.f 1), .int .i64 (s.f 2), .int .i64 (s.f 3), .int .i64 (s.f 4), .int .i64 (s.f 5), .int .i64 (s.f 6), .int .i64 (s.f 7), .slice s.a s.l.length s.cap])] w fun e w' => e = .returned (.tuple #[]) ∧ Off (fun _ => False) w w' := by
 have O : Off (fun _ => False) w (w.alloc (.cells #[.int .i64 (s.f 0), .int .i64 (s.f 1), .int .i64 (s.f 2), .int .i64 (s.f 3), .int .i64 (s.f 4), .int .i64 (s.f 5), .int .i64 (s.f 6), .int .i64 (s.f 7), .slice s.a s.l.length s.cap] 30)) := (Off.refl _ w).alloc _
 have h1 := h.off O (fun h => h) (fun h => h)
 have c83 := h1.c83
 have HH : Hid _ := has_any h1.cnt node
 rw [hw] at HH
 have HO : Hid _ := O
 clear h h1 O hw
 go_enter Try.func23, Try.ntmps23
 go_wp2_with fail
 refine Calls.mono HH.out ?_
 rintro e w1 ⟨rfl, hw1⟩
 rw [hw1]
 clear hw1 w1 HH
 go_wp2_with fail
 refine bodyPost_ret (results_none rfl _ _ _) rfl ?_
 exact ⟨rfl, HO.out⟩
set_option maxHeartbeats 2000000 in
theorem learn_yes {Z : Nat → Prop} {o : OpD} {w : World} (h : OpAt o w) (hk : SOk Z w o.kn) (s : SV) (hs : SOk Z w s) (hm : mayA s.abs = true) {n : Nat} (hn : n < 8) (hw : o.who n = true) (hq : Z o.q) (hZ : ∀ c, Z c → c < w.heap.size) :
  Calls Try.prog 23 #[.pointer (some ⟨o.q, 0, none⟩), .int .i64 (n : Int), (.agg #[.int .i64 (s.f 0), .int .i64 (s.f 1), .int .i64 (s.f 2), .int .i64 (s.f 3), .int .i64 (s.f 4), .int .i64 (s.f 5), .int .i64 (s.f 6), .int .i64 (s.f 7), .slice s.a s.l.length s.cap])] w fun e w' => e = .returned (.tuple #[]) ∧ ∃ u1 u2 : SV, u1.abs = s.abs ∧ u2.abs = joinS o.kn.abs s.abs ∧ OpAt (setKn (setTl o n u1) u2) w' ∧ SOk Z w' u1 ∧ SOk Z w' u2 ∧ Off (fun c => c = o.q) w w' := by
 obtain ⟨W, hW⟩ : ∃ W, W = w.alloc (.cells #[.int .i64 (s.f 0), .int .i64 (s.f 1), .int .i64 (s.f 2), .int .i64 (s.f 3), .int .i64 (s.f 4), .int .i64 (s.f 5), .int .i64 (s.f 6), .int .i64 (s.f 7), .slice s.a s.l.length s.cap] 30) := ⟨_, rfl⟩
 have oo : Off (fun _ => False) w W := by rw [hW]; exact (Off.refl _ w).alloc _
 have HB : Hid (Cel w.heap.size 30 #[.int .i64 (s.f 0), .int .i64 (s.f 1), .int .i64 (s.f 2), .int .i64 (s.f 3), .int .i64 (s.f 4), .int .i64 (s.f 5), .int .i64 (s.f 6), .int .i64 (s.f 7), .slice s.a s.l.length s.cap] W) := by rw [hW]; exact Cel.new w _ _
 have HW : Hid (w.alloc (.cells #[.int .i64 (s.f 0), .int .i64 (s.f 1), .int .i64 (s.f 2), .int .i64 (s.f 3), .int .i64 (s.f 4), .int .i64 (s.f 5), .int .i64 (s.f 6), .int .i64 (s.f 7), .slice s.a s.l.length s.cap] 30) = W) := hW.symm
 have h1 := h.off oo (fun h => h) (fun h => h)
 have HO : Hid _ := h1
 have HH : Hid _ := has_any h1.cnt (n : Int)
 rw [okN_of hn, Int.toNat_natCast, hw] at HH
 have c83 := h1.c83
 have HNB : Hid (w.heap.size ≠ o.q) := fun e => by have := h.cel.lt; omega
 have HR : Hid _ := hs.row.off oo
 have HSO : Hid (SOk Z w s) := hs
 have HKO : Hid (SOk Z w o.kn) := hk
 have HM : Hid _ := hm
 have HNR : Hid (Nrm s.f) := hs.nrm
 have HN8 : Hid (n < 8) := hn
 have HOW : Hid _ := oo
 have HZ : Hid _ := hZ
 have HQ : Hid (Z o.q) := hq
 obtain ⟨O, hO⟩ : ∃ O, O = 11 + 9 * n := ⟨_, rfl⟩
 have HOO : Hid (O = 11 + 9 * n) := hO
 clear h h1 oo hW hs hk hm hn hw hZ hq hO
 go_enter Try.func23, Try.ntmps23
 go_upto_region 1 with fail
 rw [HW.out]
 go_wp2_with fail
 refine Calls.mono HH.out ?_
 rintro e w1 ⟨rfl, hw1⟩
 rw [hw1]
 clear hw1 w1 HH c83
 go_wp2_with fail
 refine wp_region_held_drew (S := fun w' => Off (fun c => c = o.q) W w') (by kernel_rfl) ((Off.refl _ W).drew) (fun hS => ?_)
 refine take_at (i := 0) 13 (v := .pointer (some ⟨o.q, 0, none⟩)) rfl rfl (by kernel_rfl) (by kernel_rfl) (by kernel_rfl) (fun _ _ _ h => h) (Or.inl ⟨by rfl, fun w' hw' => by go_simp⟩) hS ?_
 simp only [Act.put, lsA, lsZ, lsS]
 refine take_at (i := 1) 14 (v := .int .i64 (n : Int)) rfl rfl (by kernel_rfl) (by kernel_rfl) (by kernel_rfl) (fun _ _ _ h => h) (Or.inl ⟨by rfl, fun w' hw' => by go_simp⟩) hS ?_
 simp only [Act.put, lsA, lsZ, lsS]
 refine take_at (i := 2) 15 (v := (.agg #[.int .i64 (s.f 0), .int .i64 (s.f 1), .int .i64 (s.f 2), .int .i64 (s.f 3), .int .i64 (s.f 4), .int .i64 (s.f 5), .int .i64 (s.f 6), .int .i64 (s.f 7), .slice s.a s.l.length s.cap])) rfl rfl (by kernel_rfl) (by kernel_rfl) (by kernel_rfl) (fun _ _ _ h => h) (Or.inl ⟨by rfl, fun w' hw' => by obtain ⟨x0, x1, x2, x3, x4, x5, x6, x7, x8⟩ := cel9 (HB.out.off hw' HNB.out); go_simp⟩) hS ?_
 simp only [Act.put, lsA, lsZ, lsS]
 refine take_at (i := 4) 17 (v := .pointer (some ⟨o.q, 0, none⟩)) rfl rfl (by kernel_rfl) (by kernel_rfl) (by kernel_rfl) (fun _ _ _ h => h) (Or.inl ⟨by rfl, fun w' hw' => by go_simp⟩) hS ?_
 simp only [Act.put, lsA, lsZ, lsS]
 refine take_at (i := 5) 18 (v := .pointer (some ⟨o.q, 11, none⟩)) rfl rfl (by kernel_rfl) (by kernel_rfl) (by kernel_rfl) (fun _ _ _ h => h) (Or.inl ⟨by rfl, fun w' hw' => by go_simp⟩) hS ?_
 simp only [Act.put, lsA, lsZ, lsS]
 refine wpAnyH_ready (rs := [3]) (by kernel_rfl) (by simp) ?_
 refine AllReadyH.cons rfl (fun K' hK' => ?_) AllReadyH.nil
 have oW : Off (fun _ => False) W W.drew := (Off.refl _ W).drew
 go_simp
 refine Calls.mono (copyS_any s _ (HR.out.off oW) HM.out HNR.out) ?_
 rintro e v1 ⟨u1, rfl, hu1, md1, o1⟩
 have hS1 := hS.trans o1 (fun _ _ h => h.elim)
 have oV := oW.trans o1 (fun _ _ h => h)
 refine hK'.out _ _ hS1 (fun hS => ?_)
 clear hK' K' hS1
 refine take_at (i := 6) 19 (v := .pointer (some ⟨o.q, O, none⟩)) rfl rfl (by kernel_rfl) (by kernel_rfl) (by kernel_rfl) (fun _ _ _ h => h) (Or.inl ⟨by rfl, fun w' hw' => by have ht := at_told o.q HN8.out w'; rw [← HOO.out] at ht; go_simp⟩) hS ?_
 simp only [Act.put, lsA, lsZ, lsS]
 have HU1 : Hid _ := hu1
 have HM1 : Hid _ := md1
 have HO1 : Hid _ := oV
 have HV : Hid (OpAt o v1) := HO.out.off oV (fun h => h) (fun h => h)
 obtain ⟨x0, x1, x2, x3, x4, x5, x6, x7, x8⟩ := range9 (HV.out.toldN HN8.out HOO.out)
 have fr := HV.out.cel.free
 clear hu1 md1 o1 oV oW
 refine wpAnyH_ready (rs := [7]) (by kernel_rfl) (by simp) ?_
 refine AllReadyH.cons rfl (fun K' hK' => ?_) AllReadyH.nil
 go_simp
 have hS2 := hS.st9A (b := o.q) (.inl rfl) O u1
 refine hK'.out _ _ hS2 (fun hS => ?_)
 clear hK' K' hS2 x0 x1 x2 x3 x4 x5 x6 x7 x8 fr
 refine wpAnyH_done (by kernel_rfl) ?_ _
 have HV2 : Hid (OpAt (setTl o n u1) (st9A v1 o.q O u1)) := HV.out.setTl HV.out.ne HN8.out HOO.out u1
 have HB2 : Hid (Cel w.heap.size 30 #[.int .i64 (s.f 0), .int .i64 (s.f 1), .int .i64 (s.f 2), .int .i64 (s.f 3), .int .i64 (s.f 4), .int .i64 (s.f 5), .int .i64 (s.f 6), .int .i64 (s.f 7), .slice s.a s.l.length s.cap] (st9A v1 o.q O u1)) := (HB.out.off HO1.out (fun h => h)).st9Ao HNB.out O u1
 have HT : Hid (Off (fun c => c = o.q) v1 (st9A v1 o.q O u1)) := (Off.refl (fun c => c = o.q) v1).st9A (.inl rfl) O u1
 have HOT : Hid (Off (fun c => c = o.q) w (st9A v1 o.q O u1)) := ((HOW.out.trans HO1.out (fun _ _ h => h)).mono (fun _ _ h => h.elim)).trans HT.out (fun _ _ h => h)
 have HZQ : Hid (∀ c, c = o.q → Z c) := fun c e => e ▸ HQ.out
 have HR2 : Hid (Row (st9A v1 o.q O u1) s.a s.cap s.l) := (HSO.out.off HOT.out (fun c _ => HZQ.out c)).row
 have HRK : Hid (Row (st9A v1 o.q O u1) o.kn.a o.kn.cap o.kn.l) := (HKO.out.off HOT.out (fun c _ => HZQ.out c)).row
 have HS1 : Hid (SOk Z v1 u1) := SOk.made HM1.out (by have e : u1.f = s.f := congrArg SA.f HU1.out; show Nrm u1.f; rw [e]; exact HNR.out) (fun c hc => Nat.lt_of_lt_of_le (HZ.out c hc) (HOW.out.trans (Off.refl _ W).drew (fun _ _ h => h)).size)
 clear hS
 unfold st9A at HV2 HB2 HT HOT HR2 HRK
 generalize hVV : ((((((((v1.setCell ⟨o.q, O, none⟩ (.int .i64 (u1.f 0))).setCell ⟨o.q, O + 1, none⟩ (.int .i64 (u1.f 1))).setCell ⟨o.q, O + 2, none⟩ (.int .i64 (u1.f 2))).setCell ⟨o.q, O + 3, none⟩ (.int .i64 (u1.f 3))).setCell ⟨o.q, O + 4, none⟩ (.int .i64 (u1.f 4))).setCell ⟨o.q, O + 5, none⟩ (.int .i64 (u1.f 5))).setCell ⟨o.q, O + 6, none⟩ (.int .i64 (u1.f 6))).setCell ⟨o.q, O + 7, none⟩ (.int .i64 (u1.f 7))).setCell ⟨o.q, O + 8, none⟩ (.slice u1.a u1.l.length u1.cap) = V at HV2 HB2 HT HOT HR2 HRK ⊢
 clear hVV
 go_wp2_with fail
 have oW : Off (fun _ => False) V V.drew := (Off.refl _ V).drew
 refine wp_region_held_drew (S := fun w' => Off (fun c => c = o.q) V w') (by kernel_rfl) ((Off.refl _ V).drew) (fun hS => ?_)
 refine take_at (i := 0) 20 (v := .pointer (some ⟨o.q, 0, none⟩)) rfl rfl (by kernel_rfl) (by kernel_rfl) (by kernel_rfl) (fun _ _ _ h => h) (Or.inl ⟨by rfl, fun w' hw' => by go_simp⟩) hS ?_
 simp only [Act.put, lsA, lsZ, lsS]
 refine take_at (i := 1) 21 (v := .pointer (some ⟨o.q, 0, none⟩)) rfl rfl (by kernel_rfl) (by kernel_rfl) (by kernel_rfl) (fun _ _ _ h => h) (Or.inl ⟨by rfl, fun w' hw' => by go_simp⟩) hS ?_
 simp only [Act.put, lsA, lsZ, lsS]
 refine take_at (i := 2) 22 (v := .pointer (some ⟨o.q, 0, none⟩)) rfl rfl (by kernel_rfl) (by kernel_rfl) (by kernel_rfl) (fun _ _ _ h => h) (Or.inl ⟨by rfl, fun w' hw' => by go_simp⟩) hS ?_
 simp only [Act.put, lsA, lsZ, lsS]
 refine take_at (i := 3) 23 (v := .pointer (some ⟨o.q, 2, none⟩)) rfl rfl (by kernel_rfl) (by kernel_rfl) (by kernel_rfl) (fun _ _ _ h => h) (Or.inl ⟨by rfl, fun w' hw' => by go_simp⟩) hS ?_
 simp only [Act.put, lsA, lsZ, lsS]
 refine take_at (i := 5) 25 (v := (.agg #[.int .i64 (s.f 0), .int .i64 (s.f 1), .int .i64 (s.f 2), .int .i64 (s.f 3), .int .i64 (s.f 4), .int .i64 (s.f 5), .int .i64 (s.f 6), .int .i64 (s.f 7), .slice s.a s.l.length s.cap])) rfl rfl (by kernel_rfl) (by kernel_rfl) (by kernel_rfl) (fun _ _ _ h => h) (Or.inl ⟨by rfl, fun w' hw' => by obtain ⟨x0, x1, x2, x3, x4, x5, x6, x7, x8⟩ := cel9 (HB2.out.off hw' HNB.out); go_simp⟩) hS ?_
 simp only [Act.put, lsA, lsZ, lsS]
 refine wpAnyH_ready (rs := [4]) (by kernel_rfl) (by simp) ?_
 refine AllReadyH.cons rfl (fun K' hK' => ?_) AllReadyH.nil
 obtain ⟨x0, x1, x2, x3, x4, x5, x6, x7, x8⟩ := k9s HV2.out
 go_simp
 refine hK'.out _ _ hS (fun hS => ?_)
 clear hK' K'
 clear x0 x1 x2 x3 x4 x5 x6 x7 x8
 refine wpAnyH_ready (rs := [6]) (by kernel_rfl) (by simp) ?_
 refine AllReadyH.cons rfl (fun K' hK' => ?_) AllReadyH.nil
 go_simp
 refine Calls.mono (sjoinS o.kn s _ (HRK.out.off oW) (HR2.out.off oW)) ?_
 rintro e v3 ⟨u2, rfl, hu2, md2, o2⟩
 have hS1 := hS.trans o2 (fun _ _ h => h.elim)
 have oV := oW.trans o2 (fun _ _ h => h)
 refine hK'.out _ _ hS1 (fun hS => ?_)
 clear hK' K' hS1
 refine take_at (i := 7) 27 (v := .pointer (some ⟨o.q, 0, none⟩)) rfl rfl (by kernel_rfl) (by kernel_rfl) (by kernel_rfl) (fun _ _ _ h => h) (Or.inl ⟨by rfl, fun w' hw' => by go_simp⟩) hS ?_
 simp only [Act.put, lsA, lsZ, lsS]
 refine take_at (i := 8) 28 (v := .pointer (some ⟨o.q, 2, none⟩)) rfl rfl (by kernel_rfl) (by kernel_rfl) (by kernel_rfl) (fun _ _ _ h => h) (Or.inl ⟨by rfl, fun w' hw' => by go_simp⟩) hS ?_
 simp only [Act.put, lsA, lsZ, lsS]
 have HU2 : Hid _ := hu2
 have HM2 : Hid _ := md2
 have HO3 : Hid _ := oV
 have HV3 : Hid (OpAt (setTl o n u1) v3) := HV2.out.off oV (fun h => h) (fun h => h)
 obtain ⟨x0, x1, x2, x3, x4, x5, x6, x7, x8⟩ := k9s HV3.out
 have fr : ∀ k, v3.frozen? ⟨o.q, k, none⟩ = false := HV3.out.cel.free
 clear hu2 md2 o2 oV oW
 refine wpAnyH_ready (rs := [9]) (by kernel_rfl) (by simp) ?_
 refine AllReadyH.cons rfl (fun K' hK' => ?_) AllReadyH.nil
 go_simp
 have hS2 := hS.st9A (b := o.q) (.inl rfl) 2 u2
 refine hK'.out _ _ hS2 (fun hS => ?_)
 clear hK' K' hS2 x0 x1 x2 x3 x4 x5 x6 x7 x8 fr
 refine wpAnyH_done (by kernel_rfl) ?_ _
 go_wp2_with fail
 go_end0
 have os : Off (fun c => c = o.q) v3 (st9A v3 o.q 2 u2) := (Off.refl (fun c => c = o.q) v3).st9A (.inl rfl) 2 u2
 have O3 : Off (fun c => c = o.q) w v3 := HOT.out.trans (HO3.out.mono (E := fun c => c = o.q) (fun _ _ h => h.elim)) (fun _ _ h => h)
 have zq : ∀ (x : World) c, c < x.heap.size → c = o.q → Z c := fun _ c _ => HZQ.out c
 refine ⟨rfl, u1, u2, HU1.out, HU2.out, HV3.out.setKn HV3.out.ne u2, ((HS1.out.off HT.out (zq _)).free HO3.out).off os (zq _), ?_, O3.trans os (fun _ _ h => h)⟩
 refine (SOk.made HM2.out ?_ (fun c hc => Nat.lt_of_lt_of_le (HZ.out c hc) (HOT.out.trans (Off.refl (fun c => c = o.q) V).drew (fun _ _ h => h)).size)).off os (zq _)
 have e : u2.f = (joinS o.kn.abs s.abs).f := congrArg SA.f HU2.out
 rw [e]
 exact nrm_join HKO.out.nrm HNR.out
end Go.Proofs.Ytmjmgdbhmbjmaab
