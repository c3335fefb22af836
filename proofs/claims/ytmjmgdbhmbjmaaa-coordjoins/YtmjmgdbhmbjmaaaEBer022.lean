/- Items of several texts. -/
import Derived.Test.YtmjmgdbhmbjmaaaECe22
namespace Go.Proofs.Ytmjmgdbhmbjmaaa
set_option maxRecDepth 100000
open Go.RowKit
set_option maxHeartbeats 4000000 in
theorem begin_r0 {D Z : Nat → Prop} {p : Nat} {x : CM} {w : World} (h : CST D Z p x w) (hmb : x.mb = none) (hx : ¬ 64 ≤ x.t.length) (self need : Int) (key : ByteArray) (s : SV) (hs : SOk Z w s) (hm : (keyB key && mayA s.abs) = true) (hl0 : x.last < 1000000) (h0 : 0 ≤ x.last) : Calls Try.prog 38 #[.pointer (some ⟨p, 0, none⟩), .int .i64 self, .int .i64 need, .bool true, (.agg #[.string key, .int .i64 (s.f 0), .int .i64 (s.f 1), .int .i64 (s.f 2), .int .i64 (s.f 3), .int .i64 (s.f 4), .int .i64 (s.f 5), .int .i64 (s.f 6), .int .i64 (s.f 7), .slice s.a s.l.length s.cap])] w fun e w' => ∃ x' D' Z', CST D' Z' p x' w' ∧ Gro D D' Z Z' w w' ∧ x'.abs = (beginA x.abs self need true key s.abs).1 ∧ e = .returned (.tuple #[.int .i64 (beginA x.abs self need true key s.abs).2.1, .int .i64 (beginA x.abs self need true key s.abs).2.2]) := by
 have hq := eql_pC
 have hqm : ∀ W, (binOp .eql 76 (.map x.mb) (.map none)).run Try.prog W = .ok (.bool true) W := fun W => by rw [hmb]; exact eql_mp _ W
 have HMB : Hid _ := hmb
 clear hmb
 have O : Off (fun _ => False) w (w.alloc (.cells #[.string key, .int .i64 (s.f 0), .int .i64 (s.f 1), .int .i64 (s.f 2), .int .i64 (s.f 3), .int .i64 (s.f 4), .int .i64 (s.f 5), .int .i64 (s.f 6), .int .i64 (s.f 7), .slice s.a s.l.length s.cap] 63)) := (Off.refl _ w).alloc _
 have c2 := (h.free O).c2
 have hl := len_map (h.free O)
 have hd : decide ((64 : Int) ≤ (x.t.length : Int)) = false := decide_eq_false (by omega)
 have hm2 : mayA s.abs = true := by rw [Bool.and_eq_true] at hm; exact hm.2
 have HO : Hid _ := O
 have HC0 : Hid _ := h
 have HSO : Hid _ := hs
 have HE : Hid _ := smayentry_any key s.f s.a s.cap s.l _ (hs.row.off O)
 have hm' : (keyB key && mayS s.f (cont s.l)) = true := hm
 rw [hm'] at HE
 have HB0 : Hid (Cel w.heap.size 63 #[.string key, .int .i64 (s.f 0), .int .i64 (s.f 1), .int .i64 (s.f 2), .int .i64 (s.f 3), .int .i64 (s.f 4), .int .i64 (s.f 5), .int .i64 (s.f 6), .int .i64 (s.f 7), .slice s.a s.l.length s.cap] (w.alloc (.cells #[.string key, .int .i64 (s.f 0), .int .i64 (s.f 1), .int .i64 (s.f 2), .int .i64 (s.f 3), .int .i64 (s.f 4), .int .i64 (s.f 5), .int .i64 (s.f 6), .int .i64 (s.f 7), .slice s.a s.l.length s.cap] 63))) := Cel.new w 63 #[.string key, .int .i64 (s.f 0), .int .i64 (s.f 1), .int .i64 (s.f 2), .int .i64 (s.f 3), .int .i64 (s.f 4), .int .i64 (s.f 5), .int .i64 (s.f 6), .int .i64 (s.f 7), .slice s.a s.l.length s.cap]
 obtain ⟨x0, x1, x2, x3, x4, x5, x6, x7, x8, x9⟩ := ce10 HB0.out
 have HM : Hid _ := hm2
 have HMM : Hid _ := hm
 have HX : Hid _ := hx
 have HNR : Hid _ := hs.nrm
 clear h O hm hm' hm2 hs hx
 go_enter Try.func38, Try.ntmps38
 go_wp2_with fail
 refine Calls.mono HE.out ?_
 rintro e V ⟨rfl, o1⟩
 have OV := HO.out.trans o1 (fun _ _ h => h)
 have HOV : Hid _ := OV
 have HB : Hid _ := HB0.out.off o1 (fun h => h)
 have HSR : Hid _ := HSO.out.row.off OV
 have HBL : Hid (w.heap.size < V.heap.size) := HB.out.lt
 clear o1 OV x0 x1 x2 x3 x4 x5 x6 x7 x8 x9 c2 hl HE
 generalize w.heap.size = B at HB HBL ⊢
 go_upto_region 7 with fail
 refine wp_region_held_drew (S := fun w' => Off (fun _ => False) V w') (by kernel_rfl) ((Off.refl _ V).drew) (fun hS => ?_)
 refine take_at (i := 0) 27 (v := .bool true) rfl rfl (by kernel_rfl) (by kernel_rfl) (by kernel_rfl) (fun _ _ _ h => h) (Or.inl ⟨by rfl, fun w' hw' => by go_simp⟩) hS ?_
 simp only [Act.put, lsA, lsZ, lsS]
 refine take_at (i := 1) 28 (v := .pointer (some ⟨B, 0, none⟩)) rfl rfl (by kernel_rfl) (by kernel_rfl) (by kernel_rfl) (fun _ _ _ h => h) (Or.inl ⟨by rfl, fun w' hw' => by go_simp⟩) hS ?_
 simp only [Act.put, lsA, lsZ, lsS]
 refine take_at (i := 2) 29 (v := .string key) rfl rfl (by kernel_rfl) (by kernel_rfl) (by kernel_rfl) (fun _ _ _ h => h) (Or.inl ⟨by rfl, fun w' hw' => by obtain ⟨x0, x1, x2, x3, x4, x5, x6, x7, x8, x9⟩ := ce10 (HB.out.off hw' (fun h => h)); go_simp⟩) hS ?_
 simp only [Act.put, lsA, lsZ, lsS]
 refine take_at (i := 3) 30 (v := .pointer (some ⟨B, 1, none⟩)) rfl rfl (by kernel_rfl) (by kernel_rfl) (by kernel_rfl) (fun _ _ _ h => h) (Or.inl ⟨by rfl, fun w' hw' => by go_simp⟩) hS ?_
 simp only [Act.put, lsA, lsZ, lsS]
 refine take_at (i := 4) 31 (v := (.agg #[.int .i64 (s.f 0), .int .i64 (s.f 1), .int .i64 (s.f 2), .int .i64 (s.f 3), .int .i64 (s.f 4), .int .i64 (s.f 5), .int .i64 (s.f 6), .int .i64 (s.f 7), .slice s.a s.l.length s.cap])) rfl rfl (by kernel_rfl) (by kernel_rfl) (by kernel_rfl) (fun _ _ _ h => h) (Or.inl ⟨by rfl, fun w' hw' => by obtain ⟨x0, x1, x2, x3, x4, x5, x6, x7, x8, x9⟩ := ce10 (HB.out.off hw' (fun h => h)); go_simp⟩) hS ?_
 simp only [Act.put, lsA, lsZ, lsS]
 refine take_at (i := 6) 33 (v := .int .i64 need) rfl rfl (by kernel_rfl) (by kernel_rfl) (by kernel_rfl) (fun _ _ _ h => h) (Or.inl ⟨by rfl, fun w' hw' => by go_simp⟩) hS ?_
 simp only [Act.put, lsA, lsZ, lsS]
 refine wpAnyH_ready (rs := [5]) (by kernel_rfl) (by simp) ?_
 refine AllReadyH.cons rfl (fun K' hK' => ?_) AllReadyH.nil
 go_simp
 refine Calls.mono (copyS_any s _ (HSR.out.off hS) HM.out HNR.out) ?_
 rintro e v1 ⟨u, rfl, hu, md, o1⟩
 have hS1 := hS.trans o1 (fun _ _ h => h)
 refine hK'.out _ _ hS1 (fun hS => ?_)
 clear hK' K' hS1
 have HU : Hid _ := hu
 have HMD : Hid _ := md
 have HSU : Hid (SOk (fun c => Z c ∨ v1.heap.size ≤ c) v1 u) := (SOk.made (Z := Z) md (by have e : u.f = s.f := congrArg SA.f hu; show Nrm u.f; rw [e]; exact HNR.out) (fun c hc => Nat.lt_of_lt_of_le (HC0.out.lt c hc) HOV.out.size)).to (fun c hc z => z.elim id (fun e => by omega))
 clear hu md o1
 refine wpAnyH_ready (rs := [7]) (by kernel_rfl) (by simp) ?_
 refine AllReadyH.cons rfl (fun K' hK' => ?_) AllReadyH.nil
 have hSv := hS
 go_simp
 refine Calls.mono (qnew_any need _) ?_
 rintro e v2 ⟨rfl, hc, o2⟩
 have hS1 := hS.trans o2 (fun _ _ h => h)
 refine hK'.out _ _ hS1 (fun hS => ?_)
 clear hK' K' hS1
 have HCB : Hid (V.heap.size ≤ v1.heap.size) := hSv.size
 have HSU2 : Hid _ := HSU.out.free o2
 have HQC : Hid (v1.heap.size ≤ v2.heap.size) := o2.size
 generalize v1.heap.size = cb at hc HCB HSU2 HQC ⊢
 clear hSv o2 HSU
 refine take_at (i := 8) 35 (v := (.agg #[.bool true, .string key, .int .i64 (u.f 0), .int .i64 (u.f 1), .int .i64 (u.f 2), .int .i64 (u.f 3), .int .i64 (u.f 4), .int .i64 (u.f 5), .int .i64 (u.f 6), .int .i64 (u.f 7), .slice u.a u.l.length u.cap, .int .i64 0, .int .i64 0, .int .i64 0, .int .i64 0, .int .i64 0, .int .i64 0, .int .i64 0, .int .i64 0, .slice none 0 0, .int .i64 0, .int .i64 0, .int .i64 0, .int .i64 0, .int .i64 0, .int .i64 0, .int .i64 0, .int .i64 0, .slice none 0 0, .int .i64 0, .int .i64 0, .int .i64 0, .int .i64 0, .int .i64 0, .int .i64 0, .int .i64 0, .int .i64 0, .slice none 0 0, .int .i64 0, .int .i64 0, .int .i64 0, .int .i64 0, .int .i64 0, .int .i64 0, .int .i64 0, .int .i64 0, .slice none 0 0, .int .i64 0, .int .i64 0, .int .i64 0, .int .i64 0, .int .i64 0, .int .i64 0, .int .i64 0, .int .i64 0, .slice none 0 0, .int .i64 0, .int .i64 0, .int .i64 0, .int .i64 0, .int .i64 0, .int .i64 0, .int .i64 0, .int .i64 0, .slice none 0 0, .int .i64 0, .int .i64 0, .int .i64 0, .int .i64 0, .int .i64 0, .int .i64 0, .int .i64 0, .int .i64 0, .slice none 0 0, .int .i64 0, .int .i64 0, .int .i64 0, .int .i64 0, .int .i64 0, .int .i64 0, .int .i64 0, .int .i64 0, .slice none 0 0, .pointer (some ⟨cb, 0, none⟩), .int .i64 0])) rfl rfl (by kernel_rfl) (by kernel_rfl) (by kernel_rfl) (fun _ _ _ h => h) (Or.inl ⟨by rfl, fun w' hw' => by go_simp; kernel_rfl⟩) hS ?_
 simp only [Act.put, lsA, lsZ, lsS]
 refine wpAnyH_ready (rs := [9]) (by kernel_rfl) (by simp) ?_
 refine AllReadyH.cons rfl (fun K' hK' => ?_) AllReadyH.nil
 go_simp
 have Cq := Cel.new v2 86 #[.bool true, .string key, .int .i64 (u.f 0), .int .i64 (u.f 1), .int .i64 (u.f 2), .int .i64 (u.f 3), .int .i64 (u.f 4), .int .i64 (u.f 5), .int .i64 (u.f 6), .int .i64 (u.f 7), .slice u.a u.l.length u.cap, .int .i64 0, .int .i64 0, .int .i64 0, .int .i64 0, .int .i64 0, .int .i64 0, .int .i64 0, .int .i64 0, .slice none 0 0, .int .i64 0, .int .i64 0, .int .i64 0, .int .i64 0, .int .i64 0, .int .i64 0, .int .i64 0, .int .i64 0, .slice none 0 0, .int .i64 0, .int .i64 0, .int .i64 0, .int .i64 0, .int .i64 0, .int .i64 0, .int .i64 0, .int .i64 0, .slice none 0 0, .int .i64 0, .int .i64 0, .int .i64 0, .int .i64 0, .int .i64 0, .int .i64 0, .int .i64 0, .int .i64 0, .slice none 0 0, .int .i64 0, .int .i64 0, .int .i64 0, .int .i64 0, .int .i64 0, .int .i64 0, .int .i64 0, .int .i64 0, .slice none 0 0, .int .i64 0, .int .i64 0, .int .i64 0, .int .i64 0, .int .i64 0, .int .i64 0, .int .i64 0, .int .i64 0, .slice none 0 0, .int .i64 0, .int .i64 0, .int .i64 0, .int .i64 0, .int .i64 0, .int .i64 0, .int .i64 0, .int .i64 0, .slice none 0 0, .int .i64 0, .int .i64 0, .int .i64 0, .int .i64 0, .int .i64 0, .int .i64 0, .int .i64 0, .int .i64 0, .slice none 0 0, .pointer (some ⟨cb, 0, none⟩), .int .i64 0]
 have hS1 := hS.alloc (.cells #[.bool true, .string key, .int .i64 (u.f 0), .int .i64 (u.f 1), .int .i64 (u.f 2), .int .i64 (u.f 3), .int .i64 (u.f 4), .int .i64 (u.f 5), .int .i64 (u.f 6), .int .i64 (u.f 7), .slice u.a u.l.length u.cap, .int .i64 0, .int .i64 0, .int .i64 0, .int .i64 0, .int .i64 0, .int .i64 0, .int .i64 0, .int .i64 0, .slice none 0 0, .int .i64 0, .int .i64 0, .int .i64 0, .int .i64 0, .int .i64 0, .int .i64 0, .int .i64 0, .int .i64 0, .slice none 0 0, .int .i64 0, .int .i64 0, .int .i64 0, .int .i64 0, .int .i64 0, .int .i64 0, .int .i64 0, .int .i64 0, .slice none 0 0, .int .i64 0, .int .i64 0, .int .i64 0, .int .i64 0, .int .i64 0, .int .i64 0, .int .i64 0, .int .i64 0, .slice none 0 0, .int .i64 0, .int .i64 0, .int .i64 0, .int .i64 0, .int .i64 0, .int .i64 0, .int .i64 0, .int .i64 0, .slice none 0 0, .int .i64 0, .int .i64 0, .int .i64 0, .int .i64 0, .int .i64 0, .int .i64 0, .int .i64 0, .int .i64 0, .slice none 0 0, .int .i64 0, .int .i64 0, .int .i64 0, .int .i64 0, .int .i64 0, .int .i64 0, .int .i64 0, .int .i64 0, .slice none 0 0, .int .i64 0, .int .i64 0, .int .i64 0, .int .i64 0, .int .i64 0, .int .i64 0, .int .i64 0, .int .i64 0, .slice none 0 0, .pointer (some ⟨cb, 0, none⟩), .int .i64 0] 86)
 have hc1 : Cnt cb need (fun _ => false) (v2.alloc (.cells #[.bool true, .string key, .int .i64 (u.f 0), .int .i64 (u.f 1), .int .i64 (u.f 2), .int .i64 (u.f 3), .int .i64 (u.f 4), .int .i64 (u.f 5), .int .i64 (u.f 6), .int .i64 (u.f 7), .slice u.a u.l.length u.cap, .int .i64 0, .int .i64 0, .int .i64 0, .int .i64 0, .int .i64 0, .int .i64 0, .int .i64 0, .int .i64 0, .slice none 0 0, .int .i64 0, .int .i64 0, .int .i64 0, .int .i64 0, .int .i64 0, .int .i64 0, .int .i64 0, .int .i64 0, .slice none 0 0, .int .i64 0, .int .i64 0, .int .i64 0, .int .i64 0, .int .i64 0, .int .i64 0, .int .i64 0, .int .i64 0, .slice none 0 0, .int .i64 0, .int .i64 0, .int .i64 0, .int .i64 0, .int .i64 0, .int .i64 0, .int .i64 0, .int .i64 0, .slice none 0 0, .int .i64 0, .int .i64 0, .int .i64 0, .int .i64 0, .int .i64 0, .int .i64 0, .int .i64 0, .int .i64 0, .slice none 0 0, .int .i64 0, .int .i64 0, .int .i64 0, .int .i64 0, .int .i64 0, .int .i64 0, .int .i64 0, .int .i64 0, .slice none 0 0, .int .i64 0, .int .i64 0, .int .i64 0, .int .i64 0, .int .i64 0, .int .i64 0, .int .i64 0, .int .i64 0, .slice none 0 0, .int .i64 0, .int .i64 0, .int .i64 0, .int .i64 0, .int .i64 0, .int .i64 0, .int .i64 0, .int .i64 0, .slice none 0 0, .pointer (some ⟨cb, 0, none⟩), .int .i64 0] 86)) := ⟨hc.cel.alloc _⟩
 have md1 := HSU2.out.free ((Off.refl (fun _ => False) v2).alloc (.cells #[.bool true, .string key, .int .i64 (u.f 0), .int .i64 (u.f 1), .int .i64 (u.f 2), .int .i64 (u.f 3), .int .i64 (u.f 4), .int .i64 (u.f 5), .int .i64 (u.f 6), .int .i64 (u.f 7), .slice u.a u.l.length u.cap, .int .i64 0, .int .i64 0, .int .i64 0, .int .i64 0, .int .i64 0, .int .i64 0, .int .i64 0, .int .i64 0, .slice none 0 0, .int .i64 0, .int .i64 0, .int .i64 0, .int .i64 0, .int .i64 0, .int .i64 0, .int .i64 0, .int .i64 0, .slice none 0 0, .int .i64 0, .int .i64 0, .int .i64 0, .int .i64 0, .int .i64 0, .int .i64 0, .int .i64 0, .int .i64 0, .slice none 0 0, .int .i64 0, .int .i64 0, .int .i64 0, .int .i64 0, .int .i64 0, .int .i64 0, .int .i64 0, .int .i64 0, .slice none 0 0, .int .i64 0, .int .i64 0, .int .i64 0, .int .i64 0, .int .i64 0, .int .i64 0, .int .i64 0, .int .i64 0, .slice none 0 0, .int .i64 0, .int .i64 0, .int .i64 0, .int .i64 0, .int .i64 0, .int .i64 0, .int .i64 0, .int .i64 0, .slice none 0 0, .int .i64 0, .int .i64 0, .int .i64 0, .int .i64 0, .int .i64 0, .int .i64 0, .int .i64 0, .int .i64 0, .slice none 0 0, .int .i64 0, .int .i64 0, .int .i64 0, .int .i64 0, .int .i64 0, .int .i64 0, .int .i64 0, .int .i64 0, .slice none 0 0, .pointer (some ⟨cb, 0, none⟩), .int .i64 0] 86))
 have HQV : Hid (V.heap.size ≤ v2.heap.size) := hS.size
 refine hK'.out _ _ hS1 (fun hS => ?_)
 clear hK' K' hS1
 generalize hV3 : v2.alloc (.cells #[.bool true, .string key, .int .i64 (u.f 0), .int .i64 (u.f 1), .int .i64 (u.f 2), .int .i64 (u.f 3), .int .i64 (u.f 4), .int .i64 (u.f 5), .int .i64 (u.f 6), .int .i64 (u.f 7), .slice u.a u.l.length u.cap, .int .i64 0, .int .i64 0, .int .i64 0, .int .i64 0, .int .i64 0, .int .i64 0, .int .i64 0, .int .i64 0, .slice none 0 0, .int .i64 0, .int .i64 0, .int .i64 0, .int .i64 0, .int .i64 0, .int .i64 0, .int .i64 0, .int .i64 0, .slice none 0 0, .int .i64 0, .int .i64 0, .int .i64 0, .int .i64 0, .int .i64 0, .int .i64 0, .int .i64 0, .int .i64 0, .slice none 0 0, .int .i64 0, .int .i64 0, .int .i64 0, .int .i64 0, .int .i64 0, .int .i64 0, .int .i64 0, .int .i64 0, .slice none 0 0, .int .i64 0, .int .i64 0, .int .i64 0, .int .i64 0, .int .i64 0, .int .i64 0, .int .i64 0, .int .i64 0, .slice none 0 0, .int .i64 0, .int .i64 0, .int .i64 0, .int .i64 0, .int .i64 0, .int .i64 0, .int .i64 0, .int .i64 0, .slice none 0 0, .int .i64 0, .int .i64 0, .int .i64 0, .int .i64 0, .int .i64 0, .int .i64 0, .int .i64 0, .int .i64 0, .slice none 0 0, .int .i64 0, .int .i64 0, .int .i64 0, .int .i64 0, .int .i64 0, .int .i64 0, .int .i64 0, .int .i64 0, .slice none 0 0, .pointer (some ⟨cb, 0, none⟩), .int .i64 0] 86) = V3 at Cq hc1 md1 hS ⊢
 generalize v2.heap.size = q at Cq HQV HQC ⊢
 have HA : Hid (OpAt ⟨x.last + 1, q, true, key, u, fun _ => SV.zero, cb, need, fun _ => false, 0⟩ V3) := ⟨Cq, hc1⟩
 have HUU : Hid (SOk (fun c => Z c ∨ c = q ∨ c = cb) V3 u) := md1.to (fun c _ z => z.imp id (fun e => e.elim (fun e => e ▸ HQC.out) (fun e => e ▸ Nat.le_refl _)))
 have HO3 : Hid _ := hS
 clear Cq hc1 md1 hc HSU2 hV3 HQC
 refine take_at (i := 10) 12 (v := .pointer (some ⟨q, 0, none⟩)) rfl rfl (by kernel_rfl) (by kernel_rfl) (by kernel_rfl) (fun _ _ _ h => h) (Or.inl ⟨by rfl, fun w' hw' => by go_simp⟩) hS ?_
 simp only [Act.put, lsA, lsZ, lsS]
 refine wpAnyH_done (by kernel_rfl) ?_ _
 have HZV : Hid (∀ c, Z c → c < V.heap.size) := fun c hc => Nat.lt_of_lt_of_le (HC0.out.lt c hc) HOV.out.size
 have O03 : Off (fun _ => False) w V3 := HOV.out.trans HO3.out (fun _ _ h => h)
 have G3 : Gro (fun _ => False) (fun c => c = q ∨ c = cb) Z (fun c => Z c ∨ c = q ∨ c = cb) w V3 := ⟨O03, fun c hc => .inr (hc.elim (fun e => e ▸ Nat.le_trans HOV.out.size HQV.out) (fun e => e ▸ Nat.le_trans HOV.out.size HCB.out)), fun c hc => hc.imp id (fun e => e.elim (fun e => e ▸ Nat.le_trans HOV.out.size HQV.out) (fun e => e ▸ Nat.le_trans HOV.out.size HCB.out)), fun c hc => .inl hc⟩
 have hnd : ∀ c, V.heap.size ≤ c → ¬ D c := fun c hc d => by have := HZV.out c (HC0.out.sub c d); omega
 have HF0 : Hid (Fresh D Z D (fun c => Z c ∨ c = q ∨ c = cb) p x ⟨x.last + 1, q, true, key, u, fun _ => SV.zero, cb, need, fun _ => false, 0⟩ ⟨x.last + 1, true, key, s.abs, fun _ => SA.zero, need, fun _ => false, 0⟩ w V3) := ⟨HA.out, by show OA.mk _ _ _ u.abs _ _ _ _ = _; rw [HU.out]; rfl, rfl, rfl, ⟨.inr (.inl rfl), .inr (.inr rfl)⟩, ⟨hnd q HQV.out, hnd cb HCB.out⟩, ⟨Nat.le_trans HOV.out.size HQV.out, Nat.le_trans HOV.out.size HCB.out⟩, HUU.out, fun n _ => SOk.zero _ _, HC0.out.beside G3 (fun _ e => e.elim) (fun _ e => e.elim) (fun c hc => hc.elim (fun z => Nat.lt_of_lt_of_le (HC0.out.lt c z) O03.size) (fun e => e.elim (fun e => e ▸ HA.out.cel.lt) (fun e => e ▸ HA.out.cnt.cel.lt))), ⟨O03.mono (fun _ _ h => h.elim), fun c hc => .inl hc, G3.zd, G3.zz⟩⟩
 have HB3 : Hid _ := HB.out.off HO3.out (fun h => h)
 have HBC : Hid (B ≠ cb) := fun e => by have h1 := HBL.out; have h2 := HCB.out; omega
 have HBQ : Hid (B ≠ q) := fun e => by have h1 := HBL.out; have h2 := HQV.out; omega
 have c83 := HA.out.c83
 have HAD : Hid _ := add_any HA.out.cnt self
 clear hS HA HUU HQV HCB O03 G3 hnd
 simp only at c83
 go_wp2_with fail
 refine Calls.mono HAD.out ?_
 rintro e V4 ⟨rfl, hc4, o4⟩
 have HF4 : Hid (Fresh D Z D (fun c => Z c ∨ c = q ∨ c = cb) p x ⟨x.last + 1, q, true, key, u, fun _ => SV.zero, cb, need, adds (fun _ => false) self, 0⟩ ⟨x.last + 1, true, key, s.abs, fun _ => SA.zero, need, adds (fun _ => false) self, 0⟩ w V4) := by
  have F := HF0.out
  have A : OpAt ⟨x.last + 1, q, true, key, u, fun _ => SV.zero, cb, need, adds (fun _ => false) self, 0⟩ V4 := ⟨F.at_.cel.off o4 (fun e => F.at_.ne e.symm), hc4⟩
  have G : Gro (fun c => c = cb) (fun c => c = cb) (fun c => Z c ∨ c = q ∨ c = cb) (fun c => Z c ∨ c = q ∨ c = cb) V3 V4 := Gro.of o4
  have := F.step (o' := ⟨x.last + 1, q, true, key, u, fun _ => SV.zero, cb, need, adds (fun _ => false) self, 0⟩) rfl rfl rfl rfl A o4 (fun _ e => .inr e) (F.kn.gro G (fun c e => .inr (.inr e))) (fun n hn => SOk.zero _ _)
  have e : u.abs = s.abs := HU.out
  unfold OpD.abs at this
  simp only [e, zero_abs] at this
  exact this
 have HB4 : Hid _ := HB3.out.off o4 (fun e => HBC.out e)
 clear hc4 o4 HF0 HB3 HAD
 go_upto_region 10 with fail
 go_cut [43] from 44 to 48 (fun b wc => b = .bool true ∧ ∃ o2, Fresh D Z D (fun c => Z c ∨ c = q ∨ c = cb) p x o2 (newA (x.last + 1) true key s.abs need self) w wc ∧ o2.q = q)
 case first =>
   have F4 := HF4.out
   have HS4 : Hid _ := HSO.out.gro F4.gro HC0.out.sub
   obtain ⟨x0, x1, x2, x3, x4, x5, x6, x7, x8, x9⟩ := ce10 HB4.out
   cases hk : okN self
   ·have HLN : Hid _ := learn_no F4.at_ s self (by rw [hk]; rfl)
    clear F4
    go_wp2_with fail
    refine Calls.mono HLN.out ?_
    rintro e V5 ⟨rfl, o5⟩
    have F := HF4.out
    have G : Gro (fun _ => False) (fun _ => False) (fun c => Z c ∨ c = q ∨ c = cb) (fun c => Z c ∨ c = q ∨ c = cb) V4 V5 := Gro.of o5
    have F5 := F.step (o' := ⟨x.last + 1, q, true, key, u, fun _ => SV.zero, cb, need, adds (fun _ => false) self, 0⟩) rfl rfl rfl rfl (F.at_.off o5 (fun h => h) (fun h => h)) o5 (fun _ e => e.elim) (F.kn.free o5) (fun n hn => SOk.zero _ _)
    rw [F.abs, ← newA_n hk] at F5
    have HF5 : Hid _ := F5
    clear F F5 G o5 x0 x1 x2 x3 x4 x5 x6 x7 x8 x9
    go_wp2_with fail
    go_meet
    case rel => exact ⟨rfl, _, HF5.out, rfl⟩
   ·obtain ⟨n, hn, hsn⟩ := okN_nat hk
    have HLN : Hid _ := learn_yes F4.at_ F4.kn s HS4.out HM.out hn (by show adds (fun _ => false) self n = true; unfold adds; rw [if_pos hk, hsn, Int.toNat_natCast]; exact ans_same _ _) F4.inz.1 F4.st.lt
    rw [← hsn] at HLN
    have HSN : Hid (self = (n : Int)) := hsn
    clear F4 hsn
    go_wp2_with fail
    refine Calls.mono HLN.out ?_
    rintro e V5 ⟨rfl, u1, u2, hu1, hu2, A5, s1, s2, o5⟩
    have F := HF4.out
    have F5 := F.step (o' := setKn (setTl ⟨x.last + 1, q, true, key, u, fun _ => SV.zero, cb, need, adds (fun _ => false) self, 0⟩ n u1) u2) rfl rfl rfl rfl A5 o5 (fun _ e => .inl e) s2 (fun m hm => by
     show SOk _ _ (if m = n then u1 else SV.zero)
     split
     ·exact s1
     ·exact SOk.zero _ _)
    have ea : OpD.abs (setKn (setTl ⟨x.last + 1, q, true, key, u, fun _ => SV.zero, cb, need, adds (fun _ => false) self, 0⟩ n u1) u2) = newA (x.last + 1) true key s.abs need self := by
     have e2 : u2.abs = s.abs := by
      rw [hu2]
      show joinS u.abs s.abs = s.abs
      rw [HU.out]
      exact join_self HM.out
     show OA.mk _ _ _ u2.abs (fun m => SV.abs (if m = n then u1 else SV.zero)) _ _ _ = _
     rw [e2]
     unfold newA
     congr 1
     funext m
     by_cases hmn : m = n
     ·rw [if_pos hmn, if_pos ⟨rfl, hk, by rw [HSN.out, Int.toNat_natCast]; exact hmn⟩, hu1]
     ·rw [if_neg hmn, if_neg (fun e => hmn (by have := e.2.2; rwa [HSN.out, Int.toNat_natCast] at this))]
      rfl
    rw [ea] at F5
    have HF5 : Hid _ := F5
    clear F F5 ea A5 s1 s2 hu1 hu2 o5 x0 x1 x2 x3 x4 x5 x6 x7 x8 x9
    go_wp2_with fail
    go_meet
    case rel => exact ⟨rfl, _, HF5.out, rfl⟩
 case rest =>
  obtain ⟨rfl, o2, hF, hq2⟩ := hcut
  have HF5 : Hid _ := hF
  have HQ2 : Hid (o2.q = q) := hq2
  clear hF hq2
  clear HF4 HB4 HB HBC HBQ HO3 HU HOV HBL HZV HSR HB0 HO HNR HSO
  have hq2 := HQ2.out
  subst hq2
  have c2 := HF5.out.st.c2
  go_upto_region 12 with fail
  rename World => wc
  clear c2
  obtain ⟨D1, Z1, F6⟩ := HF5.out.map HMB.out
  obtain ⟨x1, hx1⟩ : ∃ x1, x1 = { x with mb := some wc.heap.size } := ⟨_, rfl⟩
  have hb1 : x1.mb = some wc.heap.size := by rw [hx1]
  have hxa : x1.abs = x.abs := by rw [hx1]; rfl
  rw [← hx1] at F6
  have HF6 : Hid _ := F6
  clear F6 hx1
  have fr := (HF5.out.st.free ((Off.refl (fun _ => False) wc).alloc (.map #[] 0))).cel.free 2
  have c2 := (HF5.out.st.free ((Off.refl (fun _ => False) wc).alloc (.map #[] 0))).c2
  have hmm := @run_makeMap Try.prog
  go_upto_region 13 with fail
  generalize hwd : (wc.alloc (.map #[] 0)).setCell ⟨p, 2, none⟩ (.map (some wc.heap.size)) = wd at HF6 ⊢
  clear fr c2 hmm hwd
  generalize wc.heap.size = b at hb1 ⊢
  have HXA : Hid _ := hxa
  have HB1 : Hid _ := hb1
  have hla : x1.last = x.last := congrArg CA.last hxa
  have hlt : x1.t.length = x.t.length := by have := congrArg (fun c => c.t.length) hxa; simpa [CM.abs] using this
  have HLA : Hid _ := hla
  have HLT : Hid _ := hlt
  clear HF5 hqm hxa
  obtain ⟨L, hL⟩ : ∃ L, L = x1.last := ⟨_, rfl⟩
  have HL : Hid _ := hL
  have HPB : Hid (¬ p = b) := mo_ncel (HF6.out.st.map1 b hb1).2 HF6.out.st.cel
  have c1 : wd.cell? ⟨p, 1, none⟩ = some (.int .i64 L) := by rw [hL]; exact HF6.out.st.cel.cell 1
  have fr := HF6.out.st.cel.free 1
  have hw1 : IntKind.i64.wrap (L + 1) = L + 1 := by rw [IntKind.wrap_i64]; omega
  have HCV : Hid (Cel p 78 #[.int .i64 x1.wait, .int .i64 (L + 1), .map (some b), .slice x1.aa x1.an.length x1.ac] (wd.setCell ⟨p, 1, none⟩ (.int .i64 (L + 1)))) := by
   have := HF6.out.st.cel.set 1 (.int .i64 (L + 1))
   rw [hb1] at this
   exact this
  have HOWN : Hid ((wd.setCell ⟨p, 1, none⟩ (.int .i64 (L + 1))).ownsMap Try.prog 2 hRO b x1.t.length (datumO x1.t)) := mo_off (HF6.out.st.map1 b hb1).2 ((Off.refl (fun c => c = p) wd).setCell (p := ⟨p, 1, none⟩) (.inl rfl) _) (fun e => HPB.out e.symm)
  have h64 : ¬ 64 ≤ x.t.length := HX.out
  have HMX : Hid (x1.t.length < maxLen) := by show _ < _; unfold maxLen; omega
  have HWF : Hid (wf64 (L + 1)) := ⟨by omega, by omega⟩
  have HV0 : Hid (∀ W, Off (fun c => c = b) (wd.setCell ⟨p, 1, none⟩ (.int .i64 (L + 1))) W → ∀ n, W.ownsMap Try.prog 2 hRO b n ((datumO x1.t).put (klO (L + 1)) (.held (.pointer (some ⟨o2.q, 0, none⟩)))) → ∃ D', CST D' Z1 p { x1 with last := x1.last + 1, t := x1.t ++ [o2] } W ∧ Gro D D' Z Z1 w W ∧ OpAt o2 W) := fun W oW n own => by
   rw [hL] at own oW
   exact HF6.out.add hb1 (by rw [hlt]; exact HX.out) (by omega) (by omega) own oW
  clear hb1 hla hlt hL h64
  go_upto_region 14 with fail
  generalize hV : wd.setCell ⟨p, 1, none⟩ (.int .i64 (L + 1)) = V at HCV HOWN HV0 ⊢
  clear c1 fr hV
  refine wp_region_held_drew (S := fun w' => Off (fun c => c = b) V w') (by kernel_rfl) ((Off.refl _ V).drew) (fun hS => ?_)
  refine take_at (i := 0) 65 (v := .pointer (some ⟨p, 0, none⟩)) rfl rfl (by kernel_rfl) (by kernel_rfl) (by kernel_rfl) (fun _ _ _ h => h) (Or.inl ⟨by rfl, fun w' hw' => by go_simp⟩) hS ?_
  simp only [Act.put, lsA, lsZ, lsS]
  refine take_at (i := 1) 66 (v := .pointer (some ⟨p, 0, none⟩)) rfl rfl (by kernel_rfl) (by kernel_rfl) (by kernel_rfl) (fun _ _ _ h => h) (Or.inl ⟨by rfl, fun w' hw' => by go_simp⟩) hS ?_
  simp only [Act.put, lsA, lsZ, lsS]
  refine take_at (i := 2) 67 (v := .pointer (some ⟨p, 2, none⟩)) rfl rfl (by kernel_rfl) (by kernel_rfl) (by kernel_rfl) (fun _ _ _ h => h) (Or.inl ⟨by rfl, fun w' hw' => by go_simp⟩) hS ?_
  simp only [Act.put, lsA, lsZ, lsS]
  refine take_at (i := 3) 68 (v := .map (some b)) rfl rfl (by kernel_rfl) (by kernel_rfl) (by kernel_rfl) (fun _ _ _ h => h) (Or.inl ⟨by rfl, fun w' hw' => by have c2 := (HCV.out.off hw' HPB.out).cell 2; simp at c2; go_simp⟩) hS ?_
  simp only [Act.put, lsA, lsZ, lsS]
  refine take_at (i := 4) 69 (v := .pointer (some ⟨p, 0, none⟩)) rfl rfl (by kernel_rfl) (by kernel_rfl) (by kernel_rfl) (fun _ _ _ h => h) (Or.inl ⟨by rfl, fun w' hw' => by go_simp⟩) hS ?_
  simp only [Act.put, lsA, lsZ, lsS]
  refine take_at (i := 5) 70 (v := .pointer (some ⟨p, 0, none⟩)) rfl rfl (by kernel_rfl) (by kernel_rfl) (by kernel_rfl) (fun _ _ _ h => h) (Or.inl ⟨by rfl, fun w' hw' => by go_simp⟩) hS ?_
  simp only [Act.put, lsA, lsZ, lsS]
  refine take_at (i := 6) 71 (v := .pointer (some ⟨p, 1, none⟩)) rfl rfl (by kernel_rfl) (by kernel_rfl) (by kernel_rfl) (fun _ _ _ h => h) (Or.inl ⟨by rfl, fun w' hw' => by go_simp⟩) hS ?_
  simp only [Act.put, lsA, lsZ, lsS]
  refine take_at (i := 7) 72 (v := .int .i64 (L + 1)) rfl rfl (by kernel_rfl) (by kernel_rfl) (by kernel_rfl) (fun _ _ _ h => h) (Or.inl ⟨by rfl, fun w' hw' => by have c1 := (HCV.out.off hw' HPB.out).cell 1; simp at c1; go_simp⟩) hS ?_
  simp only [Act.put, lsA, lsZ, lsS]
  refine take_at (i := 8) 73 (v := .pointer (some ⟨o2.q, 0, none⟩)) rfl rfl (by kernel_rfl) (by kernel_rfl) (by kernel_rfl) (fun _ _ _ h => h) (Or.inl ⟨by rfl, fun w' hw' => by go_simp⟩) hS ?_
  simp only [Act.put, lsA, lsZ, lsS]
  obtain ⟨V5, hup, own5, gr5⟩ := (mo_off HOWN.out (Off.refl (fun _ => False) V).drew (fun h => h)).update lawO Try.underlying76 HMX.out (keyO HWF.out) (val := .pointer (some ⟨o2.q, 0, none⟩)) (d := .held (.pointer (some ⟨o2.q, 0, none⟩))) (ps := []) rfl
  have o5 : Off (fun c => c = b) V.drew V5 := (Off.refl _ _).grown gr5 (fun k hk => .inl (by simpa using hk.symm))
  refine wpAnyH_ready (rs := [9]) (by kernel_rfl) (by simp) ?_
  refine AllReadyH.cons rfl (fun K' hK' => ?_) AllReadyH.nil
  go_simp
  have hS1 := hS.trans o5 (fun _ _ h => h)
  refine hK'.out _ _ hS1 (fun hS => ?_)
  clear hK' K' hS1 hup gr5
  refine wpAnyH_done (by kernel_rfl) ?_ _
  obtain ⟨D5, st5, g5, a5⟩ := HV0.out V5 ((Off.refl (fun c => c = b) V).drew.trans o5 (fun _ _ h => h)) _ own5
  have HST : Hid _ := st5
  have HG5 : Hid _ := g5
  have HA5 : Hid _ := a5
  have c1 : V5.cell? ⟨p, 1, none⟩ = some (.int .i64 (L + 1)) := by rw [HL.out]; exact st5.cel.cell 1
  have HXL : Hid (¬ 64 ≤ x.abs.t.length) := by show ¬ _; simp only [CM.abs, List.length_map]; exact HX.out
  by_cases hn : need ≤ 1
  ·have hdn : decide (need ≤ 1) = true := decide_eq_true hn
   have HFN : Hid _ := finish_any (n := L + 1) (o := o2) (st5.free ((Off.refl (fun _ => False) V5).drew)) (by have e := find_at (t := x1.t ++ [o2]) st5.sor (o := o2) (by simp); rw [HF6.out.id, ← HL.out] at e; exact e) HWF.out 0 o2.kn ((st5.op o2 (by simp)).2.2.2.1.free ((Off.refl (fun _ => False) V5).drew))
   clear st5 g5 a5 o5 own5 hS HV0 HOWN HCV
   go_upto_region 16 with fail
   refine wp_region_held_drew (S := fun w' => w'.cell? ⟨p, 1, none⟩ = some (.int .i64 (L + 1)) ∧ OpAt o2 w') (by kernel_rfl) ⟨c1, HA5.out.off ((Off.refl (fun _ => False) V5).drew) (fun h => h) (fun h => h)⟩ (fun hS => ?_)
   refine take_at (i := 0) 76 (v := .pointer (some ⟨p, 0, none⟩)) rfl rfl (by kernel_rfl) (by kernel_rfl) (by kernel_rfl) (fun _ _ _ h => h) (Or.inl ⟨by rfl, fun w' hw' => by go_simp⟩) hS ?_
   simp only [Act.put, lsA, lsZ, lsS]
   refine take_at (i := 1) 77 (v := .pointer (some ⟨p, 0, none⟩)) rfl rfl (by kernel_rfl) (by kernel_rfl) (by kernel_rfl) (fun _ _ _ h => h) (Or.inl ⟨by rfl, fun w' hw' => by go_simp⟩) hS ?_
   simp only [Act.put, lsA, lsZ, lsS]
   refine take_at (i := 2) 78 (v := .pointer (some ⟨p, 0, none⟩)) rfl rfl (by kernel_rfl) (by kernel_rfl) (by kernel_rfl) (fun _ _ _ h => h) (Or.inl ⟨by rfl, fun w' hw' => by go_simp⟩) hS ?_
   simp only [Act.put, lsA, lsZ, lsS]
   refine take_at (i := 3) 79 (v := .pointer (some ⟨p, 1, none⟩)) rfl rfl (by kernel_rfl) (by kernel_rfl) (by kernel_rfl) (fun _ _ _ h => h) (Or.inl ⟨by rfl, fun w' hw' => by go_simp⟩) hS ?_
   simp only [Act.put, lsA, lsZ, lsS]
   refine take_at (i := 4) 80 (v := .int .i64 (L + 1)) rfl rfl (by kernel_rfl) (by kernel_rfl) (by kernel_rfl) (fun _ _ _ h => h) (Or.inl ⟨by rfl, fun w' hw' => by have c1 := hw'.1; go_simp⟩) hS ?_
   simp only [Act.put, lsA, lsZ, lsS]
   refine take_at (i := 5) 81 (v := .pointer (some ⟨o2.q, 0, none⟩)) rfl rfl (by kernel_rfl) (by kernel_rfl) (by kernel_rfl) (fun _ _ _ h => h) (Or.inl ⟨by rfl, fun w' hw' => by go_simp⟩) hS ?_
   simp only [Act.put, lsA, lsZ, lsS]
   refine take_at (i := 6) 82 (v := .pointer (some ⟨o2.q, 0, none⟩)) rfl rfl (by kernel_rfl) (by kernel_rfl) (by kernel_rfl) (fun _ _ _ h => h) (Or.inl ⟨by rfl, fun w' hw' => by go_simp⟩) hS ?_
   simp only [Act.put, lsA, lsZ, lsS]
   refine take_at (i := 7) 83 (v := .pointer (some ⟨o2.q, 2, none⟩)) rfl rfl (by kernel_rfl) (by kernel_rfl) (by kernel_rfl) (fun _ _ _ h => h) (Or.inl ⟨by rfl, fun w' hw' => by go_simp⟩) hS ?_
   simp only [Act.put, lsA, lsZ, lsS]
   refine take_at (i := 8) 84 (v := (.agg #[.int .i64 (o2.kn.f 0), .int .i64 (o2.kn.f 1), .int .i64 (o2.kn.f 2), .int .i64 (o2.kn.f 3), .int .i64 (o2.kn.f 4), .int .i64 (o2.kn.f 5), .int .i64 (o2.kn.f 6), .int .i64 (o2.kn.f 7), .slice o2.kn.a o2.kn.l.length o2.kn.cap])) rfl rfl (by kernel_rfl) (by kernel_rfl) (by kernel_rfl) (fun _ _ _ h => h) (Or.inl ⟨by rfl, fun w' hw' => by obtain ⟨x0, x1, x2, x3, x4, x5, x6, x7, x8⟩ := hw'.2.k9; go_simp⟩) hS ?_
   simp only [Act.put, lsA, lsZ, lsS]
   refine wpAnyH_ready (rs := [9]) (by kernel_rfl) (by simp) ?_
   refine AllReadyH.cons rfl (fun K' hK' => ?_) AllReadyH.nil
   go_simp
   refine Calls.mono HFN.out ?_
   rintro e w2 ⟨rfl, x', D', Z', c2', g2, e1, e2, e3, e4, e5⟩
   have hS1 : w2.cell? ⟨p, 1, none⟩ = some (.int .i64 (L + 1)) ∧ OpAt o2 w2 := ⟨by have := c2'.cel.cell 1; rw [e4] at this; rw [HL.out]; exact this, e5 o2 (HA5.out.off ((Off.refl (fun _ => False) V5).drew) (fun h => h) (fun h => h))⟩
   refine hK'.out _ _ hS1 (fun hS => ?_)
   clear hK' K' hS1
   refine wpAnyH_done (by kernel_rfl) ?_ _
   have HC2 : Hid _ := c2'
   have HG2 : Hid (Gro D D' Z Z' w w2) := HG5.out.trans ⟨((Off.refl (fun _ => False) V5).drew.mono (fun _ _ h => h.elim)).trans g2.off (fun _ _ h => h), g2.new, g2.zd, g2.zz⟩
   have c1 := hS.1
   have E1 : x'.abs = finA (CM.abs { x1 with last := x1.last + 1, t := x1.t ++ [o2] }) (L + 1) 0 o2.kn.abs := fin_abs e1 e2 e3 e4
   have HE1 : Hid _ := E1
   clear c2' g2 e1 e2 e3 e4 e5 E1 hS HFN
   go_wp2_with fail
   go_ret2
   rw [beginA_one HXL.out HMM.out (by omega)]
   refine ⟨x', D', Z', HC2.out, HG2.out, ?_, ?_⟩
   ·rw [HE1.out]
    have ek : o2.kn.abs = s.abs := congrArg OA.kn HF6.out.abs
    have hd : dropA (L + 1) ((x1.t ++ [o2]).map OpD.abs) = x.t.map OpD.abs := by
     have e1 : x1.t.map OpD.abs = x.t.map OpD.abs := congrArg CA.t HXA.out
     have e2 : (x1.t ++ [o2]).map OpD.abs = x.t.map OpD.abs ++ [o2.abs] := by rw [List.map_append, e1]; rfl
     rw [e2, ← e1]
     unfold dropA
     rw [List.filter_append]
     have f1 : ([o2.abs].filter fun o => !decide (o.id = L + 1)) = [] := by
      have : o2.abs.id = L + 1 := by show o2.id = _; rw [HF6.out.id, HL.out]
      simp [this]
     rw [f1, List.append_nil]
     refine List.filter_eq_self.2 fun y hy => ?_
     obtain ⟨z, hz, rfl⟩ := List.mem_map.1 hy
     have := (HF6.out.st.ids z hz).2.1
     have h2 := HL.out
     show (!decide (z.id = L + 1)) = true
     simp
     omega
    have ew : x1.wait = x.wait := congrArg CA.wait HXA.out
    have ea : x1.an.map AnD.abs = x.an.map AnD.abs := congrArg CA.an HXA.out
    unfold finA CM.abs
    rw [HL.out, HLA.out] at hd
    simp only [hd, ek, ew, ea, HLA.out, HL.out]
   ·show _ = Ending.returned (.tuple #[.int .i64 (x.last + 1), .int .i64 0])
    rw [← HLA.out, ← HL.out]
    rfl
  ·have hdn : decide (need ≤ 1) = false := decide_eq_false hn
   clear st5 g5 a5 o5 own5 hS HV0 HOWN HCV
   go_wp2_with fail
   go_ret2
   rw [beginA_more HXL.out HMM.out (by omega)]
   refine ⟨_, D5, Z1, HST.out, HG5.out, ?_, ?_⟩
   ·have e1 : x1.t.map OpD.abs = x.t.map OpD.abs := congrArg CA.t HXA.out
    have ew : x1.wait = x.wait := congrArg CA.wait HXA.out
    have ea : x1.an.map AnD.abs = x.an.map AnD.abs := congrArg CA.an HXA.out
    unfold CM.abs
    simp only [List.map_append, List.map_cons, List.map_nil, e1, ew, ea, HLA.out, HF6.out.abs]
   ·show _ = Ending.returned (.tuple #[.int .i64 (x.last + 1), .int .i64 0])
    rw [← HLA.out, ← HL.out]
    rfl
end Go.Proofs.Ytmjmgdbhmbjmaaa
