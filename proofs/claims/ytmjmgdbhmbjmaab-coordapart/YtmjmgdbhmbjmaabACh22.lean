/- Items of several texts. -/
import Derived.Test.YtmjmgdbhmbjmaabACg22
namespace Go.Proofs.Ytmjmgdbhmbjmaab
set_option maxRecDepth 100000
open Go.RowKit
theorem hear_abs {o : OpD} {n : Nat} {u1 u2 : SV} {s : SA} (hn : n < 8) (h1 : u1.abs = s) (h2 : u2.abs = joinS o.kn.abs s) : OpD.abs (setKn (setTl (setWho o (n : Int)) n u1) u2) = hearA o.abs (n : Int) s := by
 unfold hearA
 rw [if_pos (okN_of hn)]
 show OA.mk _ _ _ u2.abs (fun m => SV.abs (if m = n then u1 else o.tl m)) _ _ _ = _
 rw [h2]
 congr 1
 funext m
 rw [Int.toNat_natCast]
 by_cases hmn : m = n
 ·rw [if_pos hmn, if_pos hmn, h1]
 ·rw [if_neg hmn, if_neg hmn]
  rfl
theorem no4 {o : OpD} {key : ByteArray} {s : SV} {node : Int} (h1 : o.read = true) (h2 : key = o.key) (h3 : (keyB key && mayS s.f (cont s.l)) = true) (h4 : (okN node && o.who node.toNat) = false) : ¬ (o.abs.read = false ∨ key ≠ o.abs.key ∨ (keyB key && mayA s.abs) = false ∨ (okN node && o.abs.who node.toNat) = true) := by
 rintro (h | h | h | h)
 ·rw [show o.abs.read = o.read from rfl, h1] at h
  cases h
 ·exact h h2
 ·rw [show (keyB key && mayA s.abs) = (keyB key && mayS s.f (cont s.l)) from rfl, h3] at h
  cases h
 ·rw [show (okN node && o.abs.who node.toNat) = (okN node && o.who node.toNat) from rfl, h4] at h
  cases h
theorem k9f {o : OpD} {n : Int} {m : Nat} {u v : SV} {w : World} (h : OpAt (setKn (setTl (setWho o n) m u) v) w) : w.cell? ⟨o.q, 2, none⟩ = some (.int .i64 (v.f 0)) ∧ w.cell? ⟨o.q, 3, none⟩ = some (.int .i64 (v.f 1)) ∧ w.cell? ⟨o.q, 4, none⟩ = some (.int .i64 (v.f 2)) ∧ w.cell? ⟨o.q, 5, none⟩ = some (.int .i64 (v.f 3)) ∧ w.cell? ⟨o.q, 6, none⟩ = some (.int .i64 (v.f 4)) ∧ w.cell? ⟨o.q, 7, none⟩ = some (.int .i64 (v.f 5)) ∧ w.cell? ⟨o.q, 8, none⟩ = some (.int .i64 (v.f 6)) ∧ w.cell? ⟨o.q, 9, none⟩ = some (.int .i64 (v.f 7)) ∧ w.cell? ⟨o.q, 10, none⟩ = some (.slice v.a v.l.length v.cap) := h.k9
set_option maxHeartbeats 2000000 in
theorem got_deaf {D Z : Nat → Prop} {p : Nat} {x : CM} {w : World} (h : CST D Z p x w) {n : Int} (hn : wf64 n) (node : Int) (key : ByteArray) (s : SV) (hs : SOk Z w s) {o : OpD} (hf : fndO n x.t = some o) (hr : o.read = true) (hk : key = o.key) (hm : (keyB key && mayA s.abs) = true) (ha : (okN node && o.who node.toNat) = false) (hok : okN node = false) : Calls Try.prog 8 #[.pointer (some ⟨p, 0, none⟩), .int .i64 n, .int .i64 node, (.agg #[.string key, .int .i64 (s.f 0), .int .i64 (s.f 1), .int .i64 (s.f 2), .int .i64 (s.f 3), .int .i64 (s.f 4), .int .i64 (s.f 5), .int .i64 (s.f 6), .int .i64 (s.f 7), .slice s.a s.l.length s.cap])] w fun e w' => ∃ x' D' Z', CST D' Z' p x' w' ∧ Gro D D' Z Z' w w' ∧ x'.abs = (gotA x.abs n node key s.abs).1 ∧ GotR (gotA x.abs n node key s.abs).2 e w.heap.size w' := by
 have hq := eql_pO
 have HC : Hid _ := h
 have HA : fndA n x.abs.t = (fndO n x.t).map OpD.abs := fnd_abs n x.t
 obtain ⟨V, hV⟩ : ∃ V, V = w.alloc (.cells #[.string key, .int .i64 (s.f 0), .int .i64 (s.f 1), .int .i64 (s.f 2), .int .i64 (s.f 3), .int .i64 (s.f 4), .int .i64 (s.f 5), .int .i64 (s.f 6), .int .i64 (s.f 7), .slice s.a s.l.length s.cap] 41) := ⟨_, rfl⟩
 have O : Off (fun _ => False) w V := by rw [hV]; exact (Off.refl _ w).alloc _
 have HB : Hid (Cel w.heap.size 41 #[.string key, .int .i64 (s.f 0), .int .i64 (s.f 1), .int .i64 (s.f 2), .int .i64 (s.f 3), .int .i64 (s.f 4), .int .i64 (s.f 5), .int .i64 (s.f 6), .int .i64 (s.f 7), .slice s.a s.l.length s.cap] V) := by rw [hV]; exact Cel.new w _ _
 have HW : Hid (w.alloc (.cells #[.string key, .int .i64 (s.f 0), .int .i64 (s.f 1), .int .i64 (s.f 2), .int .i64 (s.f 3), .int .i64 (s.f 4), .int .i64 (s.f 5), .int .i64 (s.f 6), .int .i64 (s.f 7), .slice s.a s.l.length s.cap] 41) = V) := hV.symm
 have HO : Hid _ := O
 have HCV : Hid _ := h.free O
 have HSR : Hid _ := hs.row.off O
 clear hV
 obtain ⟨ho, hid⟩ := fndO_some hf
 have HK : Hid _ := (h.op o ho).1.off O (fun h => h) (fun h => h)
 have HF : Hid _ := cfind_yes HCV.out hn hf
 have HRD : Hid _ := hr
 have HKE : Hid (key = o.key) := hk
 have HME : Hid ((keyB key && mayS s.f (cont s.l)) = true) := hm
 have HHA : Hid _ := ha
 have HS0 : Hid _ := hs
 have HON : Hid _ := ho
 have HID : Hid _ := hid
 have HFN : Hid _ := HA
 rw [hf] at HFN
 have HADB : Hid (addB o.need o.who node = false) := (by unfold addB; rw [hok]; rfl : _ = false)
 have HOK : Hid _ := hok
 have HBC : Hid (w.heap.size ≠ o.cb) := fun e => by have := (h.op o ho).1.cnt.cel.lt; omega
 clear h HA O hs ho hid hr hk hm ha hok
 go_enter Try.func8, Try.ntmps8
 go_upto_region 1 with fail
 rw [HW.out]
 go_wp2_with fail
 refine Calls.mono HF.out ?_
 rintro e w1 ⟨rfl, hw⟩
 rw [hw]
 clear hw w1 HF
 go_upto_region 2 with fail
 have HBL : Hid (w.heap.size < V.heap.size) := HB.out.lt
 have HBB : Hid (w.heap.size = w.heap.size) := rfl
 obtain ⟨B, hBB⟩ : ∃ B, B = w.heap.size := ⟨_, rfl⟩
 rw [← hBB] at HB HBL HBC ⊢
 clear hBB
 refine wp_region_held_drew (S := fun w' => Off (fun _ => False) V w') (by kernel_rfl) ((Off.refl _ V).drew) (fun hS => ?_)
 refine take_at (i := 0) 15 (v := .pointer (some ⟨o.q, 0, none⟩)) rfl rfl (by kernel_rfl) (by kernel_rfl) (by kernel_rfl) (fun _ _ _ h => h) (Or.inl ⟨by rfl, fun w' hw' => by go_simp⟩) hS ?_
 simp only [Act.put, lsA, lsZ, lsS]
 refine take_at (i := 1) 16 (v := .bool false) rfl rfl (by kernel_rfl) (by kernel_rfl) (by kernel_rfl) (fun _ _ _ h => h) (Or.inl ⟨by rfl, fun w' hw' => by go_simp⟩) hS ?_
 simp only [Act.put, lsA, lsZ, lsS]
 refine take_at (i := 2) 17 (v := .bool false) rfl rfl (by kernel_rfl) (by kernel_rfl) (by kernel_rfl) (fun _ _ _ h => h) (Or.inl ⟨by rfl, fun w' hw' => by go_simp⟩) hS ?_
 simp only [Act.put, lsA, lsZ, lsS]
 refine take_at (i := 3) 18 (v := .pointer (some ⟨o.q, 0, none⟩)) rfl rfl (by kernel_rfl) (by kernel_rfl) (by kernel_rfl) (fun _ _ _ h => h) (Or.inl ⟨by rfl, fun w' hw' => by go_simp⟩) hS ?_
 simp only [Act.put, lsA, lsZ, lsS]
 refine take_at (i := 4) 19 (v := .pointer (some ⟨o.q, 0, none⟩)) rfl rfl (by kernel_rfl) (by kernel_rfl) (by kernel_rfl) (fun _ _ _ h => h) (Or.inl ⟨by rfl, fun w' hw' => by go_simp⟩) hS ?_
 simp only [Act.put, lsA, lsZ, lsS]
 refine take_at (i := 5) 20 (v := .pointer (some ⟨o.q, 0, none⟩)) rfl rfl (by kernel_rfl) (by kernel_rfl) (by kernel_rfl) (fun _ _ _ h => h) (Or.inl ⟨by rfl, fun w' hw' => by go_simp⟩) hS ?_
 simp only [Act.put, lsA, lsZ, lsS]
 refine take_at (i := 6) 21 (v := .bool true) rfl rfl (by kernel_rfl) (by kernel_rfl) (by kernel_rfl) (fun _ _ _ h => h) (Or.inl ⟨by rfl, fun w' hw' => by have c := (HK.out.off hw' (fun h => h) (fun h => h)).c0;rw [HRD.out] at c; go_simp⟩) hS ?_
 simp only [Act.put, lsA, lsZ, lsS]
 refine take_at (i := 7) 22 (v := .bool false) rfl rfl (by kernel_rfl) (by kernel_rfl) (by kernel_rfl) (fun _ _ _ h => h) (Or.inl ⟨by rfl, fun w' hw' => by go_simp⟩) hS ?_
 simp only [Act.put, lsA, lsZ, lsS]
 refine take_at (i := 8) 23 (v := .bool false) rfl rfl (by kernel_rfl) (by kernel_rfl) (by kernel_rfl) (fun _ _ _ h => h) (Or.inl ⟨by rfl, fun w' hw' => by go_simp⟩) hS ?_
 simp only [Act.put, lsA, lsZ, lsS]
 refine take_at (i := 9) 24 (v := .bool false) rfl rfl (by kernel_rfl) (by kernel_rfl) (by kernel_rfl) (fun _ _ _ h => h) (Or.inl ⟨by rfl, fun w' hw' => by go_simp⟩) hS ?_
 simp only [Act.put, lsA, lsZ, lsS]
 refine take_at (i := 10) 25 (v := .pointer (some ⟨o.q, 0, none⟩)) rfl rfl (by kernel_rfl) (by kernel_rfl) (by kernel_rfl) (fun _ _ _ h => h) (Or.inl ⟨by rfl, fun w' hw' => by go_simp⟩) hS ?_
 simp only [Act.put, lsA, lsZ, lsS]
 refine take_at (i := 11) 26 (v := .pointer (some ⟨o.q, 0, none⟩)) rfl rfl (by kernel_rfl) (by kernel_rfl) (by kernel_rfl) (fun _ _ _ h => h) (Or.inl ⟨by rfl, fun w' hw' => by go_simp⟩) hS ?_
 simp only [Act.put, lsA, lsZ, lsS]
 refine take_at (i := 12) 27 (v := .pointer (some ⟨o.q, 1, none⟩)) rfl rfl (by kernel_rfl) (by kernel_rfl) (by kernel_rfl) (fun _ _ _ h => h) (Or.inl ⟨by rfl, fun w' hw' => by go_simp⟩) hS ?_
 simp only [Act.put, lsA, lsZ, lsS]
 refine take_at (i := 13) 28 (v := .string o.key) rfl rfl (by kernel_rfl) (by kernel_rfl) (by kernel_rfl) (fun _ _ _ h => h) (Or.inl ⟨by rfl, fun w' hw' => by have c := (HK.out.off hw' (fun h => h) (fun h => h)).c1; go_simp⟩) hS ?_
 simp only [Act.put, lsA, lsZ, lsS]
 refine take_at (i := 14) 29 (v := .pointer (some ⟨B, 0, none⟩)) rfl rfl (by kernel_rfl) (by kernel_rfl) (by kernel_rfl) (fun _ _ _ h => h) (Or.inl ⟨by rfl, fun w' hw' => by go_simp⟩) hS ?_
 simp only [Act.put, lsA, lsZ, lsS]
 refine take_at (i := 15) 30 (v := .string key) rfl rfl (by kernel_rfl) (by kernel_rfl) (by kernel_rfl) (fun _ _ _ h => h) (Or.inl ⟨by rfl, fun w' hw' => by obtain ⟨x0, x1, x2, x3, x4, x5, x6, x7, x8, x9⟩ := ce10 (HB.out.off hw' (fun h => h)); go_simp⟩) hS ?_
 simp only [Act.put, lsA, lsZ, lsS]
 refine take_at (i := 16) 31 (v := .bool false) rfl rfl (by kernel_rfl) (by kernel_rfl) (by kernel_rfl) (fun _ _ _ h => h) (Or.inl ⟨by rfl, fun w' hw' => by have h : o.key.toList = key.toList := (by rw [HKE.out]); go_simp⟩) hS ?_
 simp only [Act.put, lsA, lsZ, lsS]
 refine take_at (i := 17) 32 (v := .bool false) rfl rfl (by kernel_rfl) (by kernel_rfl) (by kernel_rfl) (fun _ _ _ h => h) (Or.inl ⟨by rfl, fun w' hw' => by go_simp⟩) hS ?_
 simp only [Act.put, lsA, lsZ, lsS]
 refine take_at (i := 18) 33 (v := .bool false) rfl rfl (by kernel_rfl) (by kernel_rfl) (by kernel_rfl) (fun _ _ _ h => h) (Or.inl ⟨by rfl, fun w' hw' => by go_simp⟩) hS ?_
 simp only [Act.put, lsA, lsZ, lsS]
 refine take_at (i := 19) 34 (v := (.agg #[.string key, .int .i64 (s.f 0), .int .i64 (s.f 1), .int .i64 (s.f 2), .int .i64 (s.f 3), .int .i64 (s.f 4), .int .i64 (s.f 5), .int .i64 (s.f 6), .int .i64 (s.f 7), .slice s.a s.l.length s.cap])) rfl rfl (by kernel_rfl) (by kernel_rfl) (by kernel_rfl) (fun _ _ _ h => h) (Or.inl ⟨by rfl, fun w' hw' => by obtain ⟨x0, x1, x2, x3, x4, x5, x6, x7, x8, x9⟩ := ce10 (HB.out.off hw' (fun h => h)); go_simp⟩) hS ?_
 simp only [Act.put, lsA, lsZ, lsS]
 refine wpAnyH_ready (rs := [20]) (by kernel_rfl) (by simp) ?_
 refine AllReadyH.cons rfl (fun K' hK' => ?_) AllReadyH.nil
 go_simp
 refine Calls.mono (smayentry_any key s.f s.a s.cap s.l _ (HSR.out.off hS)) ?_
 rw [HME.out]
 rintro e v1 ⟨rfl, o1⟩
 have hS1 := hS.trans o1 (fun _ _ h => h)
 refine hK'.out _ _ hS1 (fun hS => ?_)
 clear hK' K' hS1 o1
 refine take_at (i := 21) 36 (v := .bool false) rfl rfl (by kernel_rfl) (by kernel_rfl) (by kernel_rfl) (fun _ _ _ h => h) (Or.inl ⟨by rfl, fun w' hw' => by go_simp⟩) hS ?_
 simp only [Act.put, lsA, lsZ, lsS]
 refine take_at (i := 22) 37 (v := .bool false) rfl rfl (by kernel_rfl) (by kernel_rfl) (by kernel_rfl) (fun _ _ _ h => h) (Or.inl ⟨by rfl, fun w' hw' => by go_simp⟩) hS ?_
 simp only [Act.put, lsA, lsZ, lsS]
 refine take_at (i := 23) 38 (v := .bool false) rfl rfl (by kernel_rfl) (by kernel_rfl) (by kernel_rfl) (fun _ _ _ h => h) (Or.inl ⟨by rfl, fun w' hw' => by go_simp⟩) hS ?_
 simp only [Act.put, lsA, lsZ, lsS]
 refine take_at (i := 24) 39 (v := .pointer (some ⟨o.q, 0, none⟩)) rfl rfl (by kernel_rfl) (by kernel_rfl) (by kernel_rfl) (fun _ _ _ h => h) (Or.inl ⟨by rfl, fun w' hw' => by go_simp⟩) hS ?_
 simp only [Act.put, lsA, lsZ, lsS]
 refine take_at (i := 25) 40 (v := .pointer (some ⟨o.q, 0, none⟩)) rfl rfl (by kernel_rfl) (by kernel_rfl) (by kernel_rfl) (fun _ _ _ h => h) (Or.inl ⟨by rfl, fun w' hw' => by go_simp⟩) hS ?_
 simp only [Act.put, lsA, lsZ, lsS]
 refine take_at (i := 26) 41 (v := .pointer (some ⟨o.q, 83, none⟩)) rfl rfl (by kernel_rfl) (by kernel_rfl) (by kernel_rfl) (fun _ _ _ h => h) (Or.inl ⟨by rfl, fun w' hw' => by go_simp⟩) hS ?_
 simp only [Act.put, lsA, lsZ, lsS]
 refine take_at (i := 27) 42 (v := .pointer (some ⟨o.cb, 0, none⟩)) rfl rfl (by kernel_rfl) (by kernel_rfl) (by kernel_rfl) (fun _ _ _ h => h) (Or.inl ⟨by rfl, fun w' hw' => by have c := (HK.out.off hw' (fun h => h) (fun h => h)).c83; go_simp⟩) hS ?_
 simp only [Act.put, lsA, lsZ, lsS]
 refine take_at (i := 28) 43 (v := .int .i64 node) rfl rfl (by kernel_rfl) (by kernel_rfl) (by kernel_rfl) (fun _ _ _ h => h) (Or.inl ⟨by rfl, fun w' hw' => by go_simp⟩) hS ?_
 simp only [Act.put, lsA, lsZ, lsS]
 refine wpAnyH_ready (rs := [29]) (by kernel_rfl) (by simp) ?_
 refine AllReadyH.cons rfl (fun K' hK' => ?_) AllReadyH.nil
 go_simp
 refine Calls.mono (has_any (HK.out.off hS (fun h => h) (fun h => h)).cnt node) ?_
 rw [HHA.out]
 rintro e v1 ⟨rfl, hw1⟩
 rw [hw1]
 refine hK'.out _ _ hS (fun hS => ?_)
 clear hK' K' hw1 v1
 refine take_at (i := 30) 45 (v := .bool false) rfl rfl (by kernel_rfl) (by kernel_rfl) (by kernel_rfl) (fun _ _ _ h => h) (Or.inl ⟨by rfl, fun w' hw' => by go_simp⟩) hS ?_
 simp only [Act.put, lsA, lsZ, lsS]
 refine wpAnyH_done (by kernel_rfl) ?_ _
 have HOV : Hid _ := hS
 have HK2 : Hid _ := HK.out.off hS (fun h => h) (fun h => h)
 have HBX : Hid _ := HB.out.off hS (fun h => h)
 have HOW : Hid _ := HO.out.trans hS (fun _ _ h => h)
 clear hS
 rename World => V2
 have c83 := HK2.out.c83
 have HAD : Hid _ := add_any HK2.out.cnt node
 rw [HADB.out] at HAD
 obtain ⟨x0, x1, x2, x3, x4, x5, x6, x7, x8, x9⟩ := ce10 HBX.out
 clear x0 x1 x2 x3 x4 x5 x6 x7 x8 x9
 go_wp2_with fail
 refine Calls.mono HAD.out ?_
 rintro e V4 ⟨rfl, hc4, o4⟩
 have A4 : OpAt (setWho o node) V4 := ⟨HK2.out.cel.off o4 (fun e => HK2.out.ne e.symm), hc4⟩
 have HA4 : Hid _ := A4
 have HO4 : Hid (Off (fun c => c = o.q ∨ c = o.cb) w V4) := (HOW.out.mono (fun _ _ h => h.elim)).trans o4 (fun _ _ e => .inr e)
 have HB4 : Hid _ := HBX.out.off o4 (fun e => HBC.out e)
 obtain ⟨x0, x1, x2, x3, x4, x5, x6, x7, x8, x9⟩ := ce10 HB4.out
 have HDZ : Hid (∀ c, c = o.q ∨ c = o.cb → D c) := fun c e => e.elim (fun e => e ▸ (HC.out.op o HON.out).2.1) (fun e => e ▸ (HC.out.op o HON.out).2.2.1)
 have HOD4 : Hid (Off D w V4) := HO4.out.mono (fun c _ e => HDZ.out c e)
 have HS4 : Hid _ := HS0.out.off HOD4.out (fun c _ => HC.out.sub c)
 have HK4 : Hid _ := (HC.out.op o HON.out).2.2.2.1.off HOD4.out (fun c _ => HC.out.sub c)
 clear A4 o4 hc4 c83 HAD
 have HLN : Hid _ := learn_no HA4.out s node (by rw [HOK.out]; rfl)
 go_wp2_with fail
 refine Calls.mono HLN.out ?_
 rintro e V5 ⟨rfl, o5⟩
 have HO5 : Hid _ := o5
 clear o5 x0 x1 x2 x3 x4 x5 x6 x7 x8 x9 HLN
 go_wp2_with fail
 go_ret2
 have h := HC.out
 have ew : setWho o node = o := by
  unfold setWho adds
  rw [HOK.out]
  rfl
 have A5 : OpAt o V5 := by
  have := HA4.out.off HO5.out (fun h => h) (fun h => h)
  rwa [ew] at this
 have O5 : Off (fun c => c = o.q ∨ c = o.cb) w V5 := HO4.out.trans HO5.out (fun _ _ h => h.elim)
 have OD5 : Off D w V5 := O5.mono (fun c _ e => HDZ.out c e)
 obtain ⟨c1, g1, f1⟩ := h.rep HON.out (o' := o) rfl rfl rfl (h.ids o HON.out).2.2 O5 A5 (HK4.out.free HO5.out) (fun m hm => ((h.op o HON.out).2.2.2.2 m hm).off OD5 (fun c _ => h.sub c))
 have hg := gotA_more (node := node) (key := key) (s := s.abs) HFN.out (by exact no4 HRD.out HKE.out HME.out HHA.out) HADB.out
 rw [hg]
 refine ⟨_, D, Z, c1, g1, ?_, rfl⟩
 unfold CM.abs
 simp only [rep_abs]
 unfold hearA
 rw [HOK.out]
 rfl
set_option maxHeartbeats 2000000 in
theorem got_more {D Z : Nat → Prop} {p : Nat} {x : CM} {w : World} (h : CST D Z p x w) {n : Int} (hn : wf64 n) (node : Int) (key : ByteArray) (s : SV) (hs : SOk Z w s) {o : OpD} (hf : fndO n x.t = some o) (hr : o.read = true) (hk : key = o.key) (hm : (keyB key && mayA s.abs) = true) (ha : (okN node && o.who node.toNat) = false) (hok : okN node = true) (hb : addB o.need o.who node = false) : Calls Try.prog 8 #[.pointer (some ⟨p, 0, none⟩), .int .i64 n, .int .i64 node, (.agg #[.string key, .int .i64 (s.f 0), .int .i64 (s.f 1), .int .i64 (s.f 2), .int .i64 (s.f 3), .int .i64 (s.f 4), .int .i64 (s.f 5), .int .i64 (s.f 6), .int .i64 (s.f 7), .slice s.a s.l.length s.cap])] w fun e w' => ∃ x' D' Z', CST D' Z' p x' w' ∧ Gro D D' Z Z' w w' ∧ x'.abs = (gotA x.abs n node key s.abs).1 ∧ GotR (gotA x.abs n node key s.abs).2 e w.heap.size w' := by
 have hq := eql_pO
 have HC : Hid _ := h
 have HA : fndA n x.abs.t = (fndO n x.t).map OpD.abs := fnd_abs n x.t
 obtain ⟨V, hV⟩ : ∃ V, V = w.alloc (.cells #[.string key, .int .i64 (s.f 0), .int .i64 (s.f 1), .int .i64 (s.f 2), .int .i64 (s.f 3), .int .i64 (s.f 4), .int .i64 (s.f 5), .int .i64 (s.f 6), .int .i64 (s.f 7), .slice s.a s.l.length s.cap] 41) := ⟨_, rfl⟩
 have O : Off (fun _ => False) w V := by rw [hV]; exact (Off.refl _ w).alloc _
 have HB : Hid (Cel w.heap.size 41 #[.string key, .int .i64 (s.f 0), .int .i64 (s.f 1), .int .i64 (s.f 2), .int .i64 (s.f 3), .int .i64 (s.f 4), .int .i64 (s.f 5), .int .i64 (s.f 6), .int .i64 (s.f 7), .slice s.a s.l.length s.cap] V) := by rw [hV]; exact Cel.new w _ _
 have HW : Hid (w.alloc (.cells #[.string key, .int .i64 (s.f 0), .int .i64 (s.f 1), .int .i64 (s.f 2), .int .i64 (s.f 3), .int .i64 (s.f 4), .int .i64 (s.f 5), .int .i64 (s.f 6), .int .i64 (s.f 7), .slice s.a s.l.length s.cap] 41) = V) := hV.symm
 have HO : Hid _ := O
 have HCV : Hid _ := h.free O
 have HSR : Hid _ := hs.row.off O
 clear hV
 obtain ⟨ho, hid⟩ := fndO_some hf
 have HK : Hid _ := (h.op o ho).1.off O (fun h => h) (fun h => h)
 have HF : Hid _ := cfind_yes HCV.out hn hf
 have HRD : Hid _ := hr
 have HKE : Hid (key = o.key) := hk
 have HME : Hid ((keyB key && mayS s.f (cont s.l)) = true) := hm
 have HHA : Hid _ := ha
 have HS0 : Hid _ := hs
 have HON : Hid _ := ho
 have HID : Hid _ := hid
 have HFN : Hid _ := HA
 rw [hf] at HFN
 have HADB : Hid (addB o.need o.who node = false) := hb
 have HOK : Hid _ := hok
 have HBC : Hid (w.heap.size ≠ o.cb) := fun e => by have := (h.op o ho).1.cnt.cel.lt; omega
 clear h HA O hs ho hid hr hk hm ha hok hb
 go_enter Try.func8, Try.ntmps8
 go_upto_region 1 with fail
 rw [HW.out]
 go_wp2_with fail
 refine Calls.mono HF.out ?_
 rintro e w1 ⟨rfl, hw⟩
 rw [hw]
 clear hw w1 HF
 go_upto_region 2 with fail
 have HBL : Hid (w.heap.size < V.heap.size) := HB.out.lt
 have HBB : Hid (w.heap.size = w.heap.size) := rfl
 obtain ⟨B, hBB⟩ : ∃ B, B = w.heap.size := ⟨_, rfl⟩
 rw [← hBB] at HB HBL HBC ⊢
 clear hBB
 refine wp_region_held_drew (S := fun w' => Off (fun _ => False) V w') (by kernel_rfl) ((Off.refl _ V).drew) (fun hS => ?_)
 refine take_at (i := 0) 15 (v := .pointer (some ⟨o.q, 0, none⟩)) rfl rfl (by kernel_rfl) (by kernel_rfl) (by kernel_rfl) (fun _ _ _ h => h) (Or.inl ⟨by rfl, fun w' hw' => by go_simp⟩) hS ?_
 simp only [Act.put, lsA, lsZ, lsS]
 refine take_at (i := 1) 16 (v := .bool false) rfl rfl (by kernel_rfl) (by kernel_rfl) (by kernel_rfl) (fun _ _ _ h => h) (Or.inl ⟨by rfl, fun w' hw' => by go_simp⟩) hS ?_
 simp only [Act.put, lsA, lsZ, lsS]
 refine take_at (i := 2) 17 (v := .bool false) rfl rfl (by kernel_rfl) (by kernel_rfl) (by kernel_rfl) (fun _ _ _ h => h) (Or.inl ⟨by rfl, fun w' hw' => by go_simp⟩) hS ?_
 simp only [Act.put, lsA, lsZ, lsS]
 refine take_at (i := 3) 18 (v := .pointer (some ⟨o.q, 0, none⟩)) rfl rfl (by kernel_rfl) (by kernel_rfl) (by kernel_rfl) (fun _ _ _ h => h) (Or.inl ⟨by rfl, fun w' hw' => by go_simp⟩) hS ?_
 simp only [Act.put, lsA, lsZ, lsS]
 refine take_at (i := 4) 19 (v := .pointer (some ⟨o.q, 0, none⟩)) rfl rfl (by kernel_rfl) (by kernel_rfl) (by kernel_rfl) (fun _ _ _ h => h) (Or.inl ⟨by rfl, fun w' hw' => by go_simp⟩) hS ?_
 simp only [Act.put, lsA, lsZ, lsS]
 refine take_at (i := 5) 20 (v := .pointer (some ⟨o.q, 0, none⟩)) rfl rfl (by kernel_rfl) (by kernel_rfl) (by kernel_rfl) (fun _ _ _ h => h) (Or.inl ⟨by rfl, fun w' hw' => by go_simp⟩) hS ?_
 simp only [Act.put, lsA, lsZ, lsS]
 refine take_at (i := 6) 21 (v := .bool true) rfl rfl (by kernel_rfl) (by kernel_rfl) (by kernel_rfl) (fun _ _ _ h => h) (Or.inl ⟨by rfl, fun w' hw' => by have c := (HK.out.off hw' (fun h => h) (fun h => h)).c0;rw [HRD.out] at c; go_simp⟩) hS ?_
 simp only [Act.put, lsA, lsZ, lsS]
 refine take_at (i := 7) 22 (v := .bool false) rfl rfl (by kernel_rfl) (by kernel_rfl) (by kernel_rfl) (fun _ _ _ h => h) (Or.inl ⟨by rfl, fun w' hw' => by go_simp⟩) hS ?_
 simp only [Act.put, lsA, lsZ, lsS]
 refine take_at (i := 8) 23 (v := .bool false) rfl rfl (by kernel_rfl) (by kernel_rfl) (by kernel_rfl) (fun _ _ _ h => h) (Or.inl ⟨by rfl, fun w' hw' => by go_simp⟩) hS ?_
 simp only [Act.put, lsA, lsZ, lsS]
 refine take_at (i := 9) 24 (v := .bool false) rfl rfl (by kernel_rfl) (by kernel_rfl) (by kernel_rfl) (fun _ _ _ h => h) (Or.inl ⟨by rfl, fun w' hw' => by go_simp⟩) hS ?_
 simp only [Act.put, lsA, lsZ, lsS]
 refine take_at (i := 10) 25 (v := .pointer (some ⟨o.q, 0, none⟩)) rfl rfl (by kernel_rfl) (by kernel_rfl) (by kernel_rfl) (fun _ _ _ h => h) (Or.inl ⟨by rfl, fun w' hw' => by go_simp⟩) hS ?_
 simp only [Act.put, lsA, lsZ, lsS]
 refine take_at (i := 11) 26 (v := .pointer (some ⟨o.q, 0, none⟩)) rfl rfl (by kernel_rfl) (by kernel_rfl) (by kernel_rfl) (fun _ _ _ h => h) (Or.inl ⟨by rfl, fun w' hw' => by go_simp⟩) hS ?_
 simp only [Act.put, lsA, lsZ, lsS]
 refine take_at (i := 12) 27 (v := .pointer (some ⟨o.q, 1, none⟩)) rfl rfl (by kernel_rfl) (by kernel_rfl) (by kernel_rfl) (fun _ _ _ h => h) (Or.inl ⟨by rfl, fun w' hw' => by go_simp⟩) hS ?_
 simp only [Act.put, lsA, lsZ, lsS]
 refine take_at (i := 13) 28 (v := .string o.key) rfl rfl (by kernel_rfl) (by kernel_rfl) (by kernel_rfl) (fun _ _ _ h => h) (Or.inl ⟨by rfl, fun w' hw' => by have c := (HK.out.off hw' (fun h => h) (fun h => h)).c1; go_simp⟩) hS ?_
 simp only [Act.put, lsA, lsZ, lsS]
 refine take_at (i := 14) 29 (v := .pointer (some ⟨B, 0, none⟩)) rfl rfl (by kernel_rfl) (by kernel_rfl) (by kernel_rfl) (fun _ _ _ h => h) (Or.inl ⟨by rfl, fun w' hw' => by go_simp⟩) hS ?_
 simp only [Act.put, lsA, lsZ, lsS]
 refine take_at (i := 15) 30 (v := .string key) rfl rfl (by kernel_rfl) (by kernel_rfl) (by kernel_rfl) (fun _ _ _ h => h) (Or.inl ⟨by rfl, fun w' hw' => by obtain ⟨x0, x1, x2, x3, x4, x5, x6, x7, x8, x9⟩ := ce10 (HB.out.off hw' (fun h => h)); go_simp⟩) hS ?_
 simp only [Act.put, lsA, lsZ, lsS]
 refine take_at (i := 16) 31 (v := .bool false) rfl rfl (by kernel_rfl) (by kernel_rfl) (by kernel_rfl) (fun _ _ _ h => h) (Or.inl ⟨by rfl, fun w' hw' => by have h : o.key.toList = key.toList := (by rw [HKE.out]); go_simp⟩) hS ?_
 simp only [Act.put, lsA, lsZ, lsS]
 refine take_at (i := 17) 32 (v := .bool false) rfl rfl (by kernel_rfl) (by kernel_rfl) (by kernel_rfl) (fun _ _ _ h => h) (Or.inl ⟨by rfl, fun w' hw' => by go_simp⟩) hS ?_
 simp only [Act.put, lsA, lsZ, lsS]
 refine take_at (i := 18) 33 (v := .bool false) rfl rfl (by kernel_rfl) (by kernel_rfl) (by kernel_rfl) (fun _ _ _ h => h) (Or.inl ⟨by rfl, fun w' hw' => by go_simp⟩) hS ?_
 simp only [Act.put, lsA, lsZ, lsS]
 refine take_at (i := 19) 34 (v := (.agg #[.string key, .int .i64 (s.f 0), .int .i64 (s.f 1), .int .i64 (s.f 2), .int .i64 (s.f 3), .int .i64 (s.f 4), .int .i64 (s.f 5), .int .i64 (s.f 6), .int .i64 (s.f 7), .slice s.a s.l.length s.cap])) rfl rfl (by kernel_rfl) (by kernel_rfl) (by kernel_rfl) (fun _ _ _ h => h) (Or.inl ⟨by rfl, fun w' hw' => by obtain ⟨x0, x1, x2, x3, x4, x5, x6, x7, x8, x9⟩ := ce10 (HB.out.off hw' (fun h => h)); go_simp⟩) hS ?_
 simp only [Act.put, lsA, lsZ, lsS]
 refine wpAnyH_ready (rs := [20]) (by kernel_rfl) (by simp) ?_
 refine AllReadyH.cons rfl (fun K' hK' => ?_) AllReadyH.nil
 go_simp
 refine Calls.mono (smayentry_any key s.f s.a s.cap s.l _ (HSR.out.off hS)) ?_
 rw [HME.out]
 rintro e v1 ⟨rfl, o1⟩
 have hS1 := hS.trans o1 (fun _ _ h => h)
 refine hK'.out _ _ hS1 (fun hS => ?_)
 clear hK' K' hS1 o1
 refine take_at (i := 21) 36 (v := .bool false) rfl rfl (by kernel_rfl) (by kernel_rfl) (by kernel_rfl) (fun _ _ _ h => h) (Or.inl ⟨by rfl, fun w' hw' => by go_simp⟩) hS ?_
 simp only [Act.put, lsA, lsZ, lsS]
 refine take_at (i := 22) 37 (v := .bool false) rfl rfl (by kernel_rfl) (by kernel_rfl) (by kernel_rfl) (fun _ _ _ h => h) (Or.inl ⟨by rfl, fun w' hw' => by go_simp⟩) hS ?_
 simp only [Act.put, lsA, lsZ, lsS]
 refine take_at (i := 23) 38 (v := .bool false) rfl rfl (by kernel_rfl) (by kernel_rfl) (by kernel_rfl) (fun _ _ _ h => h) (Or.inl ⟨by rfl, fun w' hw' => by go_simp⟩) hS ?_
 simp only [Act.put, lsA, lsZ, lsS]
 refine take_at (i := 24) 39 (v := .pointer (some ⟨o.q, 0, none⟩)) rfl rfl (by kernel_rfl) (by kernel_rfl) (by kernel_rfl) (fun _ _ _ h => h) (Or.inl ⟨by rfl, fun w' hw' => by go_simp⟩) hS ?_
 simp only [Act.put, lsA, lsZ, lsS]
 refine take_at (i := 25) 40 (v := .pointer (some ⟨o.q, 0, none⟩)) rfl rfl (by kernel_rfl) (by kernel_rfl) (by kernel_rfl) (fun _ _ _ h => h) (Or.inl ⟨by rfl, fun w' hw' => by go_simp⟩) hS ?_
 simp only [Act.put, lsA, lsZ, lsS]
 refine take_at (i := 26) 41 (v := .pointer (some ⟨o.q, 83, none⟩)) rfl rfl (by kernel_rfl) (by kernel_rfl) (by kernel_rfl) (fun _ _ _ h => h) (Or.inl ⟨by rfl, fun w' hw' => by go_simp⟩) hS ?_
 simp only [Act.put, lsA, lsZ, lsS]
 refine take_at (i := 27) 42 (v := .pointer (some ⟨o.cb, 0, none⟩)) rfl rfl (by kernel_rfl) (by kernel_rfl) (by kernel_rfl) (fun _ _ _ h => h) (Or.inl ⟨by rfl, fun w' hw' => by have c := (HK.out.off hw' (fun h => h) (fun h => h)).c83; go_simp⟩) hS ?_
 simp only [Act.put, lsA, lsZ, lsS]
 refine take_at (i := 28) 43 (v := .int .i64 node) rfl rfl (by kernel_rfl) (by kernel_rfl) (by kernel_rfl) (fun _ _ _ h => h) (Or.inl ⟨by rfl, fun w' hw' => by go_simp⟩) hS ?_
 simp only [Act.put, lsA, lsZ, lsS]
 refine wpAnyH_ready (rs := [29]) (by kernel_rfl) (by simp) ?_
 refine AllReadyH.cons rfl (fun K' hK' => ?_) AllReadyH.nil
 go_simp
 refine Calls.mono (has_any (HK.out.off hS (fun h => h) (fun h => h)).cnt node) ?_
 rw [HHA.out]
 rintro e v1 ⟨rfl, hw1⟩
 rw [hw1]
 refine hK'.out _ _ hS (fun hS => ?_)
 clear hK' K' hw1 v1
 refine take_at (i := 30) 45 (v := .bool false) rfl rfl (by kernel_rfl) (by kernel_rfl) (by kernel_rfl) (fun _ _ _ h => h) (Or.inl ⟨by rfl, fun w' hw' => by go_simp⟩) hS ?_
 simp only [Act.put, lsA, lsZ, lsS]
 refine wpAnyH_done (by kernel_rfl) ?_ _
 have HOV : Hid _ := hS
 have HK2 : Hid _ := HK.out.off hS (fun h => h) (fun h => h)
 have HBX : Hid _ := HB.out.off hS (fun h => h)
 have HOW : Hid _ := HO.out.trans hS (fun _ _ h => h)
 clear hS
 rename World => V2
 have c83 := HK2.out.c83
 have HAD : Hid _ := add_any HK2.out.cnt node
 rw [HADB.out] at HAD
 obtain ⟨x0, x1, x2, x3, x4, x5, x6, x7, x8, x9⟩ := ce10 HBX.out
 clear x0 x1 x2 x3 x4 x5 x6 x7 x8 x9
 go_wp2_with fail
 refine Calls.mono HAD.out ?_
 rintro e V4 ⟨rfl, hc4, o4⟩
 have A4 : OpAt (setWho o node) V4 := ⟨HK2.out.cel.off o4 (fun e => HK2.out.ne e.symm), hc4⟩
 have HA4 : Hid _ := A4
 have HO4 : Hid (Off (fun c => c = o.q ∨ c = o.cb) w V4) := (HOW.out.mono (fun _ _ h => h.elim)).trans o4 (fun _ _ e => .inr e)
 have HB4 : Hid _ := HBX.out.off o4 (fun e => HBC.out e)
 obtain ⟨x0, x1, x2, x3, x4, x5, x6, x7, x8, x9⟩ := ce10 HB4.out
 have HDZ : Hid (∀ c, c = o.q ∨ c = o.cb → D c) := fun c e => e.elim (fun e => e ▸ (HC.out.op o HON.out).2.1) (fun e => e ▸ (HC.out.op o HON.out).2.2.1)
 have HOD4 : Hid (Off D w V4) := HO4.out.mono (fun c _ e => HDZ.out c e)
 have HS4 : Hid _ := HS0.out.off HOD4.out (fun c _ => HC.out.sub c)
 have HK4 : Hid _ := (HC.out.op o HON.out).2.2.2.1.off HOD4.out (fun c _ => HC.out.sub c)
 clear A4 o4 hc4 c83 HAD
 obtain ⟨m, hm8, hmn⟩ := okN_nat HOK.out
 have hw4 : (setWho o node).who m = true := by
  show adds o.who node m = true
  unfold adds
  rw [if_pos HOK.out, hmn, Int.toNat_natCast]
  exact ans_same _ _
 have HLN : Hid _ := learn_yes HA4.out HK4.out s HS4.out (by have := HME.out; rw [Bool.and_eq_true] at this; exact this.2) hm8 hw4 (HC.out.sub _ (HDZ.out _ (.inl rfl))) (fun c hc => Nat.lt_of_lt_of_le (HC.out.lt c hc) HO4.out.size)
 rw [← hmn] at HLN
 have HMN : Hid (node = (m : Int)) := hmn
 have HM8 : Hid (m < 8) := hm8
 clear hmn hw4 hm8
 go_wp2_with fail
 refine Calls.mono HLN.out ?_
 rintro e V5 ⟨rfl, u1, u2, hu1, hu2, A5, s1, s2, o5⟩
 have h := HC.out
 have O5 : Off (fun c => c = o.q ∨ c = o.cb) w V5 := HO4.out.trans o5 (fun _ _ e => .inl e)
 have OD5 : Off D w V5 := O5.mono (fun c _ e => HDZ.out c e)
 have st5 : ∀ k, k < 8 → SOk Z V5 ((setKn (setTl (setWho o node) m u1) u2).tl k) := fun k hk => by
  show SOk _ _ (if k = m then u1 else o.tl k)
  split
  ·exact s1
  ·exact ((h.op o HON.out).2.2.2.2 k hk).off OD5 (fun c _ => h.sub c)
 obtain ⟨c1, g1, f1⟩ := h.rep HON.out (o' := setKn (setTl (setWho o node) m u1) u2) rfl rfl rfl (h.ids o HON.out).2.2 O5 A5 s2 st5
 have eh : OpD.abs (setKn (setTl (setWho o node) m u1) u2) = hearA o.abs node s.abs := by
  have := hear_abs (o := o) (u1 := u1) (u2 := u2) HM8.out hu1 hu2
  rw [← HMN.out] at this
  exact this
 have HEH : Hid _ := eh
 have HA5 : Hid _ := A5
 have HC1 : Hid _ := c1
 have HG1 : Hid _ := g1
 clear o5 x0 x1 x2 x3 x4 x5 x6 x7 x8 x9 HLN A5 c1 g1 f1 st5 s1 s2 hu1 hu2 eh O5 OD5 h
 go_wp2_with fail
 go_ret2
 have hg := gotA_more (node := node) (key := key) (s := s.abs) HFN.out (by exact no4 HRD.out HKE.out HME.out HHA.out) HADB.out
 rw [hg]
 refine ⟨_, D, Z, HC1.out, HG1.out, ?_, rfl⟩
 unfold CM.abs
 simp only [rep_abs, HEH.out]
set_option maxHeartbeats 2000000 in
theorem got_done {D Z : Nat → Prop} {p : Nat} {x : CM} {w : World} (h : CST D Z p x w) {n : Int} (hn : wf64 n) (node : Int) (key : ByteArray) (s : SV) (hs : SOk Z w s) {o : OpD} (hf : fndO n x.t = some o) (hr : o.read = true) (hk : key = o.key) (hm : (keyB key && mayA s.abs) = true) (ha : (okN node && o.who node.toNat) = false) (hok : okN node = true) (hb : addB o.need o.who node = true) : Calls Try.prog 8 #[.pointer (some ⟨p, 0, none⟩), .int .i64 n, .int .i64 node, (.agg #[.string key, .int .i64 (s.f 0), .int .i64 (s.f 1), .int .i64 (s.f 2), .int .i64 (s.f 3), .int .i64 (s.f 4), .int .i64 (s.f 5), .int .i64 (s.f 6), .int .i64 (s.f 7), .slice s.a s.l.length s.cap])] w fun e w' => ∃ x' D' Z', CST D' Z' p x' w' ∧ Gro D D' Z Z' w w' ∧ x'.abs = (gotA x.abs n node key s.abs).1 ∧ GotR (gotA x.abs n node key s.abs).2 e w.heap.size w' := by
 have hq := eql_pO
 have HC : Hid _ := h
 have HA : fndA n x.abs.t = (fndO n x.t).map OpD.abs := fnd_abs n x.t
 obtain ⟨V, hV⟩ : ∃ V, V = w.alloc (.cells #[.string key, .int .i64 (s.f 0), .int .i64 (s.f 1), .int .i64 (s.f 2), .int .i64 (s.f 3), .int .i64 (s.f 4), .int .i64 (s.f 5), .int .i64 (s.f 6), .int .i64 (s.f 7), .slice s.a s.l.length s.cap] 41) := ⟨_, rfl⟩
 have O : Off (fun _ => False) w V := by rw [hV]; exact (Off.refl _ w).alloc _
 have HB : Hid (Cel w.heap.size 41 #[.string key, .int .i64 (s.f 0), .int .i64 (s.f 1), .int .i64 (s.f 2), .int .i64 (s.f 3), .int .i64 (s.f 4), .int .i64 (s.f 5), .int .i64 (s.f 6), .int .i64 (s.f 7), .slice s.a s.l.length s.cap] V) := by rw [hV]; exact Cel.new w _ _
 have HW : Hid (w.alloc (.cells #[.string key, .int .i64 (s.f 0), .int .i64 (s.f 1), .int .i64 (s.f 2), .int .i64 (s.f 3), .int .i64 (s.f 4), .int .i64 (s.f 5), .int .i64 (s.f 6), .int .i64 (s.f 7), .slice s.a s.l.length s.cap] 41) = V) := hV.symm
 have HO : Hid _ := O
 have HCV : Hid _ := h.free O
 have HSR : Hid _ := hs.row.off O
 clear hV
 obtain ⟨ho, hid⟩ := fndO_some hf
 have HK : Hid _ := (h.op o ho).1.off O (fun h => h) (fun h => h)
 have HF : Hid _ := cfind_yes HCV.out hn hf
 have HRD : Hid _ := hr
 have HKE : Hid (key = o.key) := hk
 have HME : Hid ((keyB key && mayS s.f (cont s.l)) = true) := hm
 have HHA : Hid _ := ha
 have HS0 : Hid _ := hs
 have HON : Hid _ := ho
 have HID : Hid _ := hid
 have HFN : Hid _ := HA
 rw [hf] at HFN
 have HADB : Hid (addB o.need o.who node = true) := hb
 have HOK : Hid _ := hok
 have HBC : Hid (w.heap.size ≠ o.cb) := fun e => by have := (h.op o ho).1.cnt.cel.lt; omega
 clear h HA O hs ho hid hr hk hm ha hok hb
 go_enter Try.func8, Try.ntmps8
 go_upto_region 1 with fail
 rw [HW.out]
 go_wp2_with fail
 refine Calls.mono HF.out ?_
 rintro e w1 ⟨rfl, hw⟩
 rw [hw]
 clear hw w1 HF
 go_upto_region 2 with fail
 have HBL : Hid (w.heap.size < V.heap.size) := HB.out.lt
 have HBB : Hid (w.heap.size = w.heap.size) := rfl
 obtain ⟨B, hBB⟩ : ∃ B, B = w.heap.size := ⟨_, rfl⟩
 rw [← hBB] at HB HBL HBC ⊢
 clear hBB
 refine wp_region_held_drew (S := fun w' => Off (fun _ => False) V w') (by kernel_rfl) ((Off.refl _ V).drew) (fun hS => ?_)
 refine take_at (i := 0) 15 (v := .pointer (some ⟨o.q, 0, none⟩)) rfl rfl (by kernel_rfl) (by kernel_rfl) (by kernel_rfl) (fun _ _ _ h => h) (Or.inl ⟨by rfl, fun w' hw' => by go_simp⟩) hS ?_
 simp only [Act.put, lsA, lsZ, lsS]
 refine take_at (i := 1) 16 (v := .bool false) rfl rfl (by kernel_rfl) (by kernel_rfl) (by kernel_rfl) (fun _ _ _ h => h) (Or.inl ⟨by rfl, fun w' hw' => by go_simp⟩) hS ?_
 simp only [Act.put, lsA, lsZ, lsS]
 refine take_at (i := 2) 17 (v := .bool false) rfl rfl (by kernel_rfl) (by kernel_rfl) (by kernel_rfl) (fun _ _ _ h => h) (Or.inl ⟨by rfl, fun w' hw' => by go_simp⟩) hS ?_
 simp only [Act.put, lsA, lsZ, lsS]
 refine take_at (i := 3) 18 (v := .pointer (some ⟨o.q, 0, none⟩)) rfl rfl (by kernel_rfl) (by kernel_rfl) (by kernel_rfl) (fun _ _ _ h => h) (Or.inl ⟨by rfl, fun w' hw' => by go_simp⟩) hS ?_
 simp only [Act.put, lsA, lsZ, lsS]
 refine take_at (i := 4) 19 (v := .pointer (some ⟨o.q, 0, none⟩)) rfl rfl (by kernel_rfl) (by kernel_rfl) (by kernel_rfl) (fun _ _ _ h => h) (Or.inl ⟨by rfl, fun w' hw' => by go_simp⟩) hS ?_
 simp only [Act.put, lsA, lsZ, lsS]
 refine take_at (i := 5) 20 (v := .pointer (some ⟨o.q, 0, none⟩)) rfl rfl (by kernel_rfl) (by kernel_rfl) (by kernel_rfl) (fun _ _ _ h => h) (Or.inl ⟨by rfl, fun w' hw' => by go_simp⟩) hS ?_
 simp only [Act.put, lsA, lsZ, lsS]
 refine take_at (i := 6) 21 (v := .bool true) rfl rfl (by kernel_rfl) (by kernel_rfl) (by kernel_rfl) (fun _ _ _ h => h) (Or.inl ⟨by rfl, fun w' hw' => by have c := (HK.out.off hw' (fun h => h) (fun h => h)).c0;rw [HRD.out] at c; go_simp⟩) hS ?_
 simp only [Act.put, lsA, lsZ, lsS]
 refine take_at (i := 7) 22 (v := .bool false) rfl rfl (by kernel_rfl) (by kernel_rfl) (by kernel_rfl) (fun _ _ _ h => h) (Or.inl ⟨by rfl, fun w' hw' => by go_simp⟩) hS ?_
 simp only [Act.put, lsA, lsZ, lsS]
 refine take_at (i := 8) 23 (v := .bool false) rfl rfl (by kernel_rfl) (by kernel_rfl) (by kernel_rfl) (fun _ _ _ h => h) (Or.inl ⟨by rfl, fun w' hw' => by go_simp⟩) hS ?_
 simp only [Act.put, lsA, lsZ, lsS]
 refine take_at (i := 9) 24 (v := .bool false) rfl rfl (by kernel_rfl) (by kernel_rfl) (by kernel_rfl) (fun _ _ _ h => h) (Or.inl ⟨by rfl, fun w' hw' => by go_simp⟩) hS ?_
 simp only [Act.put, lsA, lsZ, lsS]
 refine take_at (i := 10) 25 (v := .pointer (some ⟨o.q, 0, none⟩)) rfl rfl (by kernel_rfl) (by kernel_rfl) (by kernel_rfl) (fun _ _ _ h => h) (Or.inl ⟨by rfl, fun w' hw' => by go_simp⟩) hS ?_
 simp only [Act.put, lsA, lsZ, lsS]
 refine take_at (i := 11) 26 (v := .pointer (some ⟨o.q, 0, none⟩)) rfl rfl (by kernel_rfl) (by kernel_rfl) (by kernel_rfl) (fun _ _ _ h => h) (Or.inl ⟨by rfl, fun w' hw' => by go_simp⟩) hS ?_
 simp only [Act.put, lsA, lsZ, lsS]
 refine take_at (i := 12) 27 (v := .pointer (some ⟨o.q, 1, none⟩)) rfl rfl (by kernel_rfl) (by kernel_rfl) (by kernel_rfl) (fun _ _ _ h => h) (Or.inl ⟨by rfl, fun w' hw' => by go_simp⟩) hS ?_
 simp only [Act.put, lsA, lsZ, lsS]
 refine take_at (i := 13) 28 (v := .string o.key) rfl rfl (by kernel_rfl) (by kernel_rfl) (by kernel_rfl) (fun _ _ _ h => h) (Or.inl ⟨by rfl, fun w' hw' => by have c := (HK.out.off hw' (fun h => h) (fun h => h)).c1; go_simp⟩) hS ?_
 simp only [Act.put, lsA, lsZ, lsS]
 refine take_at (i := 14) 29 (v := .pointer (some ⟨B, 0, none⟩)) rfl rfl (by kernel_rfl) (by kernel_rfl) (by kernel_rfl) (fun _ _ _ h => h) (Or.inl ⟨by rfl, fun w' hw' => by go_simp⟩) hS ?_
 simp only [Act.put, lsA, lsZ, lsS]
 refine take_at (i := 15) 30 (v := .string key) rfl rfl (by kernel_rfl) (by kernel_rfl) (by kernel_rfl) (fun _ _ _ h => h) (Or.inl ⟨by rfl, fun w' hw' => by obtain ⟨x0, x1, x2, x3, x4, x5, x6, x7, x8, x9⟩ := ce10 (HB.out.off hw' (fun h => h)); go_simp⟩) hS ?_
 simp only [Act.put, lsA, lsZ, lsS]
 refine take_at (i := 16) 31 (v := .bool false) rfl rfl (by kernel_rfl) (by kernel_rfl) (by kernel_rfl) (fun _ _ _ h => h) (Or.inl ⟨by rfl, fun w' hw' => by have h : o.key.toList = key.toList := (by rw [HKE.out]); go_simp⟩) hS ?_
 simp only [Act.put, lsA, lsZ, lsS]
 refine take_at (i := 17) 32 (v := .bool false) rfl rfl (by kernel_rfl) (by kernel_rfl) (by kernel_rfl) (fun _ _ _ h => h) (Or.inl ⟨by rfl, fun w' hw' => by go_simp⟩) hS ?_
 simp only [Act.put, lsA, lsZ, lsS]
 refine take_at (i := 18) 33 (v := .bool false) rfl rfl (by kernel_rfl) (by kernel_rfl) (by kernel_rfl) (fun _ _ _ h => h) (Or.inl ⟨by rfl, fun w' hw' => by go_simp⟩) hS ?_
 simp only [Act.put, lsA, lsZ, lsS]
 refine take_at (i := 19) 34 (v := (.agg #[.string key, .int .i64 (s.f 0), .int .i64 (s.f 1), .int .i64 (s.f 2), .int .i64 (s.f 3), .int .i64 (s.f 4), .int .i64 (s.f 5), .int .i64 (s.f 6), .int .i64 (s.f 7), .slice s.a s.l.length s.cap])) rfl rfl (by kernel_rfl) (by kernel_rfl) (by kernel_rfl) (fun _ _ _ h => h) (Or.inl ⟨by rfl, fun w' hw' => by obtain ⟨x0, x1, x2, x3, x4, x5, x6, x7, x8, x9⟩ := ce10 (HB.out.off hw' (fun h => h)); go_simp⟩) hS ?_
 simp only [Act.put, lsA, lsZ, lsS]
 refine wpAnyH_ready (rs := [20]) (by kernel_rfl) (by simp) ?_
 refine AllReadyH.cons rfl (fun K' hK' => ?_) AllReadyH.nil
 go_simp
 refine Calls.mono (smayentry_any key s.f s.a s.cap s.l _ (HSR.out.off hS)) ?_
 rw [HME.out]
 rintro e v1 ⟨rfl, o1⟩
 have hS1 := hS.trans o1 (fun _ _ h => h)
 refine hK'.out _ _ hS1 (fun hS => ?_)
 clear hK' K' hS1 o1
 refine take_at (i := 21) 36 (v := .bool false) rfl rfl (by kernel_rfl) (by kernel_rfl) (by kernel_rfl) (fun _ _ _ h => h) (Or.inl ⟨by rfl, fun w' hw' => by go_simp⟩) hS ?_
 simp only [Act.put, lsA, lsZ, lsS]
 refine take_at (i := 22) 37 (v := .bool false) rfl rfl (by kernel_rfl) (by kernel_rfl) (by kernel_rfl) (fun _ _ _ h => h) (Or.inl ⟨by rfl, fun w' hw' => by go_simp⟩) hS ?_
 simp only [Act.put, lsA, lsZ, lsS]
 refine take_at (i := 23) 38 (v := .bool false) rfl rfl (by kernel_rfl) (by kernel_rfl) (by kernel_rfl) (fun _ _ _ h => h) (Or.inl ⟨by rfl, fun w' hw' => by go_simp⟩) hS ?_
 simp only [Act.put, lsA, lsZ, lsS]
 refine take_at (i := 24) 39 (v := .pointer (some ⟨o.q, 0, none⟩)) rfl rfl (by kernel_rfl) (by kernel_rfl) (by kernel_rfl) (fun _ _ _ h => h) (Or.inl ⟨by rfl, fun w' hw' => by go_simp⟩) hS ?_
 simp only [Act.put, lsA, lsZ, lsS]
 refine take_at (i := 25) 40 (v := .pointer (some ⟨o.q, 0, none⟩)) rfl rfl (by kernel_rfl) (by kernel_rfl) (by kernel_rfl) (fun _ _ _ h => h) (Or.inl ⟨by rfl, fun w' hw' => by go_simp⟩) hS ?_
 simp only [Act.put, lsA, lsZ, lsS]
 refine take_at (i := 26) 41 (v := .pointer (some ⟨o.q, 83, none⟩)) rfl rfl (by kernel_rfl) (by kernel_rfl) (by kernel_rfl) (fun _ _ _ h => h) (Or.inl ⟨by rfl, fun w' hw' => by go_simp⟩) hS ?_
 simp only [Act.put, lsA, lsZ, lsS]
 refine take_at (i := 27) 42 (v := .pointer (some ⟨o.cb, 0, none⟩)) rfl rfl (by kernel_rfl) (by kernel_rfl) (by kernel_rfl) (fun _ _ _ h => h) (Or.inl ⟨by rfl, fun w' hw' => by have c := (HK.out.off hw' (fun h => h) (fun h => h)).c83; go_simp⟩) hS ?_
 simp only [Act.put, lsA, lsZ, lsS]
 refine take_at (i := 28) 43 (v := .int .i64 node) rfl rfl (by kernel_rfl) (by kernel_rfl) (by kernel_rfl) (fun _ _ _ h => h) (Or.inl ⟨by rfl, fun w' hw' => by go_simp⟩) hS ?_
 simp only [Act.put, lsA, lsZ, lsS]
 refine wpAnyH_ready (rs := [29]) (by kernel_rfl) (by simp) ?_
 refine AllReadyH.cons rfl (fun K' hK' => ?_) AllReadyH.nil
 go_simp
 refine Calls.mono (has_any (HK.out.off hS (fun h => h) (fun h => h)).cnt node) ?_
 rw [HHA.out]
 rintro e v1 ⟨rfl, hw1⟩
 rw [hw1]
 refine hK'.out _ _ hS (fun hS => ?_)
 clear hK' K' hw1 v1
 refine take_at (i := 30) 45 (v := .bool false) rfl rfl (by kernel_rfl) (by kernel_rfl) (by kernel_rfl) (fun _ _ _ h => h) (Or.inl ⟨by rfl, fun w' hw' => by go_simp⟩) hS ?_
 simp only [Act.put, lsA, lsZ, lsS]
 refine wpAnyH_done (by kernel_rfl) ?_ _
 have HOV : Hid _ := hS
 have HK2 : Hid _ := HK.out.off hS (fun h => h) (fun h => h)
 have HBX : Hid _ := HB.out.off hS (fun h => h)
 have HOW : Hid _ := HO.out.trans hS (fun _ _ h => h)
 clear hS
 rename World => V2
 have c83 := HK2.out.c83
 have HAD : Hid _ := add_any HK2.out.cnt node
 rw [HADB.out] at HAD
 obtain ⟨x0, x1, x2, x3, x4, x5, x6, x7, x8, x9⟩ := ce10 HBX.out
 clear x0 x1 x2 x3 x4 x5 x6 x7 x8 x9
 go_wp2_with fail
 refine Calls.mono HAD.out ?_
 rintro e V4 ⟨rfl, hc4, o4⟩
 have A4 : OpAt (setWho o node) V4 := ⟨HK2.out.cel.off o4 (fun e => HK2.out.ne e.symm), hc4⟩
 have HA4 : Hid _ := A4
 have HO4 : Hid (Off (fun c => c = o.q ∨ c = o.cb) w V4) := (HOW.out.mono (fun _ _ h => h.elim)).trans o4 (fun _ _ e => .inr e)
 have HB4 : Hid _ := HBX.out.off o4 (fun e => HBC.out e)
 obtain ⟨x0, x1, x2, x3, x4, x5, x6, x7, x8, x9⟩ := ce10 HB4.out
 have HDZ : Hid (∀ c, c = o.q ∨ c = o.cb → D c) := fun c e => e.elim (fun e => e ▸ (HC.out.op o HON.out).2.1) (fun e => e ▸ (HC.out.op o HON.out).2.2.1)
 have HOD4 : Hid (Off D w V4) := HO4.out.mono (fun c _ e => HDZ.out c e)
 have HS4 : Hid _ := HS0.out.off HOD4.out (fun c _ => HC.out.sub c)
 have HK4 : Hid _ := (HC.out.op o HON.out).2.2.2.1.off HOD4.out (fun c _ => HC.out.sub c)
 clear A4 o4 hc4 c83 HAD
 obtain ⟨m, hm8, hmn⟩ := okN_nat HOK.out
 have hw4 : (setWho o node).who m = true := by
  show adds o.who node m = true
  unfold adds
  rw [if_pos HOK.out, hmn, Int.toNat_natCast]
  exact ans_same _ _
 have HLN : Hid _ := learn_yes HA4.out HK4.out s HS4.out (by have := HME.out; rw [Bool.and_eq_true] at this; exact this.2) hm8 hw4 (HC.out.sub _ (HDZ.out _ (.inl rfl))) (fun c hc => Nat.lt_of_lt_of_le (HC.out.lt c hc) HO4.out.size)
 rw [← hmn] at HLN
 have HMN : Hid (node = (m : Int)) := hmn
 have HM8 : Hid (m < 8) := hm8
 clear hmn hw4 hm8
 go_wp2_with fail
 refine Calls.mono HLN.out ?_
 rintro e V5 ⟨rfl, u1, u2, hu1, hu2, A5, s1, s2, o5⟩
 have h := HC.out
 have O5 : Off (fun c => c = o.q ∨ c = o.cb) w V5 := HO4.out.trans o5 (fun _ _ e => .inl e)
 have OD5 : Off D w V5 := O5.mono (fun c _ e => HDZ.out c e)
 have st5 : ∀ k, k < 8 → SOk Z V5 ((setKn (setTl (setWho o node) m u1) u2).tl k) := fun k hk => by
  show SOk _ _ (if k = m then u1 else o.tl k)
  split
  ·exact s1
  ·exact ((h.op o HON.out).2.2.2.2 k hk).off OD5 (fun c _ => h.sub c)
 obtain ⟨c1, g1, f1⟩ := h.rep HON.out (o' := setKn (setTl (setWho o node) m u1) u2) rfl rfl rfl (h.ids o HON.out).2.2 O5 A5 s2 st5
 have eh : OpD.abs (setKn (setTl (setWho o node) m u1) u2) = hearA o.abs node s.abs := by
  have := hear_abs (o := o) (u1 := u1) (u2 := u2) HM8.out hu1 hu2
  rw [← HMN.out] at this
  exact this
 have HEH : Hid _ := eh
 have HA5 : Hid _ := A5
 have HC1 : Hid _ := c1
 have HG1 : Hid _ := g1
 rw [HID.out] at f1
 have HFI : Hid _ := finish_any c1 f1 hn 0 u2 s2
 obtain ⟨y0, y1, y2, y3, y4, y5, y6, y7, y8⟩ := k9f HA5.out
 have HS2 : Hid _ := s2
 have HT5 : Hid _ := st5
 have HWS : Hid (w.heap.size ≤ V5.heap.size) := O5.size
 clear o5 x0 x1 x2 x3 x4 x5 x6 x7 x8 x9 HLN A5 c1 g1 f1 st5 s1 s2 hu1 hu2 eh O5 OD5 h
 go_wp2_with fail
 refine Calls.mono HFI.out ?_
 rintro e V6 ⟨rfl, x', D', Z', c2, g2, e1, e2, e3, e4, e5⟩
 have HC2 : Hid _ := c2
 have HG2 : Hid _ := g2
 have HE : Hid _ := fin_abs (x1 := { x with t := repO (setKn (setTl (setWho o node) m u1) u2) x.t }) e1 e2 e3 e4
 have HBH : Hid _ := behind_any (e5 _ HA5.out) (HS2.out.gro g2 HC1.out.sub).row (fun k hk => ((HT5.out k hk).gro g2 HC1.out.sub).row)
 clear c2 g2 e1 e2 e3 e4 e5 y0 y1 y2 y3 y4 y5 y6 y7 y8 HFI
 go_wp2_with fail
 refine Calls.mono HBH.out ?_
 rintro e V7 ⟨a, c, l, rfl, own7, hl7, hb7, o7⟩
 have HO7 : Hid _ := own7
 have HL7 : Hid _ := hl7
 have HB7 : Hid _ := hb7
 have HF7 : Hid _ := o7
 clear own7 hl7 hb7 o7 HBH
 go_wp2_with fail
 go_ret2
 have hg := gotA_done (node := node) (key := key) (s := s.abs) HFN.out (by exact no4 HRD.out HKE.out HME.out HHA.out) HADB.out
 rw [hg]
 have G := HG1.out.trans HG2.out
 refine ⟨x', D', Z', HC2.out.free HF7.out, ⟨G.off.trans HF7.out (fun _ _ h => h.elim), G.new, G.zd, G.zz⟩, ?_, a, c, ?_, ?_, ?_⟩
 ·rw [HE.out]
  have ek : u2.abs = (hearA o.abs node s.abs).kn := congrArg OA.kn HEH.out
  unfold CM.abs
  simp only [rep_abs, HEH.out, ek]
 ·rw [← HEH.out, ← behind_abs, ← HB7.out]
  rfl
 ·rw [← HEH.out, ← behind_abs, ← HB7.out]
  exact HO7.out
 ·intro b hb
  have h1 := HL7.out b hb
  have h2 := HG2.out.off.size
  have h3 := HWS.out
  have h4 := HBB.out
  omega
end Go.Proofs.Ytmjmgdbhmbjmaab
