/- Items of several texts. -/
import Derived.Test.YtmjmgdbhmbjmaabACw22
import Derived.Test.YtmjmgdbhmbjmaabATbP
namespace Go.Proofs.Ytmjmgdbhmbjmaab
set_option maxRecDepth 100000
open Go.RowKit
theorem gotA_none {x : CA} {n node : Int} {key : ByteArray} {s : SA} (h : fndA n x.t = none) : gotA x n node key s = (x, none) := by unfold gotA; rw [h]
theorem gotA_no {x : CA} {n node : Int} {key : ByteArray} {s : SA} {o : OA} (h : fndA n x.t = some o) (k : o.read = false ∨ key ≠ o.key ∨ (keyB key && mayA s) = false ∨ (okN node && o.who node.toNat) = true) : gotA x n node key s = (x, none) := by unfold gotA; rw [h]; simp only [if_pos k]
theorem gotA_done {x : CA} {n node : Int} {key : ByteArray} {s : SA} {o : OA} (h : fndA n x.t = some o) (k : ¬ (o.read = false ∨ key ≠ o.key ∨ (keyB key && mayA s) = false ∨ (okN node && o.who node.toNat) = true)) (hb : addB o.need o.who node = true) : gotA x n node key s = (finA { x with t := repA (hearA o node s) x.t } n 0 (hearA o node s).kn, some (behindA (hearA o node s) 8)) := by unfold gotA; rw [h]; simp only [if_neg k, if_pos hb]
theorem gotA_more {x : CA} {n node : Int} {key : ByteArray} {s : SA} {o : OA} (h : fndA n x.t = some o) (k : ¬ (o.read = false ∨ key ≠ o.key ∨ (keyB key && mayA s) = false ∨ (okN node && o.who node.toNat) = true)) (hb : addB o.need o.who node = false) : gotA x n node key s = ({ x with t := repA (hearA o node s) x.t }, none) := by unfold gotA; rw [h]; simp only [if_neg k, hb]; simp
def GotR (r : Option (List Int)) (e : Ending) (N : Nat) (w' : World) : Prop := match r with
 | none => e = .returned (.tuple #[.slice none 0 0, .bool false])
 | some l => ∃ a c, e = .returned (.tuple #[.slice a l.length c, .bool true]) ∧ OwnG 3 1 inC w' a c l ∧ ∀ b, blk a = some b → N ≤ b
set_option maxHeartbeats 2000000 in
theorem got_none {D Z : Nat → Prop} {p : Nat} {x : CM} {w : World} (h : CST D Z p x w) {n : Int} (hn : wf64 n) (node : Int) (key : ByteArray) (s : SV) (hs : SOk Z w s) (hf : fndO n x.t = none) : Calls Try.prog 8 #[.pointer (some ⟨p, 0, none⟩), .int .i64 n, .int .i64 node, (.agg #[.string key, .int .i64 (s.f 0), .int .i64 (s.f 1), .int .i64 (s.f 2), .int .i64 (s.f 3), .int .i64 (s.f 4), .int .i64 (s.f 5), .int .i64 (s.f 6), .int .i64 (s.f 7), .slice s.a s.l.length s.cap])] w fun e w' => e = .returned (.tuple #[.slice none 0 0, .bool false]) ∧ Off (fun _ => False) w w' := by
 have hq := eql_pO
 have HC : Hid _ := h
 have HA : fndA n x.abs.t = (fndO n x.t).map OpD.abs := fnd_abs n x.t
 obtain ⟨V, hV⟩ : ∃ V, V = w.alloc (.cells #[.string key, .int .i64 (s.f 0), .int .i64 (s.f 1), .int .i64 (s.f 2), .int .i64 (s.f 3), .int .i64 (s.f 4), .int .i64 (s.f 5), .int .i64 (s.f 6), .int .i64 (s.f 7), .slice s.a s.l.length s.cap] 41) := ⟨_, rfl⟩
 have O : Off (fun _ => False) w V := by rw [hV]; exact (Off.refl _ w).alloc _
 have HB : Hid (Cel w.heap.size 41 #[.string key, .int .i64 (s.f 0), .int .i64 (s.f 1), .int .i64 (s.f 2), .int .i64 (s.f 3), .int .i64 (s.f 4), .int .i64 (s.f 5), .int .i64 (s.f 6), .int .i64 (s.f 7), .slice s.a s.l.length s.cap] V) := by rw [hV]; exact Cel.new w _ _
 have HW : Hid (w.alloc (.cells #[.string key, .int .i64 (s.f 0), .int .i64 (s.f 1), .int .i64 (s.f 2), .int .i64 (s.f 3), .int .i64 (s.f 4), .int .i64 (s.f 5), .int .i64 (s.f 6), .int .i64 (s.f 7), .slice s.a s.l.length s.cap] 41) = V) := hV.symm
 have HO : Hid _ := O
 have HCV : Hid _ := h.free O
 have HSR : Hid _ := hs.row.off O
 clear hV
 have HF : Hid _ := cfind_no HCV.out hn hf
 clear h HA O hs
 go_enter Try.func8, Try.ntmps8
 go_upto_region 1 with fail
 rw [HW.out]
 go_wp2_with fail
 refine Calls.mono HF.out ?_
 rintro e w1 ⟨rfl, hw⟩
 rw [hw]
 clear hw w1 HF
 go_upto_region 2 with fail
 generalize w.heap.size = B at HB ⊢
 refine wp_region_held_drew (S := fun w' => Off (fun _ => False) V w') (by kernel_rfl) ((Off.refl _ V).drew) (fun hS => ?_)
 refine take_at (i := 0) 15 (v := .pointer none) rfl rfl (by kernel_rfl) (by kernel_rfl) (by kernel_rfl) (fun _ _ _ h => h) (Or.inl ⟨by rfl, fun w' hw' => by go_simp⟩) hS ?_
 simp only [Act.put, lsA, lsZ, lsS]
 refine take_at (i := 1) 16 (v := .bool true) rfl rfl (by kernel_rfl) (by kernel_rfl) (by kernel_rfl) (fun _ _ _ h => h) (Or.inl ⟨by rfl, fun w' hw' => by go_simp⟩) hS ?_
 simp only [Act.put, lsA, lsZ, lsS]
 refine take_at (i := 2) 17 (v := .bool true) rfl rfl (by kernel_rfl) (by kernel_rfl) (by kernel_rfl) (fun _ _ _ h => h) (Or.inl ⟨by rfl, fun w' hw' => by go_simp⟩) hS ?_
 simp only [Act.put, lsA, lsZ, lsS]
 refine take_at (i := 3) 18 (v := undef) rfl rfl (by kernel_rfl) (by kernel_rfl) (by kernel_rfl) (fun _ _ _ h => h) (Or.inr ⟨by rfl, rfl⟩) hS ?_
 simp only [Act.put, lsA, lsZ, lsS]
 refine take_at (i := 4) 19 (v := undef) rfl rfl (by kernel_rfl) (by kernel_rfl) (by kernel_rfl) (fun _ _ _ h => h) (Or.inr ⟨by rfl, rfl⟩) hS ?_
 simp only [Act.put, lsA, lsZ, lsS]
 refine take_at (i := 5) 20 (v := undef) rfl rfl (by kernel_rfl) (by kernel_rfl) (by kernel_rfl) (fun _ _ _ h => h) (Or.inr ⟨by rfl, rfl⟩) hS ?_
 simp only [Act.put, lsA, lsZ, lsS]
 refine take_at (i := 6) 21 (v := undef) rfl rfl (by kernel_rfl) (by kernel_rfl) (by kernel_rfl) (fun _ _ _ h => h) (Or.inr ⟨by rfl, rfl⟩) hS ?_
 simp only [Act.put, lsA, lsZ, lsS]
 refine take_at (i := 7) 22 (v := undef) rfl rfl (by kernel_rfl) (by kernel_rfl) (by kernel_rfl) (fun _ _ _ h => h) (Or.inr ⟨by rfl, rfl⟩) hS ?_
 simp only [Act.put, lsA, lsZ, lsS]
 refine take_at (i := 8) 23 (v := .bool true) rfl rfl (by kernel_rfl) (by kernel_rfl) (by kernel_rfl) (fun _ _ _ h => h) (Or.inl ⟨by rfl, fun w' hw' => by go_simp⟩) hS ?_
 simp only [Act.put, lsA, lsZ, lsS]
 refine take_at (i := 9) 24 (v := .bool true) rfl rfl (by kernel_rfl) (by kernel_rfl) (by kernel_rfl) (fun _ _ _ h => h) (Or.inl ⟨by rfl, fun w' hw' => by go_simp⟩) hS ?_
 simp only [Act.put, lsA, lsZ, lsS]
 refine take_at (i := 10) 25 (v := undef) rfl rfl (by kernel_rfl) (by kernel_rfl) (by kernel_rfl) (fun _ _ _ h => h) (Or.inr ⟨by rfl, rfl⟩) hS ?_
 simp only [Act.put, lsA, lsZ, lsS]
 refine take_at (i := 11) 26 (v := undef) rfl rfl (by kernel_rfl) (by kernel_rfl) (by kernel_rfl) (fun _ _ _ h => h) (Or.inr ⟨by rfl, rfl⟩) hS ?_
 simp only [Act.put, lsA, lsZ, lsS]
 refine take_at (i := 12) 27 (v := undef) rfl rfl (by kernel_rfl) (by kernel_rfl) (by kernel_rfl) (fun _ _ _ h => h) (Or.inr ⟨by rfl, rfl⟩) hS ?_
 simp only [Act.put, lsA, lsZ, lsS]
 refine take_at (i := 13) 28 (v := undef) rfl rfl (by kernel_rfl) (by kernel_rfl) (by kernel_rfl) (fun _ _ _ h => h) (Or.inr ⟨by rfl, rfl⟩) hS ?_
 simp only [Act.put, lsA, lsZ, lsS]
 refine take_at (i := 14) 29 (v := undef) rfl rfl (by kernel_rfl) (by kernel_rfl) (by kernel_rfl) (fun _ _ _ h => h) (Or.inr ⟨by rfl, rfl⟩) hS ?_
 simp only [Act.put, lsA, lsZ, lsS]
 refine take_at (i := 15) 30 (v := undef) rfl rfl (by kernel_rfl) (by kernel_rfl) (by kernel_rfl) (fun _ _ _ h => h) (Or.inr ⟨by rfl, rfl⟩) hS ?_
 simp only [Act.put, lsA, lsZ, lsS]
 refine take_at (i := 16) 31 (v := undef) rfl rfl (by kernel_rfl) (by kernel_rfl) (by kernel_rfl) (fun _ _ _ h => h) (Or.inr ⟨by rfl, rfl⟩) hS ?_
 simp only [Act.put, lsA, lsZ, lsS]
 refine take_at (i := 17) 32 (v := .bool true) rfl rfl (by kernel_rfl) (by kernel_rfl) (by kernel_rfl) (fun _ _ _ h => h) (Or.inl ⟨by rfl, fun w' hw' => by go_simp⟩) hS ?_
 simp only [Act.put, lsA, lsZ, lsS]
 refine take_at (i := 18) 33 (v := .bool true) rfl rfl (by kernel_rfl) (by kernel_rfl) (by kernel_rfl) (fun _ _ _ h => h) (Or.inl ⟨by rfl, fun w' hw' => by go_simp⟩) hS ?_
 simp only [Act.put, lsA, lsZ, lsS]
 refine take_at (i := 19) 34 (v := undef) rfl rfl (by kernel_rfl) (by kernel_rfl) (by kernel_rfl) (fun _ _ _ h => h) (Or.inr ⟨by rfl, rfl⟩) hS ?_
 simp only [Act.put, lsA, lsZ, lsS]
 refine take_at (i := 20) 35 (v := undef) rfl rfl (by kernel_rfl) (by kernel_rfl) (by kernel_rfl) (fun _ _ _ h => h) (Or.inr ⟨by rfl, rfl⟩) hS ?_
 simp only [Act.put, lsA, lsZ, lsS]
 refine take_at (i := 21) 36 (v := undef) rfl rfl (by kernel_rfl) (by kernel_rfl) (by kernel_rfl) (fun _ _ _ h => h) (Or.inr ⟨by rfl, rfl⟩) hS ?_
 simp only [Act.put, lsA, lsZ, lsS]
 refine take_at (i := 22) 37 (v := .bool true) rfl rfl (by kernel_rfl) (by kernel_rfl) (by kernel_rfl) (fun _ _ _ h => h) (Or.inl ⟨by rfl, fun w' hw' => by go_simp⟩) hS ?_
 simp only [Act.put, lsA, lsZ, lsS]
 refine take_at (i := 23) 38 (v := .bool true) rfl rfl (by kernel_rfl) (by kernel_rfl) (by kernel_rfl) (fun _ _ _ h => h) (Or.inl ⟨by rfl, fun w' hw' => by go_simp⟩) hS ?_
 simp only [Act.put, lsA, lsZ, lsS]
 refine take_at (i := 24) 39 (v := undef) rfl rfl (by kernel_rfl) (by kernel_rfl) (by kernel_rfl) (fun _ _ _ h => h) (Or.inr ⟨by rfl, rfl⟩) hS ?_
 simp only [Act.put, lsA, lsZ, lsS]
 refine take_at (i := 25) 40 (v := undef) rfl rfl (by kernel_rfl) (by kernel_rfl) (by kernel_rfl) (fun _ _ _ h => h) (Or.inr ⟨by rfl, rfl⟩) hS ?_
 simp only [Act.put, lsA, lsZ, lsS]
 refine take_at (i := 26) 41 (v := undef) rfl rfl (by kernel_rfl) (by kernel_rfl) (by kernel_rfl) (fun _ _ _ h => h) (Or.inr ⟨by rfl, rfl⟩) hS ?_
 simp only [Act.put, lsA, lsZ, lsS]
 refine take_at (i := 27) 42 (v := undef) rfl rfl (by kernel_rfl) (by kernel_rfl) (by kernel_rfl) (fun _ _ _ h => h) (Or.inr ⟨by rfl, rfl⟩) hS ?_
 simp only [Act.put, lsA, lsZ, lsS]
 refine take_at (i := 28) 43 (v := undef) rfl rfl (by kernel_rfl) (by kernel_rfl) (by kernel_rfl) (fun _ _ _ h => h) (Or.inr ⟨by rfl, rfl⟩) hS ?_
 simp only [Act.put, lsA, lsZ, lsS]
 refine take_at (i := 29) 44 (v := undef) rfl rfl (by kernel_rfl) (by kernel_rfl) (by kernel_rfl) (fun _ _ _ h => h) (Or.inr ⟨by rfl, rfl⟩) hS ?_
 simp only [Act.put, lsA, lsZ, lsS]
 refine take_at (i := 30) 45 (v := .bool true) rfl rfl (by kernel_rfl) (by kernel_rfl) (by kernel_rfl) (fun _ _ _ h => h) (Or.inl ⟨by rfl, fun w' hw' => by go_simp⟩) hS ?_
 simp only [Act.put, lsA, lsZ, lsS]
 refine wpAnyH_done (by kernel_rfl) ?_ _
 have HOV : Hid _ := HO.out.trans hS (fun _ _ h => h)
 clear hS
 go_wp2_with fail
 go_ret2
 exact ⟨rfl, HOV.out⟩
set_option maxHeartbeats 2000000 in
theorem got_write {D Z : Nat → Prop} {p : Nat} {x : CM} {w : World} (h : CST D Z p x w) {n : Int} (hn : wf64 n) (node : Int) (key : ByteArray) (s : SV) (hs : SOk Z w s) {o : OpD} (hf : fndO n x.t = some o) (hr : o.read = false) : Calls Try.prog 8 #[.pointer (some ⟨p, 0, none⟩), .int .i64 n, .int .i64 node, (.agg #[.string key, .int .i64 (s.f 0), .int .i64 (s.f 1), .int .i64 (s.f 2), .int .i64 (s.f 3), .int .i64 (s.f 4), .int .i64 (s.f 5), .int .i64 (s.f 6), .int .i64 (s.f 7), .slice s.a s.l.length s.cap])] w fun e w' => e = .returned (.tuple #[.slice none 0 0, .bool false]) ∧ Off (fun _ => False) w w' := by
 have hq := eql_pO
 have HC : Hid _ := h
 have HA : fndA n x.abs.t = (fndO n x.t).map OpD.abs := fnd_abs n x.t
 obtain ⟨V, hV⟩ : ∃ V, V = w.alloc (.cells #[.string key, .int .i64 (s.f 0), .int .i64 (s.f 1), .int .i64 (s.f 2), .int .i64 (s.f 3), .int .i64 (s.f 4), .int .i64 (s.f 5), .int .i64 (s.f 6), .int .i64 (s.f 7), .slice s.a s.l.length s.cap] 41) := ⟨_, rfl⟩
 have O : Off (fun _ => False) w V := by rw [hV]; exact (Off.refl _ w).alloc _
 have HB : Hid (Cel w.heap.size 41 #[.string key, .int .i64 (s.f 0), .int .i64 (s.f 1), .int .i64 (s.f 2), .int .i64 (s.f 3), .int .i64 (s.f 4), .int .i64 (s.f 5), .int .i64 (s.f 6), .int .i64 (s.f 7), .slice s.a s.l.length s.cap] V) := by rw [hV]; exact Cel.new w _ _
 have HW : Hid (w.alloc (.cells #[.string key, .int .i64 (s.f 0), .int .i64 (s.f 1), .int .i64 (s.f 2), .int .i64 (s.f 3), .int .i64 (s.f 4), .int .i64 (s.f 5), .int .i64 (s.f 6), .int .i64 (s.f 7), .slice s.a s.l.length s.cap] 41) = V) := hV.symm
 have HO : Hid _ := O
 have HCV : Hid _ := h.free O
 have HSR : Hid _ := hs.row.off O
 clear hV
 obtain ⟨ho, hid⟩ := fndO_some hf
 have HK : Hid _ := (h.op o ho).1.off O (fun h => h) (fun h => h)
 have HF : Hid _ := cfind_yes HCV.out hn hf
 have HRD : Hid _ := hr
 clear h HA O hs ho hid hr
 go_enter Try.func8, Try.ntmps8
 go_upto_region 1 with fail
 rw [HW.out]
 go_wp2_with fail
 refine Calls.mono HF.out ?_
 rintro e w1 ⟨rfl, hw⟩
 rw [hw]
 clear hw w1 HF
 go_upto_region 2 with fail
 generalize w.heap.size = B at HB ⊢
 refine wp_region_held_drew (S := fun w' => Off (fun _ => False) V w') (by kernel_rfl) ((Off.refl _ V).drew) (fun hS => ?_)
 refine take_at (i := 0) 15 (v := .pointer (some ⟨o.q, 0, none⟩)) rfl rfl (by kernel_rfl) (by kernel_rfl) (by kernel_rfl) (fun _ _ _ h => h) (Or.inl ⟨by rfl, fun w' hw' => by go_simp⟩) hS ?_
 simp only [Act.put, lsA, lsZ, lsS]
 refine take_at (i := 1) 16 (v := .bool false) rfl rfl (by kernel_rfl) (by kernel_rfl) (by kernel_rfl) (fun _ _ _ h => h) (Or.inl ⟨by rfl, fun w' hw' => by go_simp⟩) hS ?_
 simp only [Act.put, lsA, lsZ, lsS]
 refine take_at (i := 2) 17 (v := .bool false) rfl rfl (by kernel_rfl) (by kernel_rfl) (by kernel_rfl) (fun _ _ _ h => h) (Or.inl ⟨by rfl, fun w' hw' => by go_simp⟩) hS ?_
 simp only [Act.put, lsA, lsZ, lsS]
 refine take_at (i := 3) 18 (v := .pointer (some ⟨o.q, 0, none⟩)) rfl rfl (by kernel_rfl) (by kernel_rfl) (by kernel_rfl) (fun _ _ _ h => h) (Or.inl ⟨by rfl, fun w' hw' => by go_simp⟩) hS ?_
 simp only [Act.put, lsA, lsZ, lsS]
 refine take_at (i := 4) 19 (v := .pointer (some ⟨o.q, 0, none⟩)) rfl rfl (by kernel_rfl) (by kernel_rfl) (by kernel_rfl) (fun _ _ _ h => h) (Or.inl ⟨by rfl, fun w' hw' => by go_simp⟩) hS ?_
 simp only [Act.put, lsA, lsZ, lsS]
 refine take_at (i := 5) 20 (v := .pointer (some ⟨o.q, 0, none⟩)) rfl rfl (by kernel_rfl) (by kernel_rfl) (by kernel_rfl) (fun _ _ _ h => h) (Or.inl ⟨by rfl, fun w' hw' => by go_simp⟩) hS ?_
 simp only [Act.put, lsA, lsZ, lsS]
 refine take_at (i := 6) 21 (v := .bool false) rfl rfl (by kernel_rfl) (by kernel_rfl) (by kernel_rfl) (fun _ _ _ h => h) (Or.inl ⟨by rfl, fun w' hw' => by have c := (HK.out.off hw' (fun h => h) (fun h => h)).c0;rw [HRD.out] at c; go_simp⟩) hS ?_
 simp only [Act.put, lsA, lsZ, lsS]
 refine take_at (i := 7) 22 (v := .bool true) rfl rfl (by kernel_rfl) (by kernel_rfl) (by kernel_rfl) (fun _ _ _ h => h) (Or.inl ⟨by rfl, fun w' hw' => by go_simp⟩) hS ?_
 simp only [Act.put, lsA, lsZ, lsS]
 refine take_at (i := 8) 23 (v := .bool true) rfl rfl (by kernel_rfl) (by kernel_rfl) (by kernel_rfl) (fun _ _ _ h => h) (Or.inl ⟨by rfl, fun w' hw' => by go_simp⟩) hS ?_
 simp only [Act.put, lsA, lsZ, lsS]
 refine take_at (i := 9) 24 (v := .bool true) rfl rfl (by kernel_rfl) (by kernel_rfl) (by kernel_rfl) (fun _ _ _ h => h) (Or.inl ⟨by rfl, fun w' hw' => by go_simp⟩) hS ?_
 simp only [Act.put, lsA, lsZ, lsS]
 refine take_at (i := 10) 25 (v := undef) rfl rfl (by kernel_rfl) (by kernel_rfl) (by kernel_rfl) (fun _ _ _ h => h) (Or.inr ⟨by rfl, rfl⟩) hS ?_
 simp only [Act.put, lsA, lsZ, lsS]
 refine take_at (i := 11) 26 (v := undef) rfl rfl (by kernel_rfl) (by kernel_rfl) (by kernel_rfl) (fun _ _ _ h => h) (Or.inr ⟨by rfl, rfl⟩) hS ?_
 simp only [Act.put, lsA, lsZ, lsS]
 refine take_at (i := 12) 27 (v := undef) rfl rfl (by kernel_rfl) (by kernel_rfl) (by kernel_rfl) (fun _ _ _ h => h) (Or.inr ⟨by rfl, rfl⟩) hS ?_
 simp only [Act.put, lsA, lsZ, lsS]
 refine take_at (i := 13) 28 (v := undef) rfl rfl (by kernel_rfl) (by kernel_rfl) (by kernel_rfl) (fun _ _ _ h => h) (Or.inr ⟨by rfl, rfl⟩) hS ?_
 simp only [Act.put, lsA, lsZ, lsS]
 refine take_at (i := 14) 29 (v := undef) rfl rfl (by kernel_rfl) (by kernel_rfl) (by kernel_rfl) (fun _ _ _ h => h) (Or.inr ⟨by rfl, rfl⟩) hS ?_
 simp only [Act.put, lsA, lsZ, lsS]
 refine take_at (i := 15) 30 (v := undef) rfl rfl (by kernel_rfl) (by kernel_rfl) (by kernel_rfl) (fun _ _ _ h => h) (Or.inr ⟨by rfl, rfl⟩) hS ?_
 simp only [Act.put, lsA, lsZ, lsS]
 refine take_at (i := 16) 31 (v := undef) rfl rfl (by kernel_rfl) (by kernel_rfl) (by kernel_rfl) (fun _ _ _ h => h) (Or.inr ⟨by rfl, rfl⟩) hS ?_
 simp only [Act.put, lsA, lsZ, lsS]
 refine take_at (i := 17) 32 (v := .bool true) rfl rfl (by kernel_rfl) (by kernel_rfl) (by kernel_rfl) (fun _ _ _ h => h) (Or.inl ⟨by rfl, fun w' hw' => by go_simp⟩) hS ?_
 simp only [Act.put, lsA, lsZ, lsS]
 refine take_at (i := 18) 33 (v := .bool true) rfl rfl (by kernel_rfl) (by kernel_rfl) (by kernel_rfl) (fun _ _ _ h => h) (Or.inl ⟨by rfl, fun w' hw' => by go_simp⟩) hS ?_
 simp only [Act.put, lsA, lsZ, lsS]
 refine take_at (i := 19) 34 (v := undef) rfl rfl (by kernel_rfl) (by kernel_rfl) (by kernel_rfl) (fun _ _ _ h => h) (Or.inr ⟨by rfl, rfl⟩) hS ?_
 simp only [Act.put, lsA, lsZ, lsS]
 refine take_at (i := 20) 35 (v := undef) rfl rfl (by kernel_rfl) (by kernel_rfl) (by kernel_rfl) (fun _ _ _ h => h) (Or.inr ⟨by rfl, rfl⟩) hS ?_
 simp only [Act.put, lsA, lsZ, lsS]
 refine take_at (i := 21) 36 (v := undef) rfl rfl (by kernel_rfl) (by kernel_rfl) (by kernel_rfl) (fun _ _ _ h => h) (Or.inr ⟨by rfl, rfl⟩) hS ?_
 simp only [Act.put, lsA, lsZ, lsS]
 refine take_at (i := 22) 37 (v := .bool true) rfl rfl (by kernel_rfl) (by kernel_rfl) (by kernel_rfl) (fun _ _ _ h => h) (Or.inl ⟨by rfl, fun w' hw' => by go_simp⟩) hS ?_
 simp only [Act.put, lsA, lsZ, lsS]
 refine take_at (i := 23) 38 (v := .bool true) rfl rfl (by kernel_rfl) (by kernel_rfl) (by kernel_rfl) (fun _ _ _ h => h) (Or.inl ⟨by rfl, fun w' hw' => by go_simp⟩) hS ?_
 simp only [Act.put, lsA, lsZ, lsS]
 refine take_at (i := 24) 39 (v := undef) rfl rfl (by kernel_rfl) (by kernel_rfl) (by kernel_rfl) (fun _ _ _ h => h) (Or.inr ⟨by rfl, rfl⟩) hS ?_
 simp only [Act.put, lsA, lsZ, lsS]
 refine take_at (i := 25) 40 (v := undef) rfl rfl (by kernel_rfl) (by kernel_rfl) (by kernel_rfl) (fun _ _ _ h => h) (Or.inr ⟨by rfl, rfl⟩) hS ?_
 simp only [Act.put, lsA, lsZ, lsS]
 refine take_at (i := 26) 41 (v := undef) rfl rfl (by kernel_rfl) (by kernel_rfl) (by kernel_rfl) (fun _ _ _ h => h) (Or.inr ⟨by rfl, rfl⟩) hS ?_
 simp only [Act.put, lsA, lsZ, lsS]
 refine take_at (i := 27) 42 (v := undef) rfl rfl (by kernel_rfl) (by kernel_rfl) (by kernel_rfl) (fun _ _ _ h => h) (Or.inr ⟨by rfl, rfl⟩) hS ?_
 simp only [Act.put, lsA, lsZ, lsS]
 refine take_at (i := 28) 43 (v := undef) rfl rfl (by kernel_rfl) (by kernel_rfl) (by kernel_rfl) (fun _ _ _ h => h) (Or.inr ⟨by rfl, rfl⟩) hS ?_
 simp only [Act.put, lsA, lsZ, lsS]
 refine take_at (i := 29) 44 (v := undef) rfl rfl (by kernel_rfl) (by kernel_rfl) (by kernel_rfl) (fun _ _ _ h => h) (Or.inr ⟨by rfl, rfl⟩) hS ?_
 simp only [Act.put, lsA, lsZ, lsS]
 refine take_at (i := 30) 45 (v := .bool true) rfl rfl (by kernel_rfl) (by kernel_rfl) (by kernel_rfl) (fun _ _ _ h => h) (Or.inl ⟨by rfl, fun w' hw' => by go_simp⟩) hS ?_
 simp only [Act.put, lsA, lsZ, lsS]
 refine wpAnyH_done (by kernel_rfl) ?_ _
 have HOV : Hid _ := HO.out.trans hS (fun _ _ h => h)
 clear hS
 go_wp2_with fail
 go_ret2
 exact ⟨rfl, HOV.out⟩
set_option maxHeartbeats 2000000 in
theorem got_key {D Z : Nat → Prop} {p : Nat} {x : CM} {w : World} (h : CST D Z p x w) {n : Int} (hn : wf64 n) (node : Int) (key : ByteArray) (s : SV) (hs : SOk Z w s) {o : OpD} (hf : fndO n x.t = some o) (hr : o.read = true) (hk : key ≠ o.key) : Calls Try.prog 8 #[.pointer (some ⟨p, 0, none⟩), .int .i64 n, .int .i64 node, (.agg #[.string key, .int .i64 (s.f 0), .int .i64 (s.f 1), .int .i64 (s.f 2), .int .i64 (s.f 3), .int .i64 (s.f 4), .int .i64 (s.f 5), .int .i64 (s.f 6), .int .i64 (s.f 7), .slice s.a s.l.length s.cap])] w fun e w' => e = .returned (.tuple #[.slice none 0 0, .bool false]) ∧ Off (fun _ => False) w w' := by
 have hq := eql_pO
 have HC : Hid _ := h
 have HA : fndA n x.abs.t = (fndO n x.t).map OpD.abs := fnd_abs n x.t
 obtain ⟨V, hV⟩ : ∃ V, V = w.alloc (.cells #[.string key, .int .i64 (s.f 0), .int .i64 (s.f 1), .int .i64 (s.f 2), .int .i64 (s.f 3), .int .i64 (s.f 4), .int .i64 (s.f 5), .int .i64 (s.f 6), .int .i64 (s.f 7), .slice s.a s.l.length s.cap] 41) := ⟨_, rfl⟩
 have O : Off (fun _ => False) w V := by rw [hV]; exact (Off.refl _ w).alloc _
 have HB : Hid (Cel w.heap.size 41 #[.string key, .int .i64 (s.f 0), .int .i64 (s.f 1), .int .i64 (s.f 2), .int .i64 (s.f 3), .int .i64 (s.f 4), .int .i64 (s.f 5), .int .i64 (s.f 6), .int .i64 (s.f 7), .slice s.a s.l.length s.cap] V) := by rw [hV]; exact Cel.new w _ _
 have HW : Hid (w.alloc (.cells #[.string key, .int .i64 (s.f 0), .int .i64 (s.f 1), .int .i64 (s.f 2), .int .i64 (s.f 3), .int .i64 (s.f 4), .int .i64 (s.f 5), .int .i64 (s.f 6), .int .i64 (s.f 7), .slice s.a s.l.length s.cap] 41) = V) := hV.symm
 have HO : Hid _ := O
 have HCV : Hid _ := h.free O
 have HSR : Hid _ := hs.row.off O
 clear hV
 obtain ⟨ho, hid⟩ := fndO_some hf
 have HK : Hid _ := (h.op o ho).1.off O (fun h => h) (fun h => h)
 have HF : Hid _ := cfind_yes HCV.out hn hf
 have HRD : Hid _ := hr
 have HKE : Hid (key ≠ o.key) := hk
 clear h HA O hs ho hid hr hk
 go_enter Try.func8, Try.ntmps8
 go_upto_region 1 with fail
 rw [HW.out]
 go_wp2_with fail
 refine Calls.mono HF.out ?_
 rintro e w1 ⟨rfl, hw⟩
 rw [hw]
 clear hw w1 HF
 go_upto_region 2 with fail
 generalize w.heap.size = B at HB ⊢
 refine wp_region_held_drew (S := fun w' => Off (fun _ => False) V w') (by kernel_rfl) ((Off.refl _ V).drew) (fun hS => ?_)
 refine take_at (i := 0) 15 (v := .pointer (some ⟨o.q, 0, none⟩)) rfl rfl (by kernel_rfl) (by kernel_rfl) (by kernel_rfl) (fun _ _ _ h => h) (Or.inl ⟨by rfl, fun w' hw' => by go_simp⟩) hS ?_
 simp only [Act.put, lsA, lsZ, lsS]
 refine take_at (i := 1) 16 (v := .bool false) rfl rfl (by kernel_rfl) (by kernel_rfl) (by kernel_rfl) (fun _ _ _ h => h) (Or.inl ⟨by rfl, fun w' hw' => by go_simp⟩) hS ?_
 simp only [Act.put, lsA, lsZ, lsS]
 refine take_at (i := 2) 17 (v := .bool false) rfl rfl (by kernel_rfl) (by kernel_rfl) (by kernel_rfl) (fun _ _ _ h => h) (Or.inl ⟨by rfl, fun w' hw' => by go_simp⟩) hS ?_
 simp only [Act.put, lsA, lsZ, lsS]
 refine take_at (i := 3) 18 (v := .pointer (some ⟨o.q, 0, none⟩)) rfl rfl (by kernel_rfl) (by kernel_rfl) (by kernel_rfl) (fun _ _ _ h => h) (Or.inl ⟨by rfl, fun w' hw' => by go_simp⟩) hS ?_
 simp only [Act.put, lsA, lsZ, lsS]
 refine take_at (i := 4) 19 (v := .pointer (some ⟨o.q, 0, none⟩)) rfl rfl (by kernel_rfl) (by kernel_rfl) (by kernel_rfl) (fun _ _ _ h => h) (Or.inl ⟨by rfl, fun w' hw' => by go_simp⟩) hS ?_
 simp only [Act.put, lsA, lsZ, lsS]
 refine take_at (i := 5) 20 (v := .pointer (some ⟨o.q, 0, none⟩)) rfl rfl (by kernel_rfl) (by kernel_rfl) (by kernel_rfl) (fun _ _ _ h => h) (Or.inl ⟨by rfl, fun w' hw' => by go_simp⟩) hS ?_
 simp only [Act.put, lsA, lsZ, lsS]
 refine take_at (i := 6) 21 (v := .bool true) rfl rfl (by kernel_rfl) (by kernel_rfl) (by kernel_rfl) (fun _ _ _ h => h) (Or.inl ⟨by rfl, fun w' hw' => by have c := (HK.out.off hw' (fun h => h) (fun h => h)).c0;rw [HRD.out] at c; go_simp⟩) hS ?_
 simp only [Act.put, lsA, lsZ, lsS]
 refine take_at (i := 7) 22 (v := .bool false) rfl rfl (by kernel_rfl) (by kernel_rfl) (by kernel_rfl) (fun _ _ _ h => h) (Or.inl ⟨by rfl, fun w' hw' => by go_simp⟩) hS ?_
 simp only [Act.put, lsA, lsZ, lsS]
 refine take_at (i := 8) 23 (v := .bool false) rfl rfl (by kernel_rfl) (by kernel_rfl) (by kernel_rfl) (fun _ _ _ h => h) (Or.inl ⟨by rfl, fun w' hw' => by go_simp⟩) hS ?_
 simp only [Act.put, lsA, lsZ, lsS]
 refine take_at (i := 9) 24 (v := .bool false) rfl rfl (by kernel_rfl) (by kernel_rfl) (by kernel_rfl) (fun _ _ _ h => h) (Or.inl ⟨by rfl, fun w' hw' => by go_simp⟩) hS ?_
 simp only [Act.put, lsA, lsZ, lsS]
 refine take_at (i := 10) 25 (v := .pointer (some ⟨o.q, 0, none⟩)) rfl rfl (by kernel_rfl) (by kernel_rfl) (by kernel_rfl) (fun _ _ _ h => h) (Or.inl ⟨by rfl, fun w' hw' => by go_simp⟩) hS ?_
 simp only [Act.put, lsA, lsZ, lsS]
 refine take_at (i := 11) 26 (v := .pointer (some ⟨o.q, 0, none⟩)) rfl rfl (by kernel_rfl) (by kernel_rfl) (by kernel_rfl) (fun _ _ _ h => h) (Or.inl ⟨by rfl, fun w' hw' => by go_simp⟩) hS ?_
 simp only [Act.put, lsA, lsZ, lsS]
 refine take_at (i := 12) 27 (v := .pointer (some ⟨o.q, 1, none⟩)) rfl rfl (by kernel_rfl) (by kernel_rfl) (by kernel_rfl) (fun _ _ _ h => h) (Or.inl ⟨by rfl, fun w' hw' => by go_simp⟩) hS ?_
 simp only [Act.put, lsA, lsZ, lsS]
 refine take_at (i := 13) 28 (v := .string o.key) rfl rfl (by kernel_rfl) (by kernel_rfl) (by kernel_rfl) (fun _ _ _ h => h) (Or.inl ⟨by rfl, fun w' hw' => by have c := (HK.out.off hw' (fun h => h) (fun h => h)).c1; go_simp⟩) hS ?_
 simp only [Act.put, lsA, lsZ, lsS]
 refine take_at (i := 14) 29 (v := .pointer (some ⟨B, 0, none⟩)) rfl rfl (by kernel_rfl) (by kernel_rfl) (by kernel_rfl) (fun _ _ _ h => h) (Or.inl ⟨by rfl, fun w' hw' => by go_simp⟩) hS ?_
 simp only [Act.put, lsA, lsZ, lsS]
 refine take_at (i := 15) 30 (v := .string key) rfl rfl (by kernel_rfl) (by kernel_rfl) (by kernel_rfl) (fun _ _ _ h => h) (Or.inl ⟨by rfl, fun w' hw' => by obtain ⟨x0, x1, x2, x3, x4, x5, x6, x7, x8, x9⟩ := ce10 (HB.out.off hw' (fun h => h)); go_simp⟩) hS ?_
 simp only [Act.put, lsA, lsZ, lsS]
 refine take_at (i := 16) 31 (v := .bool true) rfl rfl (by kernel_rfl) (by kernel_rfl) (by kernel_rfl) (fun _ _ _ h => h) (Or.inl ⟨by rfl, fun w' hw' => by have h : ¬ o.key.toList = key.toList := fun e => HKE.out (kb_inj (by rw [toL, toL] at e; exact e.symm)); go_simp⟩) hS ?_
 simp only [Act.put, lsA, lsZ, lsS]
 refine take_at (i := 17) 32 (v := .bool true) rfl rfl (by kernel_rfl) (by kernel_rfl) (by kernel_rfl) (fun _ _ _ h => h) (Or.inl ⟨by rfl, fun w' hw' => by go_simp⟩) hS ?_
 simp only [Act.put, lsA, lsZ, lsS]
 refine take_at (i := 18) 33 (v := .bool true) rfl rfl (by kernel_rfl) (by kernel_rfl) (by kernel_rfl) (fun _ _ _ h => h) (Or.inl ⟨by rfl, fun w' hw' => by go_simp⟩) hS ?_
 simp only [Act.put, lsA, lsZ, lsS]
 refine take_at (i := 19) 34 (v := undef) rfl rfl (by kernel_rfl) (by kernel_rfl) (by kernel_rfl) (fun _ _ _ h => h) (Or.inr ⟨by rfl, rfl⟩) hS ?_
 simp only [Act.put, lsA, lsZ, lsS]
 refine take_at (i := 20) 35 (v := undef) rfl rfl (by kernel_rfl) (by kernel_rfl) (by kernel_rfl) (fun _ _ _ h => h) (Or.inr ⟨by rfl, rfl⟩) hS ?_
 simp only [Act.put, lsA, lsZ, lsS]
 refine take_at (i := 21) 36 (v := undef) rfl rfl (by kernel_rfl) (by kernel_rfl) (by kernel_rfl) (fun _ _ _ h => h) (Or.inr ⟨by rfl, rfl⟩) hS ?_
 simp only [Act.put, lsA, lsZ, lsS]
 refine take_at (i := 22) 37 (v := .bool true) rfl rfl (by kernel_rfl) (by kernel_rfl) (by kernel_rfl) (fun _ _ _ h => h) (Or.inl ⟨by rfl, fun w' hw' => by go_simp⟩) hS ?_
 simp only [Act.put, lsA, lsZ, lsS]
 refine take_at (i := 23) 38 (v := .bool true) rfl rfl (by kernel_rfl) (by kernel_rfl) (by kernel_rfl) (fun _ _ _ h => h) (Or.inl ⟨by rfl, fun w' hw' => by go_simp⟩) hS ?_
 simp only [Act.put, lsA, lsZ, lsS]
 refine take_at (i := 24) 39 (v := undef) rfl rfl (by kernel_rfl) (by kernel_rfl) (by kernel_rfl) (fun _ _ _ h => h) (Or.inr ⟨by rfl, rfl⟩) hS ?_
 simp only [Act.put, lsA, lsZ, lsS]
 refine take_at (i := 25) 40 (v := undef) rfl rfl (by kernel_rfl) (by kernel_rfl) (by kernel_rfl) (fun _ _ _ h => h) (Or.inr ⟨by rfl, rfl⟩) hS ?_
 simp only [Act.put, lsA, lsZ, lsS]
 refine take_at (i := 26) 41 (v := undef) rfl rfl (by kernel_rfl) (by kernel_rfl) (by kernel_rfl) (fun _ _ _ h => h) (Or.inr ⟨by rfl, rfl⟩) hS ?_
 simp only [Act.put, lsA, lsZ, lsS]
 refine take_at (i := 27) 42 (v := undef) rfl rfl (by kernel_rfl) (by kernel_rfl) (by kernel_rfl) (fun _ _ _ h => h) (Or.inr ⟨by rfl, rfl⟩) hS ?_
 simp only [Act.put, lsA, lsZ, lsS]
 refine take_at (i := 28) 43 (v := undef) rfl rfl (by kernel_rfl) (by kernel_rfl) (by kernel_rfl) (fun _ _ _ h => h) (Or.inr ⟨by rfl, rfl⟩) hS ?_
 simp only [Act.put, lsA, lsZ, lsS]
 refine take_at (i := 29) 44 (v := undef) rfl rfl (by kernel_rfl) (by kernel_rfl) (by kernel_rfl) (fun _ _ _ h => h) (Or.inr ⟨by rfl, rfl⟩) hS ?_
 simp only [Act.put, lsA, lsZ, lsS]
 refine take_at (i := 30) 45 (v := .bool true) rfl rfl (by kernel_rfl) (by kernel_rfl) (by kernel_rfl) (fun _ _ _ h => h) (Or.inl ⟨by rfl, fun w' hw' => by go_simp⟩) hS ?_
 simp only [Act.put, lsA, lsZ, lsS]
 refine wpAnyH_done (by kernel_rfl) ?_ _
 have HOV : Hid _ := HO.out.trans hS (fun _ _ h => h)
 clear hS
 go_wp2_with fail
 go_ret2
 exact ⟨rfl, HOV.out⟩
set_option maxHeartbeats 2000000 in
theorem got_may {D Z : Nat → Prop} {p : Nat} {x : CM} {w : World} (h : CST D Z p x w) {n : Int} (hn : wf64 n) (node : Int) (key : ByteArray) (s : SV) (hs : SOk Z w s) {o : OpD} (hf : fndO n x.t = some o) (hr : o.read = true) (hk : key = o.key) (hm : (keyB key && mayA s.abs) = false) : Calls Try.prog 8 #[.pointer (some ⟨p, 0, none⟩), .int .i64 n, .int .i64 node, (.agg #[.string key, .int .i64 (s.f 0), .int .i64 (s.f 1), .int .i64 (s.f 2), .int .i64 (s.f 3), .int .i64 (s.f 4), .int .i64 (s.f 5), .int .i64 (s.f 6), .int .i64 (s.f 7), .slice s.a s.l.length s.cap])] w fun e w' => e = .returned (.tuple #[.slice none 0 0, .bool false]) ∧ Off (fun _ => False) w w' := by
 have hq := eql_pO
 have HC : Hid _ := h
 have HA : fndA n x.abs.t = (fndO n x.t).map OpD.abs := fnd_abs n x.t
 obtain ⟨V, hV⟩ : ∃ V, V = w.alloc (.cells #[.string key, .int .i64 (s.f 0), .int .i64 (s.f 1), .int .i64 (s.f 2), .int .i64 (s.f 3), .int .i64 (s.f 4), .int .i64 (s.f 5), .int .i64 (s.f 6), .int .i64 (s.f 7), .slice s.a s.l.length s.cap] 41) := ⟨_, rfl⟩
 have O : Off (fun _ => False) w V := by rw [hV]; exact (Off.refl _ w).alloc _
 have HB : Hid (Cel w.heap.size 41 #[.string key, .int .i64 (s.f 0), .int .i64 (s.f 1), .int .i64 (s.f 2), .int .i64 (s.f 3), .int .i64 (s.f 4), .int .i64 (s.f 5), .int .i64 (s.f 6), .int .i64 (s.f 7), .slice s.a s.l.length s.cap] V) := by rw [hV]; exact Cel.new w _ _
 have HW : Hid (w.alloc (.cells #[.string key, .int .i64 (s.f 0), .int .i64 (s.f 1), .int .i64 (s.f 2), .int .i64 (s.f 3), .int .i64 (s.f 4), .int .i64 (s.f 5), .int .i64 (s.f 6), .int .i64 (s.f 7), .slice s.a s.l.length s.cap] 41) = V) := hV.symm
 have HO : Hid _ := O
 have HCV : Hid _ := h.free O
 have HSR : Hid _ := hs.row.off O
 clear hV
 obtain ⟨ho, hid⟩ := fndO_some hf
 have HK : Hid _ := (h.op o ho).1.off O (fun h => h) (fun h => h)
 have HF : Hid _ := cfind_yes HCV.out hn hf
 have HRD : Hid _ := hr
 have HKE : Hid (key = o.key) := hk
 have HME : Hid ((keyB key && mayS s.f (cont s.l)) = false) := hm
 clear h HA O hs ho hid hr hk hm
 go_enter Try.func8, Try.ntmps8
 go_upto_region 1 with fail
 rw [HW.out]
 go_wp2_with fail
 refine Calls.mono HF.out ?_
 rintro e w1 ⟨rfl, hw⟩
 rw [hw]
 clear hw w1 HF
 go_upto_region 2 with fail
 generalize w.heap.size = B at HB ⊢
 refine wp_region_held_drew (S := fun w' => Off (fun _ => False) V w') (by kernel_rfl) ((Off.refl _ V).drew) (fun hS => ?_)
 refine take_at (i := 0) 15 (v := .pointer (some ⟨o.q, 0, none⟩)) rfl rfl (by kernel_rfl) (by kernel_rfl) (by kernel_rfl) (fun _ _ _ h => h) (Or.inl ⟨by rfl, fun w' hw' => by go_simp⟩) hS ?_
 simp only [Act.put, lsA, lsZ, lsS]
 refine take_at (i := 1) 16 (v := .bool false) rfl rfl (by kernel_rfl) (by kernel_rfl) (by kernel_rfl) (fun _ _ _ h => h) (Or.inl ⟨by rfl, fun w' hw' => by go_simp⟩) hS ?_
 simp only [Act.put, lsA, lsZ, lsS]
 refine take_at (i := 2) 17 (v := .bool false) rfl rfl (by kernel_rfl) (by kernel_rfl) (by kernel_rfl) (fun _ _ _ h => h) (Or.inl ⟨by rfl, fun w' hw' => by go_simp⟩) hS ?_
 simp only [Act.put, lsA, lsZ, lsS]
 refine take_at (i := 3) 18 (v := .pointer (some ⟨o.q, 0, none⟩)) rfl rfl (by kernel_rfl) (by kernel_rfl) (by kernel_rfl) (fun _ _ _ h => h) (Or.inl ⟨by rfl, fun w' hw' => by go_simp⟩) hS ?_
 simp only [Act.put, lsA, lsZ, lsS]
 refine take_at (i := 4) 19 (v := .pointer (some ⟨o.q, 0, none⟩)) rfl rfl (by kernel_rfl) (by kernel_rfl) (by kernel_rfl) (fun _ _ _ h => h) (Or.inl ⟨by rfl, fun w' hw' => by go_simp⟩) hS ?_
 simp only [Act.put, lsA, lsZ, lsS]
 refine take_at (i := 5) 20 (v := .pointer (some ⟨o.q, 0, none⟩)) rfl rfl (by kernel_rfl) (by kernel_rfl) (by kernel_rfl) (fun _ _ _ h => h) (Or.inl ⟨by rfl, fun w' hw' => by go_simp⟩) hS ?_
 simp only [Act.put, lsA, lsZ, lsS]
 refine take_at (i := 6) 21 (v := .bool true) rfl rfl (by kernel_rfl) (by kernel_rfl) (by kernel_rfl) (fun _ _ _ h => h) (Or.inl ⟨by rfl, fun w' hw' => by have c := (HK.out.off hw' (fun h => h) (fun h => h)).c0;rw [HRD.out] at c; go_simp⟩) hS ?_
 simp only [Act.put, lsA, lsZ, lsS]
 refine take_at (i := 7) 22 (v := .bool false) rfl rfl (by kernel_rfl) (by kernel_rfl) (by kernel_rfl) (fun _ _ _ h => h) (Or.inl ⟨by rfl, fun w' hw' => by go_simp⟩) hS ?_
 simp only [Act.put, lsA, lsZ, lsS]
 refine take_at (i := 8) 23 (v := .bool false) rfl rfl (by kernel_rfl) (by kernel_rfl) (by kernel_rfl) (fun _ _ _ h => h) (Or.inl ⟨by rfl, fun w' hw' => by go_simp⟩) hS ?_
 simp only [Act.put, lsA, lsZ, lsS]
 refine take_at (i := 9) 24 (v := .bool false) rfl rfl (by kernel_rfl) (by kernel_rfl) (by kernel_rfl) (fun _ _ _ h => h) (Or.inl ⟨by rfl, fun w' hw' => by go_simp⟩) hS ?_
 simp only [Act.put, lsA, lsZ, lsS]
 refine take_at (i := 10) 25 (v := .pointer (some ⟨o.q, 0, none⟩)) rfl rfl (by kernel_rfl) (by kernel_rfl) (by kernel_rfl) (fun _ _ _ h => h) (Or.inl ⟨by rfl, fun w' hw' => by go_simp⟩) hS ?_
 simp only [Act.put, lsA, lsZ, lsS]
 refine take_at (i := 11) 26 (v := .pointer (some ⟨o.q, 0, none⟩)) rfl rfl (by kernel_rfl) (by kernel_rfl) (by kernel_rfl) (fun _ _ _ h => h) (Or.inl ⟨by rfl, fun w' hw' => by go_simp⟩) hS ?_
 simp only [Act.put, lsA, lsZ, lsS]
 refine take_at (i := 12) 27 (v := .pointer (some ⟨o.q, 1, none⟩)) rfl rfl (by kernel_rfl) (by kernel_rfl) (by kernel_rfl) (fun _ _ _ h => h) (Or.inl ⟨by rfl, fun w' hw' => by go_simp⟩) hS ?_
 simp only [Act.put, lsA, lsZ, lsS]
 refine take_at (i := 13) 28 (v := .string o.key) rfl rfl (by kernel_rfl) (by kernel_rfl) (by kernel_rfl) (fun _ _ _ h => h) (Or.inl ⟨by rfl, fun w' hw' => by have c := (HK.out.off hw' (fun h => h) (fun h => h)).c1; go_simp⟩) hS ?_
 simp only [Act.put, lsA, lsZ, lsS]
 refine take_at (i := 14) 29 (v := .pointer (some ⟨B, 0, none⟩)) rfl rfl (by kernel_rfl) (by kernel_rfl) (by kernel_rfl) (fun _ _ _ h => h) (Or.inl ⟨by rfl, fun w' hw' => by go_simp⟩) hS ?_
 simp only [Act.put, lsA, lsZ, lsS]
 refine take_at (i := 15) 30 (v := .string key) rfl rfl (by kernel_rfl) (by kernel_rfl) (by kernel_rfl) (fun _ _ _ h => h) (Or.inl ⟨by rfl, fun w' hw' => by obtain ⟨x0, x1, x2, x3, x4, x5, x6, x7, x8, x9⟩ := ce10 (HB.out.off hw' (fun h => h)); go_simp⟩) hS ?_
 simp only [Act.put, lsA, lsZ, lsS]
 refine take_at (i := 16) 31 (v := .bool false) rfl rfl (by kernel_rfl) (by kernel_rfl) (by kernel_rfl) (fun _ _ _ h => h) (Or.inl ⟨by rfl, fun w' hw' => by have h : o.key.toList = key.toList := (by rw [HKE.out]); go_simp⟩) hS ?_
 simp only [Act.put, lsA, lsZ, lsS]
 refine take_at (i := 17) 32 (v := .bool false) rfl rfl (by kernel_rfl) (by kernel_rfl) (by kernel_rfl) (fun _ _ _ h => h) (Or.inl ⟨by rfl, fun w' hw' => by go_simp⟩) hS ?_
 simp only [Act.put, lsA, lsZ, lsS]
 refine take_at (i := 18) 33 (v := .bool false) rfl rfl (by kernel_rfl) (by kernel_rfl) (by kernel_rfl) (fun _ _ _ h => h) (Or.inl ⟨by rfl, fun w' hw' => by go_simp⟩) hS ?_
 simp only [Act.put, lsA, lsZ, lsS]
 refine take_at (i := 19) 34 (v := (.agg #[.string key, .int .i64 (s.f 0), .int .i64 (s.f 1), .int .i64 (s.f 2), .int .i64 (s.f 3), .int .i64 (s.f 4), .int .i64 (s.f 5), .int .i64 (s.f 6), .int .i64 (s.f 7), .slice s.a s.l.length s.cap])) rfl rfl (by kernel_rfl) (by kernel_rfl) (by kernel_rfl) (fun _ _ _ h => h) (Or.inl ⟨by rfl, fun w' hw' => by obtain ⟨x0, x1, x2, x3, x4, x5, x6, x7, x8, x9⟩ := ce10 (HB.out.off hw' (fun h => h)); go_simp⟩) hS ?_
 simp only [Act.put, lsA, lsZ, lsS]
 refine wpAnyH_ready (rs := [20]) (by kernel_rfl) (by simp) ?_
 refine AllReadyH.cons rfl (fun K' hK' => ?_) AllReadyH.nil
 go_simp
 refine Calls.mono (smayentry_any key s.f s.a s.cap s.l _ (HSR.out.off hS)) ?_
 rw [HME.out]
 rintro e v1 ⟨rfl, o1⟩
 have hS1 := hS.trans o1 (fun _ _ h => h)
 refine hK'.out _ _ hS1 (fun hS => ?_)
 clear hK' K' hS1 o1
 refine take_at (i := 21) 36 (v := .bool true) rfl rfl (by kernel_rfl) (by kernel_rfl) (by kernel_rfl) (fun _ _ _ h => h) (Or.inl ⟨by rfl, fun w' hw' => by go_simp⟩) hS ?_
 simp only [Act.put, lsA, lsZ, lsS]
 refine take_at (i := 22) 37 (v := .bool true) rfl rfl (by kernel_rfl) (by kernel_rfl) (by kernel_rfl) (fun _ _ _ h => h) (Or.inl ⟨by rfl, fun w' hw' => by go_simp⟩) hS ?_
 simp only [Act.put, lsA, lsZ, lsS]
 refine take_at (i := 23) 38 (v := .bool true) rfl rfl (by kernel_rfl) (by kernel_rfl) (by kernel_rfl) (fun _ _ _ h => h) (Or.inl ⟨by rfl, fun w' hw' => by go_simp⟩) hS ?_
 simp only [Act.put, lsA, lsZ, lsS]
 refine take_at (i := 24) 39 (v := undef) rfl rfl (by kernel_rfl) (by kernel_rfl) (by kernel_rfl) (fun _ _ _ h => h) (Or.inr ⟨by rfl, rfl⟩) hS ?_
 simp only [Act.put, lsA, lsZ, lsS]
 refine take_at (i := 25) 40 (v := undef) rfl rfl (by kernel_rfl) (by kernel_rfl) (by kernel_rfl) (fun _ _ _ h => h) (Or.inr ⟨by rfl, rfl⟩) hS ?_
 simp only [Act.put, lsA, lsZ, lsS]
 refine take_at (i := 26) 41 (v := undef) rfl rfl (by kernel_rfl) (by kernel_rfl) (by kernel_rfl) (fun _ _ _ h => h) (Or.inr ⟨by rfl, rfl⟩) hS ?_
 simp only [Act.put, lsA, lsZ, lsS]
 refine take_at (i := 27) 42 (v := undef) rfl rfl (by kernel_rfl) (by kernel_rfl) (by kernel_rfl) (fun _ _ _ h => h) (Or.inr ⟨by rfl, rfl⟩) hS ?_
 simp only [Act.put, lsA, lsZ, lsS]
 refine take_at (i := 28) 43 (v := undef) rfl rfl (by kernel_rfl) (by kernel_rfl) (by kernel_rfl) (fun _ _ _ h => h) (Or.inr ⟨by rfl, rfl⟩) hS ?_
 simp only [Act.put, lsA, lsZ, lsS]
 refine take_at (i := 29) 44 (v := undef) rfl rfl (by kernel_rfl) (by kernel_rfl) (by kernel_rfl) (fun _ _ _ h => h) (Or.inr ⟨by rfl, rfl⟩) hS ?_
 simp only [Act.put, lsA, lsZ, lsS]
 refine take_at (i := 30) 45 (v := .bool true) rfl rfl (by kernel_rfl) (by kernel_rfl) (by kernel_rfl) (fun _ _ _ h => h) (Or.inl ⟨by rfl, fun w' hw' => by go_simp⟩) hS ?_
 simp only [Act.put, lsA, lsZ, lsS]
 refine wpAnyH_done (by kernel_rfl) ?_ _
 have HOV : Hid _ := HO.out.trans hS (fun _ _ h => h)
 clear hS
 go_wp2_with fail
 go_ret2
 exact ⟨rfl, HOV.out⟩
set_option maxHeartbeats 2000000 in
theorem got_has {D Z : Nat → Prop} {p : Nat} {x : CM} {w : World} (h : CST D Z p x w) {n : Int} (hn : wf64 n) (node : Int) (key : ByteArray) (s : SV) (hs : SOk Z w s) {o : OpD} (hf : fndO n x.t = some o) (hr : o.read = true) (hk : key = o.key) (hm : (keyB key && mayA s.abs) = true) (ha : (okN node && o.who node.toNat) = true) : Calls Try.prog 8 #[.pointer (some ⟨p, 0, none⟩), .int .i64 n, .int .i64 node, (.agg #[.string key, .int .i64 (s.f 0), .int .i64 (s.f 1), .int .i64 (s.f 2), .int .i64 (s.f 3), .int .i64 (s.f 4), .int .i64 (s.f 5), .int .i64 (s.f 6), .int .i64 (s.f 7), .slice s.a s.l.length s.cap])] w fun e w' => e = .returned (.tuple #[.slice none 0 0, .bool false]) ∧ Off (fun _ => False) w w' := by
 have hq := eql_pO
 have HC : Hid _ := h
 have HA : fndA n x.abs.t = (fndO n x.t).map OpD.abs := fnd_abs n x.t
 obtain ⟨V, hV⟩ : ∃ V, V = w.alloc (.cells #[.string key, .int .i64 (s.f 0), .int .i64 (s.f 1), .int .i64 (s.f 2), .int .i64 (s.f 3), .int .i64 (s.f 4), .int .i64 (s.f 5), .int .i64 (s.f 6), .int .i64 (s.f 7), .slice s.a s.l.length s.cap] 41) := ⟨_, rfl⟩
 have O : Off (fun _ => False) w V := by rw [hV]; exact (Off.refl _ w).alloc _
 have HB : Hid (Cel w.heap.size 41 #[.string key, .int .i64 (s.f 0), .int .i64 (s.f 1), .int .i64 (s.f 2), .int .i64 (s.f 3), .int .i64 (s.f 4), .int .i64 (s.f 5), .int .i64 (s.f 6), .int .i64 (s.f 7), .slice s.a s.l.length s.cap] V) := by rw [hV]; exact Cel.new w _ _
 have HW : Hid (w.alloc (.cells #[.string key, .int .i64 (s.f 0), .int .i64 (s.f 1), .int .i64 (s.f 2), .int .i64 (s.f 3), .int .i64 (s.f 4), .int .i64 (s.f 5), .int .i64 (s.f 6), .int .i64 (s.f 7), .slice s.a s.l.length s.cap] 41) = V) := hV.symm
 have HO : Hid _ := O
 have HCV : Hid _ := h.free O
 have HSR : Hid _ := hs.row.off O
 clear hV
 obtain ⟨ho, hid⟩ := fndO_some hf
 have HK : Hid _ := (h.op o ho).1.off O (fun h => h) (fun h => h)
 have HF : Hid _ := cfind_yes HCV.out hn hf
 have HRD : Hid _ := hr
 have HKE : Hid (key = o.key) := hk
 have HME : Hid ((keyB key && mayS s.f (cont s.l)) = true) := hm
 have HHA : Hid _ := ha
 clear h HA O hs ho hid hr hk hm ha
 go_enter Try.func8, Try.ntmps8
 go_upto_region 1 with fail
 rw [HW.out]
 go_wp2_with fail
 refine Calls.mono HF.out ?_
 rintro e w1 ⟨rfl, hw⟩
 rw [hw]
 clear hw w1 HF
 go_upto_region 2 with fail
 generalize w.heap.size = B at HB ⊢
 refine wp_region_held_drew (S := fun w' => Off (fun _ => False) V w') (by kernel_rfl) ((Off.refl _ V).drew) (fun hS => ?_)
 refine take_at (i := 0) 15 (v := .pointer (some ⟨o.q, 0, none⟩)) rfl rfl (by kernel_rfl) (by kernel_rfl) (by kernel_rfl) (fun _ _ _ h => h) (Or.inl ⟨by rfl, fun w' hw' => by go_simp⟩) hS ?_
 simp only [Act.put, lsA, lsZ, lsS]
 refine take_at (i := 1) 16 (v := .bool false) rfl rfl (by kernel_rfl) (by kernel_rfl) (by kernel_rfl) (fun _ _ _ h => h) (Or.inl ⟨by rfl, fun w' hw' => by go_simp⟩) hS ?_
 simp only [Act.put, lsA, lsZ, lsS]
 refine take_at (i := 2) 17 (v := .bool false) rfl rfl (by kernel_rfl) (by kernel_rfl) (by kernel_rfl) (fun _ _ _ h => h) (Or.inl ⟨by rfl, fun w' hw' => by go_simp⟩) hS ?_
 simp only [Act.put, lsA, lsZ, lsS]
 refine take_at (i := 3) 18 (v := .pointer (some ⟨o.q, 0, none⟩)) rfl rfl (by kernel_rfl) (by kernel_rfl) (by kernel_rfl) (fun _ _ _ h => h) (Or.inl ⟨by rfl, fun w' hw' => by go_simp⟩) hS ?_
 simp only [Act.put, lsA, lsZ, lsS]
 refine take_at (i := 4) 19 (v := .pointer (some ⟨o.q, 0, none⟩)) rfl rfl (by kernel_rfl) (by kernel_rfl) (by kernel_rfl) (fun _ _ _ h => h) (Or.inl ⟨by rfl, fun w' hw' => by go_simp⟩) hS ?_
 simp only [Act.put, lsA, lsZ, lsS]
 refine take_at (i := 5) 20 (v := .pointer (some ⟨o.q, 0, none⟩)) rfl rfl (by kernel_rfl) (by kernel_rfl) (by kernel_rfl) (fun _ _ _ h => h) (Or.inl ⟨by rfl, fun w' hw' => by go_simp⟩) hS ?_
 simp only [Act.put, lsA, lsZ, lsS]
 refine take_at (i := 6) 21 (v := .bool true) rfl rfl (by kernel_rfl) (by kernel_rfl) (by kernel_rfl) (fun _ _ _ h => h) (Or.inl ⟨by rfl, fun w' hw' => by have c := (HK.out.off hw' (fun h => h) (fun h => h)).c0;rw [HRD.out] at c; go_simp⟩) hS ?_
 simp only [Act.put, lsA, lsZ, lsS]
 refine take_at (i := 7) 22 (v := .bool false) rfl rfl (by kernel_rfl) (by kernel_rfl) (by kernel_rfl) (fun _ _ _ h => h) (Or.inl ⟨by rfl, fun w' hw' => by go_simp⟩) hS ?_
 simp only [Act.put, lsA, lsZ, lsS]
 refine take_at (i := 8) 23 (v := .bool false) rfl rfl (by kernel_rfl) (by kernel_rfl) (by kernel_rfl) (fun _ _ _ h => h) (Or.inl ⟨by rfl, fun w' hw' => by go_simp⟩) hS ?_
 simp only [Act.put, lsA, lsZ, lsS]
 refine take_at (i := 9) 24 (v := .bool false) rfl rfl (by kernel_rfl) (by kernel_rfl) (by kernel_rfl) (fun _ _ _ h => h) (Or.inl ⟨by rfl, fun w' hw' => by go_simp⟩) hS ?_
 simp only [Act.put, lsA, lsZ, lsS]
 refine take_at (i := 10) 25 (v := .pointer (some ⟨o.q, 0, none⟩)) rfl rfl (by kernel_rfl) (by kernel_rfl) (by kernel_rfl) (fun _ _ _ h => h) (Or.inl ⟨by rfl, fun w' hw' => by go_simp⟩) hS ?_
 simp only [Act.put, lsA, lsZ, lsS]
 refine take_at (i := 11) 26 (v := .pointer (some ⟨o.q, 0, none⟩)) rfl rfl (by kernel_rfl) (by kernel_rfl) (by kernel_rfl) (fun _ _ _ h => h) (Or.inl ⟨by rfl, fun w' hw' => by go_simp⟩) hS ?_
 simp only [Act.put, lsA, lsZ, lsS]
 refine take_at (i := 12) 27 (v := .pointer (some ⟨o.q, 1, none⟩)) rfl rfl (by kernel_rfl) (by kernel_rfl) (by kernel_rfl) (fun _ _ _ h => h) (Or.inl ⟨by rfl, fun w' hw' => by go_simp⟩) hS ?_
 simp only [Act.put, lsA, lsZ, lsS]
 refine take_at (i := 13) 28 (v := .string o.key) rfl rfl (by kernel_rfl) (by kernel_rfl) (by kernel_rfl) (fun _ _ _ h => h) (Or.inl ⟨by rfl, fun w' hw' => by have c := (HK.out.off hw' (fun h => h) (fun h => h)).c1; go_simp⟩) hS ?_
 simp only [Act.put, lsA, lsZ, lsS]
 refine take_at (i := 14) 29 (v := .pointer (some ⟨B, 0, none⟩)) rfl rfl (by kernel_rfl) (by kernel_rfl) (by kernel_rfl) (fun _ _ _ h => h) (Or.inl ⟨by rfl, fun w' hw' => by go_simp⟩) hS ?_
 simp only [Act.put, lsA, lsZ, lsS]
 refine take_at (i := 15) 30 (v := .string key) rfl rfl (by kernel_rfl) (by kernel_rfl) (by kernel_rfl) (fun _ _ _ h => h) (Or.inl ⟨by rfl, fun w' hw' => by obtain ⟨x0, x1, x2, x3, x4, x5, x6, x7, x8, x9⟩ := ce10 (HB.out.off hw' (fun h => h)); go_simp⟩) hS ?_
 simp only [Act.put, lsA, lsZ, lsS]
 refine take_at (i := 16) 31 (v := .bool false) rfl rfl (by kernel_rfl) (by kernel_rfl) (by kernel_rfl) (fun _ _ _ h => h) (Or.inl ⟨by rfl, fun w' hw' => by have h : o.key.toList = key.toList := (by rw [HKE.out]); go_simp⟩) hS ?_
 simp only [Act.put, lsA, lsZ, lsS]
 refine take_at (i := 17) 32 (v := .bool false) rfl rfl (by kernel_rfl) (by kernel_rfl) (by kernel_rfl) (fun _ _ _ h => h) (Or.inl ⟨by rfl, fun w' hw' => by go_simp⟩) hS ?_
 simp only [Act.put, lsA, lsZ, lsS]
 refine take_at (i := 18) 33 (v := .bool false) rfl rfl (by kernel_rfl) (by kernel_rfl) (by kernel_rfl) (fun _ _ _ h => h) (Or.inl ⟨by rfl, fun w' hw' => by go_simp⟩) hS ?_
 simp only [Act.put, lsA, lsZ, lsS]
 refine take_at (i := 19) 34 (v := (.agg #[.string key, .int .i64 (s.f 0), .int .i64 (s.f 1), .int .i64 (s.f 2), .int .i64 (s.f 3), .int .i64 (s.f 4), .int .i64 (s.f 5), .int .i64 (s.f 6), .int .i64 (s.f 7), .slice s.a s.l.length s.cap])) rfl rfl (by kernel_rfl) (by kernel_rfl) (by kernel_rfl) (fun _ _ _ h => h) (Or.inl ⟨by rfl, fun w' hw' => by obtain ⟨x0, x1, x2, x3, x4, x5, x6, x7, x8, x9⟩ := ce10 (HB.out.off hw' (fun h => h)); go_simp⟩) hS ?_
 simp only [Act.put, lsA, lsZ, lsS]
 refine wpAnyH_ready (rs := [20]) (by kernel_rfl) (by simp) ?_
 refine AllReadyH.cons rfl (fun K' hK' => ?_) AllReadyH.nil
 go_simp
 refine Calls.mono (smayentry_any key s.f s.a s.cap s.l _ (HSR.out.off hS)) ?_
 rw [HME.out]
 rintro e v1 ⟨rfl, o1⟩
 have hS1 := hS.trans o1 (fun _ _ h => h)
 refine hK'.out _ _ hS1 (fun hS => ?_)
 clear hK' K' hS1 o1
 refine take_at (i := 21) 36 (v := .bool false) rfl rfl (by kernel_rfl) (by kernel_rfl) (by kernel_rfl) (fun _ _ _ h => h) (Or.inl ⟨by rfl, fun w' hw' => by go_simp⟩) hS ?_
 simp only [Act.put, lsA, lsZ, lsS]
 refine take_at (i := 22) 37 (v := .bool false) rfl rfl (by kernel_rfl) (by kernel_rfl) (by kernel_rfl) (fun _ _ _ h => h) (Or.inl ⟨by rfl, fun w' hw' => by go_simp⟩) hS ?_
 simp only [Act.put, lsA, lsZ, lsS]
 refine take_at (i := 23) 38 (v := .bool false) rfl rfl (by kernel_rfl) (by kernel_rfl) (by kernel_rfl) (fun _ _ _ h => h) (Or.inl ⟨by rfl, fun w' hw' => by go_simp⟩) hS ?_
 simp only [Act.put, lsA, lsZ, lsS]
 refine take_at (i := 24) 39 (v := .pointer (some ⟨o.q, 0, none⟩)) rfl rfl (by kernel_rfl) (by kernel_rfl) (by kernel_rfl) (fun _ _ _ h => h) (Or.inl ⟨by rfl, fun w' hw' => by go_simp⟩) hS ?_
 simp only [Act.put, lsA, lsZ, lsS]
 refine take_at (i := 25) 40 (v := .pointer (some ⟨o.q, 0, none⟩)) rfl rfl (by kernel_rfl) (by kernel_rfl) (by kernel_rfl) (fun _ _ _ h => h) (Or.inl ⟨by rfl, fun w' hw' => by go_simp⟩) hS ?_
 simp only [Act.put, lsA, lsZ, lsS]
 refine take_at (i := 26) 41 (v := .pointer (some ⟨o.q, 83, none⟩)) rfl rfl (by kernel_rfl) (by kernel_rfl) (by kernel_rfl) (fun _ _ _ h => h) (Or.inl ⟨by rfl, fun w' hw' => by go_simp⟩) hS ?_
 simp only [Act.put, lsA, lsZ, lsS]
 refine take_at (i := 27) 42 (v := .pointer (some ⟨o.cb, 0, none⟩)) rfl rfl (by kernel_rfl) (by kernel_rfl) (by kernel_rfl) (fun _ _ _ h => h) (Or.inl ⟨by rfl, fun w' hw' => by have c := (HK.out.off hw' (fun h => h) (fun h => h)).c83; go_simp⟩) hS ?_
 simp only [Act.put, lsA, lsZ, lsS]
 refine take_at (i := 28) 43 (v := .int .i64 node) rfl rfl (by kernel_rfl) (by kernel_rfl) (by kernel_rfl) (fun _ _ _ h => h) (Or.inl ⟨by rfl, fun w' hw' => by go_simp⟩) hS ?_
 simp only [Act.put, lsA, lsZ, lsS]
 refine wpAnyH_ready (rs := [29]) (by kernel_rfl) (by simp) ?_
 refine AllReadyH.cons rfl (fun K' hK' => ?_) AllReadyH.nil
 go_simp
 refine Calls.mono (has_any (HK.out.off hS (fun h => h) (fun h => h)).cnt node) ?_
 rw [HHA.out]
 rintro e v1 ⟨rfl, hw1⟩
 rw [hw1]
 refine hK'.out _ _ hS (fun hS => ?_)
 clear hK' K' hw1 v1
 refine take_at (i := 30) 45 (v := .bool true) rfl rfl (by kernel_rfl) (by kernel_rfl) (by kernel_rfl) (fun _ _ _ h => h) (Or.inl ⟨by rfl, fun w' hw' => by go_simp⟩) hS ?_
 simp only [Act.put, lsA, lsZ, lsS]
 refine wpAnyH_done (by kernel_rfl) ?_ _
 have HOV : Hid _ := HO.out.trans hS (fun _ _ h => h)
 clear hS
 go_wp2_with fail
 go_ret2
 exact ⟨rfl, HOV.out⟩
end Go.Proofs.Ytmjmgdbhmbjmaab
