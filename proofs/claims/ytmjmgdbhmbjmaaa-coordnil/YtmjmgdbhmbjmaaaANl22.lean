/- Items of several texts. -/
import Derived.Test.YtmjmgdbhmbjmaaaAArg22
import Derived.Test.YtmjmgdbhmbjmaaaAAw22
namespace Go.Proofs.Ytmjmgdbhmbjmaaa
set_option maxRecDepth 100000
open Go.RowKit
theorem find_nil (n : Int) (w : World) : Calls Try.prog 36 #[.pointer none, .int .i64 n] w fun e w' => e = .returned (.pointer none) ∧ w' = w := by
 have hq := eql_pC
 go_enter Try.func36, Try.ntmps36
 go_wp2_with fail
 go_ret
 exact ⟨rfl, rfl⟩
theorem begin_nil (self need : Int) (read : Bool) (key : ByteArray) (s : SV) (w : World) : Calls Try.prog 38 #[.pointer none, .int .i64 self, .int .i64 need, .bool read, (.agg #[.string key, .int .i64 (s.f 0), .int .i64 (s.f 1), .int .i64 (s.f 2), .int .i64 (s.f 3), .int .i64 (s.f 4), .int .i64 (s.f 5), .int .i64 (s.f 6), .int .i64 (s.f 7), .slice s.a s.l.length s.cap])] w fun e w' => e = .returned (.tuple #[.int .i64 0, .int .i64 1]) ∧ Off (fun _ => False) w w' := by
 have hq := eql_pC
 have HO : Hid (Off (fun _ => False) w (w.alloc (.cells #[.string key, .int .i64 (s.f 0), .int .i64 (s.f 1), .int .i64 (s.f 2), .int .i64 (s.f 3), .int .i64 (s.f 4), .int .i64 (s.f 5), .int .i64 (s.f 6), .int .i64 (s.f 7), .slice s.a s.l.length s.cap] 63))) := (Off.refl _ w).alloc _
 go_enter Try.func38, Try.ntmps38
 go_wp2_with fail
 go_ret2
 exact ⟨rfl, HO.out⟩
set_option maxHeartbeats 1000000 in
theorem write_nil (self need : Int) (key : ByteArray) (s : SV) (w : World) : Calls Try.prog 21 #[.pointer none, .int .i64 self, .int .i64 need, .string key, (.agg #[.int .i64 (s.f 0), .int .i64 (s.f 1), .int .i64 (s.f 2), .int .i64 (s.f 3), .int .i64 (s.f 4), .int .i64 (s.f 5), .int .i64 (s.f 6), .int .i64 (s.f 7), .slice s.a s.l.length s.cap])] w fun e w' => e = .returned (.tuple #[.int .i64 0, .int .i64 1]) ∧ Off (fun _ => False) w w' := by
 have HO : Hid (Off (fun _ => False) w (w.alloc (.cells #[.int .i64 (s.f 0), .int .i64 (s.f 1), .int .i64 (s.f 2), .int .i64 (s.f 3), .int .i64 (s.f 4), .int .i64 (s.f 5), .int .i64 (s.f 6), .int .i64 (s.f 7), .slice s.a s.l.length s.cap] 33))) := (Off.refl _ w).alloc _
 obtain ⟨x0, x1, x2, x3, x4, x5, x6, x7, x8⟩ := cel9 (Cel.new w 33 #[.int .i64 (s.f 0), .int .i64 (s.f 1), .int .i64 (s.f 2), .int .i64 (s.f 3), .int .i64 (s.f 4), .int .i64 (s.f 5), .int .i64 (s.f 6), .int .i64 (s.f 7), .slice s.a s.l.length s.cap])
 go_enter Try.func21, Try.ntmps21
 go_wp2_with fail
 refine Calls.mono (begin_nil self need false key s _) ?_
 rintro e w1 ⟨rfl, o⟩
 have HO1 : Hid _ := HO.out.trans o (fun _ _ h => h)
 clear o x0 x1 x2 x3 x4 x5 x6 x7 x8
 go_wp2_with fail
 go_ret2
 exact ⟨rfl, HO1.out⟩
set_option maxHeartbeats 1000000 in
theorem read_nil (self need : Int) (key : ByteArray) (s : SV) (w : World) : Calls Try.prog 23 #[.pointer none, .int .i64 self, .int .i64 need, .string key, (.agg #[.int .i64 (s.f 0), .int .i64 (s.f 1), .int .i64 (s.f 2), .int .i64 (s.f 3), .int .i64 (s.f 4), .int .i64 (s.f 5), .int .i64 (s.f 6), .int .i64 (s.f 7), .slice s.a s.l.length s.cap])] w fun e w' => e = .returned (.tuple #[.int .i64 0, .int .i64 1]) ∧ Off (fun _ => False) w w' := by
 have HO : Hid (Off (fun _ => False) w (w.alloc (.cells #[.int .i64 (s.f 0), .int .i64 (s.f 1), .int .i64 (s.f 2), .int .i64 (s.f 3), .int .i64 (s.f 4), .int .i64 (s.f 5), .int .i64 (s.f 6), .int .i64 (s.f 7), .slice s.a s.l.length s.cap] 33))) := (Off.refl _ w).alloc _
 obtain ⟨x0, x1, x2, x3, x4, x5, x6, x7, x8⟩ := cel9 (Cel.new w 33 #[.int .i64 (s.f 0), .int .i64 (s.f 1), .int .i64 (s.f 2), .int .i64 (s.f 3), .int .i64 (s.f 4), .int .i64 (s.f 5), .int .i64 (s.f 6), .int .i64 (s.f 7), .slice s.a s.l.length s.cap])
 go_enter Try.func23, Try.ntmps23
 go_wp2_with fail
 refine Calls.mono (begin_nil self need true key s _) ?_
 rintro e w1 ⟨rfl, o⟩
 have HO1 : Hid _ := HO.out.trans o (fun _ _ h => h)
 clear o x0 x1 x2 x3 x4 x5 x6 x7 x8
 go_wp2_with fail
 go_ret2
 exact ⟨rfl, HO1.out⟩
theorem cl14 {b : Nat} {t : TypeId} {s0 s1 s2 s3 s4 s5 s6 s7 s8 s9 s10 s11 s12 s13 : Value} {w : World} (h : Cel b t #[s0, s1, s2, s3, s4, s5, s6, s7, s8, s9, s10, s11, s12, s13] w) : w.cell? ⟨b, 0, none⟩ = some s0 ∧ w.cell? ⟨b, 1, none⟩ = some s1 ∧ w.cell? ⟨b, 2, none⟩ = some s2 ∧ w.cell? ⟨b, 3, none⟩ = some s3 ∧ w.cell? ⟨b, 4, none⟩ = some s4 ∧ w.cell? ⟨b, 5, none⟩ = some s5 ∧ w.cell? ⟨b, 6, none⟩ = some s6 ∧ w.cell? ⟨b, 7, none⟩ = some s7 ∧ w.cell? ⟨b, 8, none⟩ = some s8 ∧ w.cell? ⟨b, 9, none⟩ = some s9 ∧ w.cell? ⟨b, 10, none⟩ = some s10 ∧ w.cell? ⟨b, 11, none⟩ = some s11 ∧ w.cell? ⟨b, 12, none⟩ = some s12 ∧ w.cell? ⟨b, 13, none⟩ = some s13 :=
 ⟨h.cell 0, h.cell 1, h.cell 2, h.cell 3, h.cell 4, h.cell 5, h.cell 6, h.cell 7, h.cell 8, h.cell 9, h.cell 10, h.cell 11, h.cell 12, h.cell 13⟩
theorem ack_nil (n node : Int) (w : World) : Calls Try.prog 22 #[.pointer none, .int .i64 n, .int .i64 node] w fun e w' => e = .returned (.bool false) ∧ w' = w := by
 have hq := eql_pO
 have HF : Hid _ := find_nil n w
 go_enter Try.func22, Try.ntmps22
 go_wp2_with fail
 refine Calls.mono HF.out ?_
 rintro e w1 ⟨rfl, hw⟩
 rw [hw]
 clear hw w1 HF
 go_wp2_with fail
 go_ret
 exact ⟨rfl, rfl⟩
set_option maxHeartbeats 2000000 in
theorem got_nil (n node : Int) (key : ByteArray) (s : SV) (w : World) : Calls Try.prog 24 #[.pointer none, .int .i64 n, .int .i64 node, (.agg #[.string key, .int .i64 (s.f 0), .int .i64 (s.f 1), .int .i64 (s.f 2), .int .i64 (s.f 3), .int .i64 (s.f 4), .int .i64 (s.f 5), .int .i64 (s.f 6), .int .i64 (s.f 7), .slice s.a s.l.length s.cap])] w fun e w' => e = .returned (.tuple #[.slice none 0 0, .bool false]) ∧ Off (fun _ => False) w w' := by
 have hq := eql_pO
 obtain ⟨V, hV⟩ : ∃ V, V = w.alloc (.cells #[.string key, .int .i64 (s.f 0), .int .i64 (s.f 1), .int .i64 (s.f 2), .int .i64 (s.f 3), .int .i64 (s.f 4), .int .i64 (s.f 5), .int .i64 (s.f 6), .int .i64 (s.f 7), .slice s.a s.l.length s.cap] 63) := ⟨_, rfl⟩
 have HO : Hid (Off (fun _ => False) w V) := by rw [hV]; exact (Off.refl _ w).alloc _
 have HW : Hid (w.alloc (.cells #[.string key, .int .i64 (s.f 0), .int .i64 (s.f 1), .int .i64 (s.f 2), .int .i64 (s.f 3), .int .i64 (s.f 4), .int .i64 (s.f 5), .int .i64 (s.f 6), .int .i64 (s.f 7), .slice s.a s.l.length s.cap] 63) = V) := hV.symm
 have HF : Hid _ := find_nil n V
 clear hV
 go_enter Try.func24, Try.ntmps24
 go_upto_region 1 with fail
 rw [HW.out]
 go_wp2_with fail
 refine Calls.mono HF.out ?_
 rintro e w1 ⟨rfl, hw⟩
 rw [hw]
 clear hw w1 HF
 go_upto_region 2 with fail
 refine wp_region_held_drew (S := fun w' => Off (fun _ => False) V w') (by kernel_rfl) ((Off.refl _ V).drew) (fun hS => ?_)
 refine take_at (i := 0) 15 (v := .pointer none) rfl rfl (by kernel_rfl) (by kernel_rfl) (by kernel_rfl) (fun _ _ _ h => h) (Or.inl ⟨by rfl, fun w' hw' => by go_simp⟩) hS ?_
 simp only [Act.put, lsA, lsZ, lsS]
 refine take_at (i := 1) 16 (v := .bool true) rfl rfl (by kernel_rfl) (by kernel_rfl) (by kernel_rfl) (fun _ _ _ h => h) (Or.inl ⟨by rfl, fun w' hw' => by go_simp⟩) hS ?_
 simp only [Act.put, lsA, lsZ, lsS]
 refine take_at (i := 2) 17 (v := .bool true) rfl rfl (by kernel_rfl) (by kernel_rfl) (by kernel_rfl) (fun _ _ _ h => h) (Or.inl ⟨by rfl, fun w' hw' => by go_simp⟩) hS ?_
 simp only [Act.put, lsA, lsZ, lsS]
 refine take_at (i := 3) 18 (v := undef) rfl rfl (by kernel_rfl) (by kernel_rfl) (by kernel_rfl) (fun _ _ _ h => h) (Or.inr ⟨by rfl, rfl⟩) hS ?_
 simp only [Act.put, lsA, lsZ, lsS]
 refine take_at (i := 4) 19 (v := undef) rfl rfl (by kernel_rfl) (by kernel_rfl) (by kernel_rfl) (fun _ _ _ h => h) (Or.inr ⟨by rfl, rfl⟩) hS ?_
 simp only [Act.put, lsA, lsZ, lsS]
 refine take_at (i := 5) 20 (v := undef) rfl rfl (by kernel_rfl) (by kernel_rfl) (by kernel_rfl) (fun _ _ _ h => h) (Or.inr ⟨by rfl, rfl⟩) hS ?_
 simp only [Act.put, lsA, lsZ, lsS]
 refine take_at (i := 6) 21 (v := undef) rfl rfl (by kernel_rfl) (by kernel_rfl) (by kernel_rfl) (fun _ _ _ h => h) (Or.inr ⟨by rfl, rfl⟩) hS ?_
 simp only [Act.put, lsA, lsZ, lsS]
 refine take_at (i := 7) 22 (v := undef) rfl rfl (by kernel_rfl) (by kernel_rfl) (by kernel_rfl) (fun _ _ _ h => h) (Or.inr ⟨by rfl, rfl⟩) hS ?_
 simp only [Act.put, lsA, lsZ, lsS]
 refine take_at (i := 8) 23 (v := .bool true) rfl rfl (by kernel_rfl) (by kernel_rfl) (by kernel_rfl) (fun _ _ _ h => h) (Or.inl ⟨by rfl, fun w' hw' => by go_simp⟩) hS ?_
 simp only [Act.put, lsA, lsZ, lsS]
 refine take_at (i := 9) 24 (v := .bool true) rfl rfl (by kernel_rfl) (by kernel_rfl) (by kernel_rfl) (fun _ _ _ h => h) (Or.inl ⟨by rfl, fun w' hw' => by go_simp⟩) hS ?_
 simp only [Act.put, lsA, lsZ, lsS]
 refine take_at (i := 10) 25 (v := undef) rfl rfl (by kernel_rfl) (by kernel_rfl) (by kernel_rfl) (fun _ _ _ h => h) (Or.inr ⟨by rfl, rfl⟩) hS ?_
 simp only [Act.put, lsA, lsZ, lsS]
 refine take_at (i := 11) 26 (v := undef) rfl rfl (by kernel_rfl) (by kernel_rfl) (by kernel_rfl) (fun _ _ _ h => h) (Or.inr ⟨by rfl, rfl⟩) hS ?_
 simp only [Act.put, lsA, lsZ, lsS]
 refine take_at (i := 12) 27 (v := undef) rfl rfl (by kernel_rfl) (by kernel_rfl) (by kernel_rfl) (fun _ _ _ h => h) (Or.inr ⟨by rfl, rfl⟩) hS ?_
 simp only [Act.put, lsA, lsZ, lsS]
 refine take_at (i := 13) 28 (v := undef) rfl rfl (by kernel_rfl) (by kernel_rfl) (by kernel_rfl) (fun _ _ _ h => h) (Or.inr ⟨by rfl, rfl⟩) hS ?_
 simp only [Act.put, lsA, lsZ, lsS]
 refine take_at (i := 14) 29 (v := undef) rfl rfl (by kernel_rfl) (by kernel_rfl) (by kernel_rfl) (fun _ _ _ h => h) (Or.inr ⟨by rfl, rfl⟩) hS ?_
 simp only [Act.put, lsA, lsZ, lsS]
 refine take_at (i := 15) 30 (v := undef) rfl rfl (by kernel_rfl) (by kernel_rfl) (by kernel_rfl) (fun _ _ _ h => h) (Or.inr ⟨by rfl, rfl⟩) hS ?_
 simp only [Act.put, lsA, lsZ, lsS]
 refine take_at (i := 16) 31 (v := undef) rfl rfl (by kernel_rfl) (by kernel_rfl) (by kernel_rfl) (fun _ _ _ h => h) (Or.inr ⟨by rfl, rfl⟩) hS ?_
 simp only [Act.put, lsA, lsZ, lsS]
 refine take_at (i := 17) 32 (v := .bool true) rfl rfl (by kernel_rfl) (by kernel_rfl) (by kernel_rfl) (fun _ _ _ h => h) (Or.inl ⟨by rfl, fun w' hw' => by go_simp⟩) hS ?_
 simp only [Act.put, lsA, lsZ, lsS]
 refine take_at (i := 18) 33 (v := .bool true) rfl rfl (by kernel_rfl) (by kernel_rfl) (by kernel_rfl) (fun _ _ _ h => h) (Or.inl ⟨by rfl, fun w' hw' => by go_simp⟩) hS ?_
 simp only [Act.put, lsA, lsZ, lsS]
 refine take_at (i := 19) 34 (v := undef) rfl rfl (by kernel_rfl) (by kernel_rfl) (by kernel_rfl) (fun _ _ _ h => h) (Or.inr ⟨by rfl, rfl⟩) hS ?_
 simp only [Act.put, lsA, lsZ, lsS]
 refine take_at (i := 20) 35 (v := undef) rfl rfl (by kernel_rfl) (by kernel_rfl) (by kernel_rfl) (fun _ _ _ h => h) (Or.inr ⟨by rfl, rfl⟩) hS ?_
 simp only [Act.put, lsA, lsZ, lsS]
 refine take_at (i := 21) 36 (v := undef) rfl rfl (by kernel_rfl) (by kernel_rfl) (by kernel_rfl) (fun _ _ _ h => h) (Or.inr ⟨by rfl, rfl⟩) hS ?_
 simp only [Act.put, lsA, lsZ, lsS]
 refine take_at (i := 22) 37 (v := .bool true) rfl rfl (by kernel_rfl) (by kernel_rfl) (by kernel_rfl) (fun _ _ _ h => h) (Or.inl ⟨by rfl, fun w' hw' => by go_simp⟩) hS ?_
 simp only [Act.put, lsA, lsZ, lsS]
 refine take_at (i := 23) 38 (v := .bool true) rfl rfl (by kernel_rfl) (by kernel_rfl) (by kernel_rfl) (fun _ _ _ h => h) (Or.inl ⟨by rfl, fun w' hw' => by go_simp⟩) hS ?_
 simp only [Act.put, lsA, lsZ, lsS]
 refine take_at (i := 24) 39 (v := undef) rfl rfl (by kernel_rfl) (by kernel_rfl) (by kernel_rfl) (fun _ _ _ h => h) (Or.inr ⟨by rfl, rfl⟩) hS ?_
 simp only [Act.put, lsA, lsZ, lsS]
 refine take_at (i := 25) 40 (v := undef) rfl rfl (by kernel_rfl) (by kernel_rfl) (by kernel_rfl) (fun _ _ _ h => h) (Or.inr ⟨by rfl, rfl⟩) hS ?_
 simp only [Act.put, lsA, lsZ, lsS]
 refine take_at (i := 26) 41 (v := undef) rfl rfl (by kernel_rfl) (by kernel_rfl) (by kernel_rfl) (fun _ _ _ h => h) (Or.inr ⟨by rfl, rfl⟩) hS ?_
 simp only [Act.put, lsA, lsZ, lsS]
 refine take_at (i := 27) 42 (v := undef) rfl rfl (by kernel_rfl) (by kernel_rfl) (by kernel_rfl) (fun _ _ _ h => h) (Or.inr ⟨by rfl, rfl⟩) hS ?_
 simp only [Act.put, lsA, lsZ, lsS]
 refine take_at (i := 28) 43 (v := undef) rfl rfl (by kernel_rfl) (by kernel_rfl) (by kernel_rfl) (fun _ _ _ h => h) (Or.inr ⟨by rfl, rfl⟩) hS ?_
 simp only [Act.put, lsA, lsZ, lsS]
 refine take_at (i := 29) 44 (v := undef) rfl rfl (by kernel_rfl) (by kernel_rfl) (by kernel_rfl) (fun _ _ _ h => h) (Or.inr ⟨by rfl, rfl⟩) hS ?_
 simp only [Act.put, lsA, lsZ, lsS]
 refine take_at (i := 30) 45 (v := .bool true) rfl rfl (by kernel_rfl) (by kernel_rfl) (by kernel_rfl) (fun _ _ _ h => h) (Or.inl ⟨by rfl, fun w' hw' => by go_simp⟩) hS ?_
 simp only [Act.put, lsA, lsZ, lsS]
 refine wpAnyH_done (by kernel_rfl) ?_ _
 have HOV : Hid _ := HO.out.trans hS (fun _ _ h => h)
 clear hS
 go_wp2_with fail
 go_ret2
 exact ⟨rfl, HOV.out⟩
theorem results_key {fn : Func} {p u x : Tmp} (h : fn.results = #[.tmp u, .cell p 33, .tmp x]) {tmps : Array Value} {w : World} {b : Nat} {f : Nat → Int} {s : Value} (hp : tmps.getD p undef = .pointer (some ⟨b, 0, none⟩)) {v y : Value} (hu : tmps.getD u undef = v) (hx : tmps.getD x undef = y) (hc : Cel b 33 #[.int .i64 (f 0), .int .i64 (f 1), .int .i64 (f 2), .int .i64 (f 3), .int .i64 (f 4), .int .i64 (f 5), .int .i64 (f 6), .int .i64 (f 7), s] w) :
  (results fn tmps).run Try.prog w = .ok (.tuple #[v, .agg #[.int .i64 (f 0), .int .i64 (f 1), .int .i64 (f 2), .int .i64 (f 3), .int .i64 (f 4), .int .i64 (f 5), .int .i64 (f 6), .int .i64 (f 7), s], y]) w := by
 have e : (results fn tmps).run Try.prog w = ((asAddr (tmps.getD p undef)).run Try.prog w).andThen fun a w₁ => ((loadVar 33 a).run Try.prog w₁).andThen fun v w₂ => .ok (.tuple #[tmps.getD u undef, v, tmps.getD x undef]) w₂ := by
  simp only [results, h]
  simp [Sem.run_bind, Result.andThen]
 rw [e]
 have ha : (asAddr (.pointer (some ⟨b, 0, none⟩))).run Try.prog w = .ok ⟨b, 0, none⟩ w := rfl
 rw [hp, hu, hx, ha]
 obtain ⟨d, hd⟩ : ∃ d, Try.prog.underlying 33 = some (.struct d) := ⟨_, Try.underlying33⟩
 have hv := run_loadVar_row (P := Try.prog) w b 33 33 _ (0, 0) (.struct d) hc.is hd rfl (by kernel_rfl)
 simp only [Result.andThen, hv]
set_option maxHeartbeats 2000000 in
theorem key_nil (n : Int) (w : World) : Calls Try.prog 15 #[.pointer none, .int .i64 n] w fun e w' => e = .returned (.tuple #[.string ⟨#[]⟩, (.agg #[.int .i64 0, .int .i64 0, .int .i64 0, .int .i64 0, .int .i64 0, .int .i64 0, .int .i64 0, .int .i64 0, .slice none 0 0]), .bool false]) ∧ Off (fun _ => False) w w' := by
 have hq := eql_pO
 have C0 := Cel.new w 33 #[.int .i64 (zer 0), .int .i64 (zer 1), .int .i64 (zer 2), .int .i64 (zer 3), .int .i64 (zer 4), .int .i64 (zer 5), .int .i64 (zer 6), .int .i64 (zer 7), .slice none 0 0]
 have O0 : Off (fun _ => False) w (w.alloc (.cells #[.int .i64 (zer 0), .int .i64 (zer 1), .int .i64 (zer 2), .int .i64 (zer 3), .int .i64 (zer 4), .int .i64 (zer 5), .int .i64 (zer 6), .int .i64 (zer 7), .slice none 0 0] 33)) := (Off.refl _ w).alloc _
 have HW : Hid ((w.alloc (.cells #[.int .i64 (zer 0), .int .i64 (zer 1), .int .i64 (zer 2), .int .i64 (zer 3), .int .i64 (zer 4), .int .i64 (zer 5), .int .i64 (zer 6), .int .i64 (zer 7), .slice none 0 0] 33)) = (w.alloc (.cells #[.int .i64 0, .int .i64 0, .int .i64 0, .int .i64 0, .int .i64 0, .int .i64 0, .int .i64 0, .int .i64 0, .slice none 0 0] 33))) := rfl
 generalize hV : w.alloc (.cells #[.int .i64 (zer 0), .int .i64 (zer 1), .int .i64 (zer 2), .int .i64 (zer 3), .int .i64 (zer 4), .int .i64 (zer 5), .int .i64 (zer 6), .int .i64 (zer 7), .slice none 0 0] 33) = V at C0 O0 HW
 have HF : Hid _ := find_nil n V
 have HC : Hid _ := C0
 have HO : Hid _ := O0
 clear hV
 obtain ⟨x0, x1, x2, x3, x4, x5, x6, x7, x8⟩ := cel9 C0
 have fr := C0.free
 clear C0 O0
 go_enter Try.func15, Try.ntmps15
 go_upto_region 1 with fail
 rw [← HW.out]
 go_wp2_with fail
 refine Calls.mono HF.out ?_
 rintro e w1 ⟨rfl, hw⟩
 rw [hw]
 clear hw w1 HF
 go_wp2_with fail
 refine bodyPost_ret (results_key (f := zer) (s := .slice none 0 0) rfl rfl rfl rfl (HC.out.clr9)) rfl ?_
 exact ⟨rfl, HO.out.clr9 (b := w.heap.size) (.inr (Nat.le_refl _))⟩
theorem tick_nil (w : World) : Calls Try.prog 25 #[.pointer none] w fun e w' => e = .returned (.int .i64 0) ∧ w' = w := by
 have hq := eql_pC
 go_enter Try.func25, Try.ntmps25
 go_wp2_with fail
 go_ret
 exact ⟨rfl, rfl⟩
theorem answers_nil (w : World) : Calls Try.prog 19 #[.pointer none] w fun e w' => e = .returned (.slice none 0 0) ∧ w' = w := by
 have hq := eql_pC
 go_enter Try.func19, Try.ntmps19
 go_wp2_with fail
 go_ret
 exact ⟨rfl, rfl⟩
theorem len_nil (w : World) : Calls Try.prog 14 #[.pointer none] w fun e w' => e = .returned (.int .i64 0) ∧ w' = w := by
 have hq := eql_pC
 go_enter Try.func14, Try.ntmps14
 go_wp2_with fail
 go_ret
 exact ⟨rfl, rfl⟩
set_option maxHeartbeats 4000000 in
theorem nil_walk (x : Cll) (W : World) (_ : COk W x) : Calls Try.prog 5 #[.agg (ccs x).toArray] W fun e w' => e = .returned (.bool true) ∧ Off (fun _ => False) W w' := by
 have C0 := Cel.new W 35 #[.int .i64 x.d, .int .i64 x.self, .int .i64 x.need, .int .i64 x.op, .string x.key, .int .i64 (x.s.f 0), .int .i64 (x.s.f 1), .int .i64 (x.s.f 2), .int .i64 (x.s.f 3), .int .i64 (x.s.f 4), .int .i64 (x.s.f 5), .int .i64 (x.s.f 6), .int .i64 (x.s.f 7), .slice x.s.a x.s.l.length x.s.cap]
 have O0 : Off (fun _ => False) W (W.alloc (.cells #[.int .i64 x.d, .int .i64 x.self, .int .i64 x.need, .int .i64 x.op, .string x.key, .int .i64 (x.s.f 0), .int .i64 (x.s.f 1), .int .i64 (x.s.f 2), .int .i64 (x.s.f 3), .int .i64 (x.s.f 4), .int .i64 (x.s.f 5), .int .i64 (x.s.f 6), .int .i64 (x.s.f 7), .slice x.s.a x.s.l.length x.s.cap] 35)) := (Off.refl _ W).alloc _
 generalize hV : W.alloc (.cells #[.int .i64 x.d, .int .i64 x.self, .int .i64 x.need, .int .i64 x.op, .string x.key, .int .i64 (x.s.f 0), .int .i64 (x.s.f 1), .int .i64 (x.s.f 2), .int .i64 (x.s.f 3), .int .i64 (x.s.f 4), .int .i64 (x.s.f 5), .int .i64 (x.s.f 6), .int .i64 (x.s.f 7), .slice x.s.a x.s.l.length x.s.cap] 35) = V at C0 O0
 have HV : Hid (W.alloc (.cells #[.int .i64 x.d, .int .i64 x.self, .int .i64 x.need, .int .i64 x.op, .string x.key, .int .i64 (x.s.f 0), .int .i64 (x.s.f 1), .int .i64 (x.s.f 2), .int .i64 (x.s.f 3), .int .i64 (x.s.f 4), .int .i64 (x.s.f 5), .int .i64 (x.s.f 6), .int .i64 (x.s.f 7), .slice x.s.a x.s.l.length x.s.cap] 35) = V) := hV
 have HC : Hid _ := C0
 have HO : Hid _ := O0
 clear hV C0 O0
 show Calls Try.prog 5 #[(.agg #[.int .i64 x.d, .int .i64 x.self, .int .i64 x.need, .int .i64 x.op, .string x.key, .int .i64 (x.s.f 0), .int .i64 (x.s.f 1), .int .i64 (x.s.f 2), .int .i64 (x.s.f 3), .int .i64 (x.s.f 4), .int .i64 (x.s.f 5), .int .i64 (x.s.f 6), .int .i64 (x.s.f 7), .slice x.s.a x.s.l.length x.s.cap])] W _
 go_enter Try.func5, Try.ntmps5
 go_upto_region 1 with fail
 rw [HV.out]
 obtain ⟨z0, z1, z2, z3, z4, z5, z6, z7, z8, z9, z10, z11, z12, z13⟩ := cl14 HC.out
 go_wp2_with fail
 refine Calls.mono (write_nil x.self x.need x.key x.s V) ?_
 rintro e v1 ⟨rfl, o1⟩
 have D1 := HC.out.off o1 (fun h => h)
 have HO1 : Hid _ := HO.out.trans o1 (fun _ _ h => h)
 have HC1 : Hid _ := D1
 clear o1 D1 z0 z1 z2 z3 z4 z5 z6 z7 z8 z9 z10 z11 z12 z13
 obtain ⟨z0, z1, z2, z3, z4, z5, z6, z7, z8, z9, z10, z11, z12, z13⟩ := cl14 HC1.out
 go_wp2_with fail
 refine Calls.mono (read_nil x.self x.need x.key x.s v1) ?_
 rintro e v2 ⟨rfl, o1⟩
 have D1 := HC1.out.off o1 (fun h => h)
 have HO2 : Hid _ := HO1.out.trans o1 (fun _ _ h => h)
 have HC2 : Hid _ := D1
 clear o1 D1 z0 z1 z2 z3 z4 z5 z6 z7 z8 z9 z10 z11 z12 z13
 obtain ⟨z0, z1, z2, z3, z4, z5, z6, z7, z8, z9, z10, z11, z12, z13⟩ := cl14 HC2.out
 go_wp2_with fail
 refine Calls.mono (got_nil x.op x.self ⟨#[]⟩ SV.zero v2) ?_
 rintro e v3 ⟨rfl, o1⟩
 have D1 := HC2.out.off o1 (fun h => h)
 have HO3 : Hid _ := HO2.out.trans o1 (fun _ _ h => h)
 have HC3 : Hid _ := D1
 clear o1 D1 z0 z1 z2 z3 z4 z5 z6 z7 z8 z9 z10 z11 z12 z13
 obtain ⟨z0, z1, z2, z3, z4, z5, z6, z7, z8, z9, z10, z11, z12, z13⟩ := cl14 HC3.out
 go_wp2_with fail
 refine Calls.mono (key_nil x.op v3) ?_
 rintro e v4 ⟨rfl, o1⟩
 have D1 := (HC3.out.off o1 (fun h => h)).alloc (.cells #[.int .i64 0, .int .i64 0, .int .i64 0, .int .i64 0, .int .i64 0, .int .i64 0, .int .i64 0, .int .i64 0, .slice none 0 0] 33)
 have HO4 : Hid _ := (HO3.out.trans o1 (fun _ _ h => h)).alloc (.cells #[.int .i64 0, .int .i64 0, .int .i64 0, .int .i64 0, .int .i64 0, .int .i64 0, .int .i64 0, .int .i64 0, .slice none 0 0] 33)
 clear o1 z0 z1 z2 z3 z4 z5 z6 z7 z8 z9 z10 z11 z12 z13
 obtain ⟨z0, z1, z2, z3, z4, z5, z6, z7, z8, z9, z10, z11, z12, z13⟩ := cl14 D1
 clear D1
 go_wp2_with fail
 refine Calls.mono (ack_nil x.op x.self _) ?_
 rintro e w7 ⟨rfl, hw⟩
 rw [hw]
 clear hw w7
 go_wp2_with fail
 refine Calls.mono (tick_nil _) ?_
 rintro e w7 ⟨rfl, hw⟩
 rw [hw]
 clear hw w7
 go_wp2_with fail
 refine Calls.mono (answers_nil _) ?_
 rintro e w7 ⟨rfl, hw⟩
 rw [hw]
 clear hw w7
 go_wp2_with fail
 refine Calls.mono (len_nil _) ?_
 rintro e w7 ⟨rfl, hw⟩
 rw [hw]
 clear hw w7
 go_wp2_with fail
 refine Calls.mono (awake_any _) ?_
 rintro e w7 ⟨rfl, o⟩
 have HO5 : Hid _ := HO4.out.trans o (fun _ _ h => h)
 clear o
 go_wp2_with fail
 go_ret
 exact ⟨rfl, HO5.out⟩
end Go.Proofs.Ytmjmgdbhmbjmaaa
