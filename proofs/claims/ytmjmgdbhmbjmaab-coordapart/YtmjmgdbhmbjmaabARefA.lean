/- Items of several texts. -/
import Derived.Lib.SlBytesConst
import Derived.Test.YtmjmgdbhmbjmaabALiv
namespace Go.Proofs.Ytmjmgdbhmbjmaab
open Go.RowKit
set_option maxRecDepth 100000 in
theorem fmay_any (f : Nat → Int) (w : World) : Calls Try.prog 15 #[.agg #[.int .i64 (f 0), .int .i64 (f 1), .int .i64 (f 2), .int .i64 (f 3), .int .i64 (f 4), .int .i64 (f 5), .int .i64 (f 6), .int .i64 (f 7)]] w fun e w' => e = .returned (.bool (mayB f)) ∧ Off (fun _ => False) w w' := by
 go_enter Try.func15, Try.ntmps15
 go_wp2_with fail
 go_loopw [6] (fun y wr => ∃ n : Nat, y = .int .i64 (n : Int) ∧ n ≤ 8 ∧ (∀ j, j < n → 0 ≤ f j ∧ f j ≤ 1099511627776) ∧ Off (fun _ => False) w wr) (fun y _ => (8 - intOf y).toNat)
 case atStart => exact ⟨0, rfl, by omega, by simp, (Off.refl _ w).alloc _⟩
 case round =>
  obtain ⟨n, rfl, hn, hg, O⟩ := hrel
  have HG : Hid _ := hg
  clear hg
  by_cases h : n < 8
  ·have hd : decide ((n : Int) < 8) = true := by simp; omega
   have hi := idx_vec f h
   by_cases h0 : f n < 0
   ·have e0 : decide (f n < 0) = true := by simp; omega
    go_wp2_with fail
    go_ret
    refine ⟨?_, O⟩
    have hb : mayB f = false := by
     simp only [mayB, decide_eq_false_iff_not]
     intro hx
     have := hx n h
     omega
    rw [hb]; rfl
   ·have e0 : decide (f n < 0) = false := by simp; omega
    by_cases h1 : 1099511627776 < f n
    ·have e1 : decide (1099511627776 < f n) = true := by simp; omega
     go_wp2_with fail
     go_ret
     refine ⟨?_, O⟩
     have hb : mayB f = false := by
      simp only [mayB, decide_eq_false_iff_not]
      intro hx
      have := hx n h
      omega
     rw [hb]; rfl
    ·have e1 : decide (1099511627776 < f n) = false := by simp; omega
     go_wp2_with fail
     go_roundw
     case rel =>
      refine ⟨n + 1, by go_num, by omega, fun j hj => ?_, O⟩
      rcases Nat.lt_or_ge j n with h2 | h2
      ·exact HG.out j h2
      ·obtain rfl : j = n := by omega
       omega
     case measure => simp [intOf]; omega
  ·obtain rfl : n = 8 := by omega
   go_wp2_with fail
   go_ret
   refine ⟨?_, O⟩
   have hb : mayB f = true := by
    simp only [mayB, decide_eq_true_eq]
    exact HG.out
   rw [hb]; rfl
theorem fless_any (a b c d : Int) (w : World) : Calls Try.prog 17 #[.agg #[.int .i64 a, .int .i64 b], .agg #[.int .i64 c, .int .i64 d]] w fun e w' => e = .returned (.bool (lessB a b c d)) ∧ Off (fun _ => False) w w' := by
 have o2 : ∀ x y, Off (fun _ => False) w ((w.alloc x).alloc y) := fun x y => ((Off.refl _ w).alloc _).alloc _
 by_cases h1 : a < c
 ·have e1 : decide (a < c) = true := by simp; omega
  have hb : Hid (lessB a b c d = true) := (show lessB a b c d = true by simp [lessB, h1])
  go_enter Try.func17, Try.ntmps17
  go_wp2
  go_ret
  rw [hb.out]
  exact ⟨rfl, o2 _ _⟩
 ·have e1 : decide (a < c) = false := by simp; omega
  by_cases h0 : a = c
  ·subst h0
   have e0 : (a == a) = true := by simp
   have hb : Hid (lessB a b a d = decide (b < d)) := (show lessB a b a d = decide (b < d) by simp [lessB])
   go_enter Try.func17, Try.ntmps17
   go_wp2
   go_ret
   rw [hb.out]
   exact ⟨rfl, o2 _ _⟩
  ·have e0 : (a == c) = false := by simp [h0]
   have hb : Hid (lessB a b c d = false) := (show lessB a b c d = false by simp [lessB, h0]; omega)
   go_enter Try.func17, Try.ntmps17
   go_wp2
   go_ret
   rw [hb.out]
   exact ⟨rfl, o2 _ _⟩
set_option maxRecDepth 100000 in
set_option maxHeartbeats 1000000 in
theorem fcovers_any (f : Nat → Int) (n N : Int) (w : World) : Calls Try.prog 16 #[.agg #[.int .i64 (f 0), .int .i64 (f 1), .int .i64 (f 2), .int .i64 (f 3), .int .i64 (f 4), .int .i64 (f 5), .int .i64 (f 6), .int .i64 (f 7)], .agg #[.int .i64 n, .int .i64 N]] w fun e w' => e = .returned (.bool (coversB f n N)) ∧ Off (fun _ => False) w w' := by
 go_enter Try.func16, Try.ntmps16
 go_wp2_with fail
 obtain ⟨W, hW⟩ : ∃ W, W = ((w.alloc (.cells #[.int .i64 (f 0), .int .i64 (f 1), .int .i64 (f 2), .int .i64 (f 3), .int .i64 (f 4), .int .i64 (f 5), .int .i64 (f 6), .int .i64 (f 7)] 27)).alloc (.cells #[.int .i64 n, .int .i64 N] 53)) := ⟨_, rfl⟩
 have O : Off (fun _ => False) w W := by rw [hW]; exact ((Off.refl _ w).alloc _).alloc _
 have C0 : Cel w.heap.size 27 #[.int .i64 (f 0), .int .i64 (f 1), .int .i64 (f 2), .int .i64 (f 3), .int .i64 (f 4), .int .i64 (f 5), .int .i64 (f 6), .int .i64 (f 7)] W := by rw [hW]; exact (Cel.new w _ _).alloc _
 have C1 : Cel (w.heap.size + 1) 53 #[.int .i64 n, .int .i64 N] W := by rw [hW]; exact Cel.new1 w _ _ _
 rw [← hW]
 clear hW
 refine wp_region_held_drew (S := fun w' => Cel (w.heap.size + 1) 53 #[.int .i64 n, .int .i64 N] w' ∧ Cel w.heap.size 27 #[.int .i64 (f 0), .int .i64 (f 1), .int .i64 (f 2), .int .i64 (f 3), .int .i64 (f 4), .int .i64 (f 5), .int .i64 (f 6), .int .i64 (f 7)] w') (by kernel_rfl) ⟨C1.drew, C0.drew⟩ (fun hS => ?_)
 clear C0 C1
 by_cases h0 : 0 ≤ n
 ·by_cases h8 : n < 8
  ·by_cases h1 : 1 ≤ N
   ·have e1 : decide (1 ≤ N) = true := by simp; omega
    obtain ⟨m, hm, rfl⟩ : ∃ m : Nat, m < 8 ∧ n = (m : Int) := ⟨n.toNat, by omega, by omega⟩
    have e0 : decide (0 ≤ (m : Int)) = true := by simp
    have e8 : decide ((m : Int) < 8) = true := by simp; omega
    have ha := at_vec w.heap.size hm
    have hb : Hid (coversB f m N = decide (N ≤ f m)) := by
     show coversB f m N = _
     simp only [coversB, Int.toNat_natCast]
     exact decide_eq_decide.2 ⟨fun h => h.2.2.2, fun h => ⟨by omega, by omega, h1, h⟩⟩
    refine take_at (i := 0) 5 (v := .pointer (some ⟨w.heap.size + 1, 0, none⟩)) rfl rfl (by kernel_rfl) (by kernel_rfl) (by kernel_rfl) (fun _ _ _ h => h) (Or.inl ⟨by rfl, fun w' hw' => by go_simp⟩) hS ?_
    simp only [Act.put, lsA, lsZ, lsS]
    refine take_at (i := 1) 6 (v := .int .i64 (m : Int)) rfl rfl (by kernel_rfl) (by kernel_rfl) (by kernel_rfl) (fun _ _ _ h => h) (Or.inl ⟨by rfl, fun w' hw' => by have x0 := hw'.1.cell 0; have x1 := hw'.1.cell 1; simp at x0 x1; go_simp⟩) hS ?_
    simp only [Act.put, lsA, lsZ, lsS]
    refine take_at (i := 2) 7 (v := .bool true) rfl rfl (by kernel_rfl) (by kernel_rfl) (by kernel_rfl) (fun _ _ _ h => h) (Or.inl ⟨by rfl, fun w' hw' => by go_simp⟩) hS ?_
    simp only [Act.put, lsA, lsZ, lsS]
    refine take_at (i := 3) 8 (v := .bool true) rfl rfl (by kernel_rfl) (by kernel_rfl) (by kernel_rfl) (fun _ _ _ h => h) (Or.inl ⟨by rfl, fun w' hw' => by go_simp⟩) hS ?_
    simp only [Act.put, lsA, lsZ, lsS]
    refine take_at (i := 4) 9 (v := .pointer (some ⟨w.heap.size + 1, 0, none⟩)) rfl rfl (by kernel_rfl) (by kernel_rfl) (by kernel_rfl) (fun _ _ _ h => h) (Or.inl ⟨by rfl, fun w' hw' => by go_simp⟩) hS ?_
    simp only [Act.put, lsA, lsZ, lsS]
    refine take_at (i := 5) 10 (v := .int .i64 (m : Int)) rfl rfl (by kernel_rfl) (by kernel_rfl) (by kernel_rfl) (fun _ _ _ h => h) (Or.inl ⟨by rfl, fun w' hw' => by have x0 := hw'.1.cell 0; have x1 := hw'.1.cell 1; simp at x0 x1; go_simp⟩) hS ?_
    simp only [Act.put, lsA, lsZ, lsS]
    refine take_at (i := 6) 11 (v := .bool true) rfl rfl (by kernel_rfl) (by kernel_rfl) (by kernel_rfl) (fun _ _ _ h => h) (Or.inl ⟨by rfl, fun w' hw' => by go_simp⟩) hS ?_
    simp only [Act.put, lsA, lsZ, lsS]
    refine take_at (i := 7) 12 (v := .bool true) rfl rfl (by kernel_rfl) (by kernel_rfl) (by kernel_rfl) (fun _ _ _ h => h) (Or.inl ⟨by rfl, fun w' hw' => by go_simp⟩) hS ?_
    simp only [Act.put, lsA, lsZ, lsS]
    refine take_at (i := 8) 13 (v := .bool true) rfl rfl (by kernel_rfl) (by kernel_rfl) (by kernel_rfl) (fun _ _ _ h => h) (Or.inl ⟨by rfl, fun w' hw' => by go_simp⟩) hS ?_
    simp only [Act.put, lsA, lsZ, lsS]
    refine take_at (i := 9) 14 (v := .pointer (some ⟨w.heap.size + 1, 1, none⟩)) rfl rfl (by kernel_rfl) (by kernel_rfl) (by kernel_rfl) (fun _ _ _ h => h) (Or.inl ⟨by rfl, fun w' hw' => by go_simp⟩) hS ?_
    simp only [Act.put, lsA, lsZ, lsS]
    refine take_at (i := 10) 15 (v := .int .i64 N) rfl rfl (by kernel_rfl) (by kernel_rfl) (by kernel_rfl) (fun _ _ _ h => h) (Or.inl ⟨by rfl, fun w' hw' => by have x0 := hw'.1.cell 0; have x1 := hw'.1.cell 1; simp at x0 x1; go_simp⟩) hS ?_
    simp only [Act.put, lsA, lsZ, lsS]
    refine take_at (i := 11) 16 (v := .bool true) rfl rfl (by kernel_rfl) (by kernel_rfl) (by kernel_rfl) (fun _ _ _ h => h) (Or.inl ⟨by rfl, fun w' hw' => by go_simp⟩) hS ?_
    simp only [Act.put, lsA, lsZ, lsS]
    refine take_at (i := 12) 17 (v := .bool true) rfl rfl (by kernel_rfl) (by kernel_rfl) (by kernel_rfl) (fun _ _ _ h => h) (Or.inl ⟨by rfl, fun w' hw' => by go_simp⟩) hS ?_
    simp only [Act.put, lsA, lsZ, lsS]
    refine take_at (i := 13) 18 (v := .bool true) rfl rfl (by kernel_rfl) (by kernel_rfl) (by kernel_rfl) (fun _ _ _ h => h) (Or.inl ⟨by rfl, fun w' hw' => by go_simp⟩) hS ?_
    simp only [Act.put, lsA, lsZ, lsS]
    refine take_at (i := 14) 19 (v := .pointer (some ⟨w.heap.size + 1, 1, none⟩)) rfl rfl (by kernel_rfl) (by kernel_rfl) (by kernel_rfl) (fun _ _ _ h => h) (Or.inl ⟨by rfl, fun w' hw' => by go_simp⟩) hS ?_
    simp only [Act.put, lsA, lsZ, lsS]
    refine take_at (i := 15) 20 (v := .int .i64 N) rfl rfl (by kernel_rfl) (by kernel_rfl) (by kernel_rfl) (fun _ _ _ h => h) (Or.inl ⟨by rfl, fun w' hw' => by have x0 := hw'.1.cell 0; have x1 := hw'.1.cell 1; simp at x0 x1; go_simp⟩) hS ?_
    simp only [Act.put, lsA, lsZ, lsS]
    refine take_at (i := 16) 21 (v := .pointer (some ⟨w.heap.size + 1, 0, none⟩)) rfl rfl (by kernel_rfl) (by kernel_rfl) (by kernel_rfl) (fun _ _ _ h => h) (Or.inl ⟨by rfl, fun w' hw' => by go_simp⟩) hS ?_
    simp only [Act.put, lsA, lsZ, lsS]
    refine take_at (i := 17) 22 (v := .int .i64 (m : Int)) rfl rfl (by kernel_rfl) (by kernel_rfl) (by kernel_rfl) (fun _ _ _ h => h) (Or.inl ⟨by rfl, fun w' hw' => by have x0 := hw'.1.cell 0; have x1 := hw'.1.cell 1; simp at x0 x1; go_simp⟩) hS ?_
    simp only [Act.put, lsA, lsZ, lsS]
    refine take_at (i := 18) 23 (v := .pointer (some ⟨w.heap.size, m, none⟩)) rfl rfl (by kernel_rfl) (by kernel_rfl) (by kernel_rfl) (fun _ _ _ h => h) (Or.inl ⟨by rfl, fun w' hw' => by go_simp⟩) hS ?_
    simp only [Act.put, lsA, lsZ, lsS]
    refine take_at (i := 19) 24 (v := .int .i64 (f m)) rfl rfl (by kernel_rfl) (by kernel_rfl) (by kernel_rfl) (fun _ _ _ h => h) (Or.inl ⟨by rfl, fun w' hw' => by have x0 := (hw'.2.cell m).trans (vec_get f hm); go_simp⟩) hS ?_
    simp only [Act.put, lsA, lsZ, lsS]
    refine take_at (i := 20) 25 (v := .bool (decide (N ≤ f m))) rfl rfl (by kernel_rfl) (by kernel_rfl) (by kernel_rfl) (fun _ _ _ h => h) (Or.inl ⟨by rfl, fun w' hw' => by go_simp⟩) hS ?_
    simp only [Act.put, lsA, lsZ, lsS]
    refine take_at (i := 21) 26 (v := .bool (decide (N ≤ f m))) rfl rfl (by kernel_rfl) (by kernel_rfl) (by kernel_rfl) (fun _ _ _ h => h) (Or.inl ⟨by rfl, fun w' hw' => by go_simp⟩) hS ?_
    simp only [Act.put, lsA, lsZ, lsS]
    refine take_at (i := 22) 4 (v := .bool (decide (N ≤ f m))) rfl rfl (by kernel_rfl) (by kernel_rfl) (by kernel_rfl) (fun _ _ _ h => h) (Or.inl ⟨by rfl, fun w' hw' => by go_simp⟩) hS ?_
    simp only [Act.put, lsA, lsZ, lsS]
    refine wpAnyH_done (by kernel_rfl) ?_ _
    go_wp2_with fail
    go_ret
    rw [hb.out]
    exact ⟨rfl, O.drew⟩
   ·have e0 : decide (0 ≤ n) = true := by simp; omega
    have e8 : decide (n < 8) = true := by simp; omega
    have e1 : decide (1 ≤ N) = false := by simp; omega
    have hb : Hid (coversB f n N = false) := by show coversB f n N = _; simp [coversB]; omega
    refine take_at (i := 0) 5 (v := .pointer (some ⟨w.heap.size + 1, 0, none⟩)) rfl rfl (by kernel_rfl) (by kernel_rfl) (by kernel_rfl) (fun _ _ _ h => h) (Or.inl ⟨by rfl, fun w' hw' => by go_simp⟩) hS ?_
    simp only [Act.put, lsA, lsZ, lsS]
    refine take_at (i := 1) 6 (v := .int .i64 n) rfl rfl (by kernel_rfl) (by kernel_rfl) (by kernel_rfl) (fun _ _ _ h => h) (Or.inl ⟨by rfl, fun w' hw' => by have x0 := hw'.1.cell 0; have x1 := hw'.1.cell 1; simp at x0 x1; go_simp⟩) hS ?_
    simp only [Act.put, lsA, lsZ, lsS]
    refine take_at (i := 2) 7 (v := .bool true) rfl rfl (by kernel_rfl) (by kernel_rfl) (by kernel_rfl) (fun _ _ _ h => h) (Or.inl ⟨by rfl, fun w' hw' => by go_simp⟩) hS ?_
    simp only [Act.put, lsA, lsZ, lsS]
    refine take_at (i := 3) 8 (v := .bool true) rfl rfl (by kernel_rfl) (by kernel_rfl) (by kernel_rfl) (fun _ _ _ h => h) (Or.inl ⟨by rfl, fun w' hw' => by go_simp⟩) hS ?_
    simp only [Act.put, lsA, lsZ, lsS]
    refine take_at (i := 4) 9 (v := .pointer (some ⟨w.heap.size + 1, 0, none⟩)) rfl rfl (by kernel_rfl) (by kernel_rfl) (by kernel_rfl) (fun _ _ _ h => h) (Or.inl ⟨by rfl, fun w' hw' => by go_simp⟩) hS ?_
    simp only [Act.put, lsA, lsZ, lsS]
    refine take_at (i := 5) 10 (v := .int .i64 n) rfl rfl (by kernel_rfl) (by kernel_rfl) (by kernel_rfl) (fun _ _ _ h => h) (Or.inl ⟨by rfl, fun w' hw' => by have x0 := hw'.1.cell 0; have x1 := hw'.1.cell 1; simp at x0 x1; go_simp⟩) hS ?_
    simp only [Act.put, lsA, lsZ, lsS]
    refine take_at (i := 6) 11 (v := .bool true) rfl rfl (by kernel_rfl) (by kernel_rfl) (by kernel_rfl) (fun _ _ _ h => h) (Or.inl ⟨by rfl, fun w' hw' => by go_simp⟩) hS ?_
    simp only [Act.put, lsA, lsZ, lsS]
    refine take_at (i := 7) 12 (v := .bool true) rfl rfl (by kernel_rfl) (by kernel_rfl) (by kernel_rfl) (fun _ _ _ h => h) (Or.inl ⟨by rfl, fun w' hw' => by go_simp⟩) hS ?_
    simp only [Act.put, lsA, lsZ, lsS]
    refine take_at (i := 8) 13 (v := .bool true) rfl rfl (by kernel_rfl) (by kernel_rfl) (by kernel_rfl) (fun _ _ _ h => h) (Or.inl ⟨by rfl, fun w' hw' => by go_simp⟩) hS ?_
    simp only [Act.put, lsA, lsZ, lsS]
    refine take_at (i := 9) 14 (v := .pointer (some ⟨w.heap.size + 1, 1, none⟩)) rfl rfl (by kernel_rfl) (by kernel_rfl) (by kernel_rfl) (fun _ _ _ h => h) (Or.inl ⟨by rfl, fun w' hw' => by go_simp⟩) hS ?_
    simp only [Act.put, lsA, lsZ, lsS]
    refine take_at (i := 10) 15 (v := .int .i64 N) rfl rfl (by kernel_rfl) (by kernel_rfl) (by kernel_rfl) (fun _ _ _ h => h) (Or.inl ⟨by rfl, fun w' hw' => by have x0 := hw'.1.cell 0; have x1 := hw'.1.cell 1; simp at x0 x1; go_simp⟩) hS ?_
    simp only [Act.put, lsA, lsZ, lsS]
    refine take_at (i := 11) 16 (v := .bool false) rfl rfl (by kernel_rfl) (by kernel_rfl) (by kernel_rfl) (fun _ _ _ h => h) (Or.inl ⟨by rfl, fun w' hw' => by go_simp⟩) hS ?_
    simp only [Act.put, lsA, lsZ, lsS]
    refine take_at (i := 12) 17 (v := .bool false) rfl rfl (by kernel_rfl) (by kernel_rfl) (by kernel_rfl) (fun _ _ _ h => h) (Or.inl ⟨by rfl, fun w' hw' => by go_simp⟩) hS ?_
    simp only [Act.put, lsA, lsZ, lsS]
    refine take_at (i := 13) 18 (v := .bool false) rfl rfl (by kernel_rfl) (by kernel_rfl) (by kernel_rfl) (fun _ _ _ h => h) (Or.inl ⟨by rfl, fun w' hw' => by go_simp⟩) hS ?_
    simp only [Act.put, lsA, lsZ, lsS]
    refine take_at (i := 14) 19 (v := undef) rfl rfl (by kernel_rfl) (by kernel_rfl) (by kernel_rfl) (fun _ _ _ h => h) (Or.inr ⟨by rfl, rfl⟩) hS ?_
    simp only [Act.put, lsA, lsZ, lsS]
    refine take_at (i := 15) 20 (v := undef) rfl rfl (by kernel_rfl) (by kernel_rfl) (by kernel_rfl) (fun _ _ _ h => h) (Or.inr ⟨by rfl, rfl⟩) hS ?_
    simp only [Act.put, lsA, lsZ, lsS]
    refine take_at (i := 16) 21 (v := undef) rfl rfl (by kernel_rfl) (by kernel_rfl) (by kernel_rfl) (fun _ _ _ h => h) (Or.inr ⟨by rfl, rfl⟩) hS ?_
    simp only [Act.put, lsA, lsZ, lsS]
    refine take_at (i := 17) 22 (v := undef) rfl rfl (by kernel_rfl) (by kernel_rfl) (by kernel_rfl) (fun _ _ _ h => h) (Or.inr ⟨by rfl, rfl⟩) hS ?_
    simp only [Act.put, lsA, lsZ, lsS]
    refine take_at (i := 18) 23 (v := undef) rfl rfl (by kernel_rfl) (by kernel_rfl) (by kernel_rfl) (fun _ _ _ h => h) (Or.inr ⟨by rfl, rfl⟩) hS ?_
    simp only [Act.put, lsA, lsZ, lsS]
    refine take_at (i := 19) 24 (v := undef) rfl rfl (by kernel_rfl) (by kernel_rfl) (by kernel_rfl) (fun _ _ _ h => h) (Or.inr ⟨by rfl, rfl⟩) hS ?_
    simp only [Act.put, lsA, lsZ, lsS]
    refine take_at (i := 20) 25 (v := undef) rfl rfl (by kernel_rfl) (by kernel_rfl) (by kernel_rfl) (fun _ _ _ h => h) (Or.inr ⟨by rfl, rfl⟩) hS ?_
    simp only [Act.put, lsA, lsZ, lsS]
    refine take_at (i := 21) 26 (v := .bool false) rfl rfl (by kernel_rfl) (by kernel_rfl) (by kernel_rfl) (fun _ _ _ h => h) (Or.inl ⟨by rfl, fun w' hw' => by go_simp⟩) hS ?_
    simp only [Act.put, lsA, lsZ, lsS]
    refine take_at (i := 22) 4 (v := .bool false) rfl rfl (by kernel_rfl) (by kernel_rfl) (by kernel_rfl) (fun _ _ _ h => h) (Or.inl ⟨by rfl, fun w' hw' => by go_simp⟩) hS ?_
    simp only [Act.put, lsA, lsZ, lsS]
    refine wpAnyH_done (by kernel_rfl) ?_ _
    go_wp2_with fail
    go_ret
    rw [hb.out]
    exact ⟨rfl, O.drew⟩
  ·have e0 : decide (0 ≤ n) = true := by simp; omega
   have e8 : decide (n < 8) = false := by simp; omega
   have hb : Hid (coversB f n N = false) := by show coversB f n N = _; simp [coversB]; omega
   refine take_at (i := 0) 5 (v := .pointer (some ⟨w.heap.size + 1, 0, none⟩)) rfl rfl (by kernel_rfl) (by kernel_rfl) (by kernel_rfl) (fun _ _ _ h => h) (Or.inl ⟨by rfl, fun w' hw' => by go_simp⟩) hS ?_
   simp only [Act.put, lsA, lsZ, lsS]
   refine take_at (i := 1) 6 (v := .int .i64 n) rfl rfl (by kernel_rfl) (by kernel_rfl) (by kernel_rfl) (fun _ _ _ h => h) (Or.inl ⟨by rfl, fun w' hw' => by have x0 := hw'.1.cell 0; have x1 := hw'.1.cell 1; simp at x0 x1; go_simp⟩) hS ?_
   simp only [Act.put, lsA, lsZ, lsS]
   refine take_at (i := 2) 7 (v := .bool true) rfl rfl (by kernel_rfl) (by kernel_rfl) (by kernel_rfl) (fun _ _ _ h => h) (Or.inl ⟨by rfl, fun w' hw' => by go_simp⟩) hS ?_
   simp only [Act.put, lsA, lsZ, lsS]
   refine take_at (i := 3) 8 (v := .bool true) rfl rfl (by kernel_rfl) (by kernel_rfl) (by kernel_rfl) (fun _ _ _ h => h) (Or.inl ⟨by rfl, fun w' hw' => by go_simp⟩) hS ?_
   simp only [Act.put, lsA, lsZ, lsS]
   refine take_at (i := 4) 9 (v := .pointer (some ⟨w.heap.size + 1, 0, none⟩)) rfl rfl (by kernel_rfl) (by kernel_rfl) (by kernel_rfl) (fun _ _ _ h => h) (Or.inl ⟨by rfl, fun w' hw' => by go_simp⟩) hS ?_
   simp only [Act.put, lsA, lsZ, lsS]
   refine take_at (i := 5) 10 (v := .int .i64 n) rfl rfl (by kernel_rfl) (by kernel_rfl) (by kernel_rfl) (fun _ _ _ h => h) (Or.inl ⟨by rfl, fun w' hw' => by have x0 := hw'.1.cell 0; have x1 := hw'.1.cell 1; simp at x0 x1; go_simp⟩) hS ?_
   simp only [Act.put, lsA, lsZ, lsS]
   refine take_at (i := 6) 11 (v := .bool false) rfl rfl (by kernel_rfl) (by kernel_rfl) (by kernel_rfl) (fun _ _ _ h => h) (Or.inl ⟨by rfl, fun w' hw' => by go_simp⟩) hS ?_
   simp only [Act.put, lsA, lsZ, lsS]
   refine take_at (i := 7) 12 (v := .bool false) rfl rfl (by kernel_rfl) (by kernel_rfl) (by kernel_rfl) (fun _ _ _ h => h) (Or.inl ⟨by rfl, fun w' hw' => by go_simp⟩) hS ?_
   simp only [Act.put, lsA, lsZ, lsS]
   refine take_at (i := 8) 13 (v := .bool false) rfl rfl (by kernel_rfl) (by kernel_rfl) (by kernel_rfl) (fun _ _ _ h => h) (Or.inl ⟨by rfl, fun w' hw' => by go_simp⟩) hS ?_
   simp only [Act.put, lsA, lsZ, lsS]
   refine take_at (i := 9) 14 (v := undef) rfl rfl (by kernel_rfl) (by kernel_rfl) (by kernel_rfl) (fun _ _ _ h => h) (Or.inr ⟨by rfl, rfl⟩) hS ?_
   simp only [Act.put, lsA, lsZ, lsS]
   refine take_at (i := 10) 15 (v := undef) rfl rfl (by kernel_rfl) (by kernel_rfl) (by kernel_rfl) (fun _ _ _ h => h) (Or.inr ⟨by rfl, rfl⟩) hS ?_
   simp only [Act.put, lsA, lsZ, lsS]
   refine take_at (i := 11) 16 (v := undef) rfl rfl (by kernel_rfl) (by kernel_rfl) (by kernel_rfl) (fun _ _ _ h => h) (Or.inr ⟨by rfl, rfl⟩) hS ?_
   simp only [Act.put, lsA, lsZ, lsS]
   refine take_at (i := 12) 17 (v := .bool false) rfl rfl (by kernel_rfl) (by kernel_rfl) (by kernel_rfl) (fun _ _ _ h => h) (Or.inl ⟨by rfl, fun w' hw' => by go_simp⟩) hS ?_
   simp only [Act.put, lsA, lsZ, lsS]
   refine take_at (i := 13) 18 (v := .bool false) rfl rfl (by kernel_rfl) (by kernel_rfl) (by kernel_rfl) (fun _ _ _ h => h) (Or.inl ⟨by rfl, fun w' hw' => by go_simp⟩) hS ?_
   simp only [Act.put, lsA, lsZ, lsS]
   refine take_at (i := 14) 19 (v := undef) rfl rfl (by kernel_rfl) (by kernel_rfl) (by kernel_rfl) (fun _ _ _ h => h) (Or.inr ⟨by rfl, rfl⟩) hS ?_
   simp only [Act.put, lsA, lsZ, lsS]
   refine take_at (i := 15) 20 (v := undef) rfl rfl (by kernel_rfl) (by kernel_rfl) (by kernel_rfl) (fun _ _ _ h => h) (Or.inr ⟨by rfl, rfl⟩) hS ?_
   simp only [Act.put, lsA, lsZ, lsS]
   refine take_at (i := 16) 21 (v := undef) rfl rfl (by kernel_rfl) (by kernel_rfl) (by kernel_rfl) (fun _ _ _ h => h) (Or.inr ⟨by rfl, rfl⟩) hS ?_
   simp only [Act.put, lsA, lsZ, lsS]
   refine take_at (i := 17) 22 (v := undef) rfl rfl (by kernel_rfl) (by kernel_rfl) (by kernel_rfl) (fun _ _ _ h => h) (Or.inr ⟨by rfl, rfl⟩) hS ?_
   simp only [Act.put, lsA, lsZ, lsS]
   refine take_at (i := 18) 23 (v := undef) rfl rfl (by kernel_rfl) (by kernel_rfl) (by kernel_rfl) (fun _ _ _ h => h) (Or.inr ⟨by rfl, rfl⟩) hS ?_
   simp only [Act.put, lsA, lsZ, lsS]
   refine take_at (i := 19) 24 (v := undef) rfl rfl (by kernel_rfl) (by kernel_rfl) (by kernel_rfl) (fun _ _ _ h => h) (Or.inr ⟨by rfl, rfl⟩) hS ?_
   simp only [Act.put, lsA, lsZ, lsS]
   refine take_at (i := 20) 25 (v := undef) rfl rfl (by kernel_rfl) (by kernel_rfl) (by kernel_rfl) (fun _ _ _ h => h) (Or.inr ⟨by rfl, rfl⟩) hS ?_
   simp only [Act.put, lsA, lsZ, lsS]
   refine take_at (i := 21) 26 (v := .bool false) rfl rfl (by kernel_rfl) (by kernel_rfl) (by kernel_rfl) (fun _ _ _ h => h) (Or.inl ⟨by rfl, fun w' hw' => by go_simp⟩) hS ?_
   simp only [Act.put, lsA, lsZ, lsS]
   refine take_at (i := 22) 4 (v := .bool false) rfl rfl (by kernel_rfl) (by kernel_rfl) (by kernel_rfl) (fun _ _ _ h => h) (Or.inl ⟨by rfl, fun w' hw' => by go_simp⟩) hS ?_
   simp only [Act.put, lsA, lsZ, lsS]
   refine wpAnyH_done (by kernel_rfl) ?_ _
   go_wp2_with fail
   go_ret
   rw [hb.out]
   exact ⟨rfl, O.drew⟩
 ·have e0 : decide (0 ≤ n) = false := by simp; omega
  have hb : Hid (coversB f n N = false) := by show coversB f n N = _; simp [coversB]; omega
  refine take_at (i := 0) 5 (v := .pointer (some ⟨w.heap.size + 1, 0, none⟩)) rfl rfl (by kernel_rfl) (by kernel_rfl) (by kernel_rfl) (fun _ _ _ h => h) (Or.inl ⟨by rfl, fun w' hw' => by go_simp⟩) hS ?_
  simp only [Act.put, lsA, lsZ, lsS]
  refine take_at (i := 1) 6 (v := .int .i64 n) rfl rfl (by kernel_rfl) (by kernel_rfl) (by kernel_rfl) (fun _ _ _ h => h) (Or.inl ⟨by rfl, fun w' hw' => by have x0 := hw'.1.cell 0; have x1 := hw'.1.cell 1; simp at x0 x1; go_simp⟩) hS ?_
  simp only [Act.put, lsA, lsZ, lsS]
  refine take_at (i := 2) 7 (v := .bool false) rfl rfl (by kernel_rfl) (by kernel_rfl) (by kernel_rfl) (fun _ _ _ h => h) (Or.inl ⟨by rfl, fun w' hw' => by go_simp⟩) hS ?_
  simp only [Act.put, lsA, lsZ, lsS]
  refine take_at (i := 3) 8 (v := .bool false) rfl rfl (by kernel_rfl) (by kernel_rfl) (by kernel_rfl) (fun _ _ _ h => h) (Or.inl ⟨by rfl, fun w' hw' => by go_simp⟩) hS ?_
  simp only [Act.put, lsA, lsZ, lsS]
  refine take_at (i := 4) 9 (v := undef) rfl rfl (by kernel_rfl) (by kernel_rfl) (by kernel_rfl) (fun _ _ _ h => h) (Or.inr ⟨by rfl, rfl⟩) hS ?_
  simp only [Act.put, lsA, lsZ, lsS]
  refine take_at (i := 5) 10 (v := undef) rfl rfl (by kernel_rfl) (by kernel_rfl) (by kernel_rfl) (fun _ _ _ h => h) (Or.inr ⟨by rfl, rfl⟩) hS ?_
  simp only [Act.put, lsA, lsZ, lsS]
  refine take_at (i := 6) 11 (v := undef) rfl rfl (by kernel_rfl) (by kernel_rfl) (by kernel_rfl) (fun _ _ _ h => h) (Or.inr ⟨by rfl, rfl⟩) hS ?_
  simp only [Act.put, lsA, lsZ, lsS]
  refine take_at (i := 7) 12 (v := .bool false) rfl rfl (by kernel_rfl) (by kernel_rfl) (by kernel_rfl) (fun _ _ _ h => h) (Or.inl ⟨by rfl, fun w' hw' => by go_simp⟩) hS ?_
  simp only [Act.put, lsA, lsZ, lsS]
  refine take_at (i := 8) 13 (v := .bool false) rfl rfl (by kernel_rfl) (by kernel_rfl) (by kernel_rfl) (fun _ _ _ h => h) (Or.inl ⟨by rfl, fun w' hw' => by go_simp⟩) hS ?_
  simp only [Act.put, lsA, lsZ, lsS]
  refine take_at (i := 9) 14 (v := undef) rfl rfl (by kernel_rfl) (by kernel_rfl) (by kernel_rfl) (fun _ _ _ h => h) (Or.inr ⟨by rfl, rfl⟩) hS ?_
  simp only [Act.put, lsA, lsZ, lsS]
  refine take_at (i := 10) 15 (v := undef) rfl rfl (by kernel_rfl) (by kernel_rfl) (by kernel_rfl) (fun _ _ _ h => h) (Or.inr ⟨by rfl, rfl⟩) hS ?_
  simp only [Act.put, lsA, lsZ, lsS]
  refine take_at (i := 11) 16 (v := undef) rfl rfl (by kernel_rfl) (by kernel_rfl) (by kernel_rfl) (fun _ _ _ h => h) (Or.inr ⟨by rfl, rfl⟩) hS ?_
  simp only [Act.put, lsA, lsZ, lsS]
  refine take_at (i := 12) 17 (v := .bool false) rfl rfl (by kernel_rfl) (by kernel_rfl) (by kernel_rfl) (fun _ _ _ h => h) (Or.inl ⟨by rfl, fun w' hw' => by go_simp⟩) hS ?_
  simp only [Act.put, lsA, lsZ, lsS]
  refine take_at (i := 13) 18 (v := .bool false) rfl rfl (by kernel_rfl) (by kernel_rfl) (by kernel_rfl) (fun _ _ _ h => h) (Or.inl ⟨by rfl, fun w' hw' => by go_simp⟩) hS ?_
  simp only [Act.put, lsA, lsZ, lsS]
  refine take_at (i := 14) 19 (v := undef) rfl rfl (by kernel_rfl) (by kernel_rfl) (by kernel_rfl) (fun _ _ _ h => h) (Or.inr ⟨by rfl, rfl⟩) hS ?_
  simp only [Act.put, lsA, lsZ, lsS]
  refine take_at (i := 15) 20 (v := undef) rfl rfl (by kernel_rfl) (by kernel_rfl) (by kernel_rfl) (fun _ _ _ h => h) (Or.inr ⟨by rfl, rfl⟩) hS ?_
  simp only [Act.put, lsA, lsZ, lsS]
  refine take_at (i := 16) 21 (v := undef) rfl rfl (by kernel_rfl) (by kernel_rfl) (by kernel_rfl) (fun _ _ _ h => h) (Or.inr ⟨by rfl, rfl⟩) hS ?_
  simp only [Act.put, lsA, lsZ, lsS]
  refine take_at (i := 17) 22 (v := undef) rfl rfl (by kernel_rfl) (by kernel_rfl) (by kernel_rfl) (fun _ _ _ h => h) (Or.inr ⟨by rfl, rfl⟩) hS ?_
  simp only [Act.put, lsA, lsZ, lsS]
  refine take_at (i := 18) 23 (v := undef) rfl rfl (by kernel_rfl) (by kernel_rfl) (by kernel_rfl) (fun _ _ _ h => h) (Or.inr ⟨by rfl, rfl⟩) hS ?_
  simp only [Act.put, lsA, lsZ, lsS]
  refine take_at (i := 19) 24 (v := undef) rfl rfl (by kernel_rfl) (by kernel_rfl) (by kernel_rfl) (fun _ _ _ h => h) (Or.inr ⟨by rfl, rfl⟩) hS ?_
  simp only [Act.put, lsA, lsZ, lsS]
  refine take_at (i := 20) 25 (v := undef) rfl rfl (by kernel_rfl) (by kernel_rfl) (by kernel_rfl) (fun _ _ _ h => h) (Or.inr ⟨by rfl, rfl⟩) hS ?_
  simp only [Act.put, lsA, lsZ, lsS]
  refine take_at (i := 21) 26 (v := .bool false) rfl rfl (by kernel_rfl) (by kernel_rfl) (by kernel_rfl) (fun _ _ _ h => h) (Or.inl ⟨by rfl, fun w' hw' => by go_simp⟩) hS ?_
  simp only [Act.put, lsA, lsZ, lsS]
  refine take_at (i := 22) 4 (v := .bool false) rfl rfl (by kernel_rfl) (by kernel_rfl) (by kernel_rfl) (fun _ _ _ h => h) (Or.inl ⟨by rfl, fun w' hw' => by go_simp⟩) hS ?_
  simp only [Act.put, lsA, lsZ, lsS]
  refine wpAnyH_done (by kernel_rfl) ?_ _
  go_wp2_with fail
  go_ret
  rw [hb.out]
  exact ⟨rfl, O.drew⟩
end Go.Proofs.Ytmjmgdbhmbjmaab
