/- Items of several texts. -/
import Derived.Test.YtmbphlkohlggfaaDTake
namespace Go.Proofs.Ytmbphlkohlggfaa
open Go.RowKit
def coversB (f : Nat → Int) (n N : Int) : Bool := decide (0 ≤ n ∧ n < 8 ∧ 1 ≤ N ∧ N ≤ f n.toNat)
set_option maxRecDepth 100000 in
set_option maxHeartbeats 1000000 in
theorem covers_any (f : Nat → Int) (n N : Int) (w : World) : Calls Try.prog 70 #[.agg #[.int .i64 (f 0), .int .i64 (f 1), .int .i64 (f 2), .int .i64 (f 3), .int .i64 (f 4), .int .i64 (f 5), .int .i64 (f 6), .int .i64 (f 7)], .agg #[.int .i64 n, .int .i64 N]] w fun e w' => e = .returned (.bool (coversB f n N)) ∧ Off (fun _ => False) w w' := by
 go_enter Try.func70, Try.ntmps70
 go_wp2_with fail
 obtain ⟨W, hW⟩ : ∃ W, W = ((w.alloc (.cells #[.int .i64 (f 0), .int .i64 (f 1), .int .i64 (f 2), .int .i64 (f 3), .int .i64 (f 4), .int .i64 (f 5), .int .i64 (f 6), .int .i64 (f 7)] 37)).alloc (.cells #[.int .i64 n, .int .i64 N] 42)) := ⟨_, rfl⟩
 have O : Off (fun _ => False) w W := by rw [hW]; exact ((Off.refl _ w).alloc _).alloc _
 have C0 : Cel w.heap.size 37 #[.int .i64 (f 0), .int .i64 (f 1), .int .i64 (f 2), .int .i64 (f 3), .int .i64 (f 4), .int .i64 (f 5), .int .i64 (f 6), .int .i64 (f 7)] W := by rw [hW]; exact (Cel.new w _ _).alloc _
 have C1 : Cel (w.heap.size + 1) 42 #[.int .i64 n, .int .i64 N] W := by rw [hW]; exact Cel.new1 w _ _ _
 rw [← hW]
 clear hW
 refine wp_region_held_drew (S := fun w' => Cel (w.heap.size + 1) 42 #[.int .i64 n, .int .i64 N] w' ∧ Cel w.heap.size 37 #[.int .i64 (f 0), .int .i64 (f 1), .int .i64 (f 2), .int .i64 (f 3), .int .i64 (f 4), .int .i64 (f 5), .int .i64 (f 6), .int .i64 (f 7)] w') (by kernel_rfl) ⟨C1.drew, C0.drew⟩ (fun hS => ?_)
 clear C0 C1
 by_cases h0 : nodeB n = true
 ·have hn : 0 ≤ n ∧ n < 8 := by simpa [nodeB] using h0
  by_cases h1 : 1 ≤ N
  ·have e1 : decide (1 ≤ N) = true := by simp; omega
   obtain ⟨m, hm, rfl⟩ : ∃ m : Nat, m < 8 ∧ n = (m : Int) := ⟨n.toNat, by omega, by omega⟩
   have ha := at_vec w.heap.size hm
   have hb : Hid (coversB f m N = decide (N ≤ f m)) := by
    show coversB f m N = _
    simp only [coversB, Int.toNat_natCast]
    exact decide_eq_decide.2 ⟨fun h => h.2.2.2, fun h => ⟨by omega, by omega, h1, h⟩⟩
   refine take_at (i := 0) 5 (v := .pointer (some ⟨w.heap.size + 1, 0, none⟩)) rfl rfl (by kernel_rfl) (by kernel_rfl) (by kernel_rfl) (fun _ _ _ h => h) (Or.inl ⟨by rfl, fun w' hw' => by go_simp⟩) hS ?_
   simp only [Act.put, lsA, lsZ, lsS]
   refine take_at (i := 1) 6 (v := .int .i64 (m : Int)) rfl rfl (by kernel_rfl) (by kernel_rfl) (by kernel_rfl) (fun _ _ _ h => h) (Or.inl ⟨by rfl, fun w' hw' => by have x0 := hw'.1.cell 0; have x1 := hw'.1.cell 1; simp at x0 x1; go_simp⟩) hS ?_
   simp only [Act.put, lsA, lsZ, lsS]
   refine wpAnyH_ready (rs := [2]) (by kernel_rfl) (by simp) ?_
   refine AllReadyH.cons rfl (fun K' hK' => ?_) AllReadyH.nil
   go_simp
   refine (node_any _ _).mono ?_
   rintro e v1 ⟨rfl, hw⟩
   rw [hw, h0]
   clear hw v1
   refine hK'.out _ _ hS (fun hS => ?_)
   clear hK' K'
   refine take_at (i := 3) 8 (v := .bool true) rfl rfl (by kernel_rfl) (by kernel_rfl) (by kernel_rfl) (fun _ _ _ h => h) (Or.inl ⟨by rfl, fun w' hw' => by go_simp⟩) hS ?_
   simp only [Act.put, lsA, lsZ, lsS]
   refine take_at (i := 4) 9 (v := .pointer (some ⟨w.heap.size + 1, 1, none⟩)) rfl rfl (by kernel_rfl) (by kernel_rfl) (by kernel_rfl) (fun _ _ _ h => h) (Or.inl ⟨by rfl, fun w' hw' => by go_simp⟩) hS ?_
   simp only [Act.put, lsA, lsZ, lsS]
   refine take_at (i := 5) 10 (v := .int .i64 N) rfl rfl (by kernel_rfl) (by kernel_rfl) (by kernel_rfl) (fun _ _ _ h => h) (Or.inl ⟨by rfl, fun w' hw' => by have x0 := hw'.1.cell 0; have x1 := hw'.1.cell 1; simp at x0 x1; go_simp⟩) hS ?_
   simp only [Act.put, lsA, lsZ, lsS]
   refine take_at (i := 6) 11 (v := .bool true) rfl rfl (by kernel_rfl) (by kernel_rfl) (by kernel_rfl) (fun _ _ _ h => h) (Or.inl ⟨by rfl, fun w' hw' => by go_simp⟩) hS ?_
   simp only [Act.put, lsA, lsZ, lsS]
   refine take_at (i := 7) 12 (v := .bool true) rfl rfl (by kernel_rfl) (by kernel_rfl) (by kernel_rfl) (fun _ _ _ h => h) (Or.inl ⟨by rfl, fun w' hw' => by go_simp⟩) hS ?_
   simp only [Act.put, lsA, lsZ, lsS]
   refine take_at (i := 8) 13 (v := .bool true) rfl rfl (by kernel_rfl) (by kernel_rfl) (by kernel_rfl) (fun _ _ _ h => h) (Or.inl ⟨by rfl, fun w' hw' => by go_simp⟩) hS ?_
   simp only [Act.put, lsA, lsZ, lsS]
   refine take_at (i := 9) 14 (v := .pointer (some ⟨w.heap.size + 1, 1, none⟩)) rfl rfl (by kernel_rfl) (by kernel_rfl) (by kernel_rfl) (fun _ _ _ h => h) (Or.inl ⟨by rfl, fun w' hw' => by go_simp⟩) hS ?_
   simp only [Act.put, lsA, lsZ, lsS]
   refine take_at (i := 10) 15 (v := .int .i64 N) rfl rfl (by kernel_rfl) (by kernel_rfl) (by kernel_rfl) (fun _ _ _ h => h) (Or.inl ⟨by rfl, fun w' hw' => by have x0 := hw'.1.cell 0; have x1 := hw'.1.cell 1; simp at x0 x1; go_simp⟩) hS ?_
   simp only [Act.put, lsA, lsZ, lsS]
   refine take_at (i := 11) 16 (v := .pointer (some ⟨w.heap.size + 1, 0, none⟩)) rfl rfl (by kernel_rfl) (by kernel_rfl) (by kernel_rfl) (fun _ _ _ h => h) (Or.inl ⟨by rfl, fun w' hw' => by go_simp⟩) hS ?_
   simp only [Act.put, lsA, lsZ, lsS]
   refine take_at (i := 12) 17 (v := .int .i64 (m : Int)) rfl rfl (by kernel_rfl) (by kernel_rfl) (by kernel_rfl) (fun _ _ _ h => h) (Or.inl ⟨by rfl, fun w' hw' => by have x0 := hw'.1.cell 0; have x1 := hw'.1.cell 1; simp at x0 x1; go_simp⟩) hS ?_
   simp only [Act.put, lsA, lsZ, lsS]
   refine take_at (i := 13) 18 (v := .pointer (some ⟨w.heap.size, m, none⟩)) rfl rfl (by kernel_rfl) (by kernel_rfl) (by kernel_rfl) (fun _ _ _ h => h) (Or.inl ⟨by rfl, fun w' hw' => by go_simp⟩) hS ?_
   simp only [Act.put, lsA, lsZ, lsS]
   refine take_at (i := 14) 19 (v := .int .i64 (f m)) rfl rfl (by kernel_rfl) (by kernel_rfl) (by kernel_rfl) (fun _ _ _ h => h) (Or.inl ⟨by rfl, fun w' hw' => by have x0 := (hw'.2.cell m).trans (vec_get f hm); go_simp⟩) hS ?_
   simp only [Act.put, lsA, lsZ, lsS]
   refine take_at (i := 15) 20 (v := .bool (decide (N ≤ f m))) rfl rfl (by kernel_rfl) (by kernel_rfl) (by kernel_rfl) (fun _ _ _ h => h) (Or.inl ⟨by rfl, fun w' hw' => by go_simp⟩) hS ?_
   simp only [Act.put, lsA, lsZ, lsS]
   refine take_at (i := 16) 21 (v := .bool (decide (N ≤ f m))) rfl rfl (by kernel_rfl) (by kernel_rfl) (by kernel_rfl) (fun _ _ _ h => h) (Or.inl ⟨by rfl, fun w' hw' => by go_simp⟩) hS ?_
   simp only [Act.put, lsA, lsZ, lsS]
   refine take_at (i := 17) 4 (v := .bool (decide (N ≤ f m))) rfl rfl (by kernel_rfl) (by kernel_rfl) (by kernel_rfl) (fun _ _ _ h => h) (Or.inl ⟨by rfl, fun w' hw' => by go_simp⟩) hS ?_
   simp only [Act.put, lsA, lsZ, lsS]
   refine wpAnyH_done (by kernel_rfl) ?_ _
   go_wp2_with fail
   go_ret
   rw [hb.out]
   exact ⟨rfl, O.drew⟩
  ·have e1 : decide (1 ≤ N) = false := by simp; omega
   have hb : Hid (coversB f n N = false) := by show coversB f n N = _; simp [coversB]; omega
   refine take_at (i := 0) 5 (v := .pointer (some ⟨w.heap.size + 1, 0, none⟩)) rfl rfl (by kernel_rfl) (by kernel_rfl) (by kernel_rfl) (fun _ _ _ h => h) (Or.inl ⟨by rfl, fun w' hw' => by go_simp⟩) hS ?_
   simp only [Act.put, lsA, lsZ, lsS]
   refine take_at (i := 1) 6 (v := .int .i64 n) rfl rfl (by kernel_rfl) (by kernel_rfl) (by kernel_rfl) (fun _ _ _ h => h) (Or.inl ⟨by rfl, fun w' hw' => by have x0 := hw'.1.cell 0; have x1 := hw'.1.cell 1; simp at x0 x1; go_simp⟩) hS ?_
   simp only [Act.put, lsA, lsZ, lsS]
   refine wpAnyH_ready (rs := [2]) (by kernel_rfl) (by simp) ?_
   refine AllReadyH.cons rfl (fun K' hK' => ?_) AllReadyH.nil
   go_simp
   refine (node_any _ _).mono ?_
   rintro e v1 ⟨rfl, hw⟩
   rw [hw, h0]
   clear hw v1
   refine hK'.out _ _ hS (fun hS => ?_)
   clear hK' K'
   refine take_at (i := 3) 8 (v := .bool true) rfl rfl (by kernel_rfl) (by kernel_rfl) (by kernel_rfl) (fun _ _ _ h => h) (Or.inl ⟨by rfl, fun w' hw' => by go_simp⟩) hS ?_
   simp only [Act.put, lsA, lsZ, lsS]
   refine take_at (i := 4) 9 (v := .pointer (some ⟨w.heap.size + 1, 1, none⟩)) rfl rfl (by kernel_rfl) (by kernel_rfl) (by kernel_rfl) (fun _ _ _ h => h) (Or.inl ⟨by rfl, fun w' hw' => by go_simp⟩) hS ?_
   simp only [Act.put, lsA, lsZ, lsS]
   refine take_at (i := 5) 10 (v := .int .i64 N) rfl rfl (by kernel_rfl) (by kernel_rfl) (by kernel_rfl) (fun _ _ _ h => h) (Or.inl ⟨by rfl, fun w' hw' => by have x0 := hw'.1.cell 0; have x1 := hw'.1.cell 1; simp at x0 x1; go_simp⟩) hS ?_
   simp only [Act.put, lsA, lsZ, lsS]
   refine take_at (i := 6) 11 (v := .bool false) rfl rfl (by kernel_rfl) (by kernel_rfl) (by kernel_rfl) (fun _ _ _ h => h) (Or.inl ⟨by rfl, fun w' hw' => by go_simp⟩) hS ?_
   simp only [Act.put, lsA, lsZ, lsS]
   refine take_at (i := 7) 12 (v := .bool false) rfl rfl (by kernel_rfl) (by kernel_rfl) (by kernel_rfl) (fun _ _ _ h => h) (Or.inl ⟨by rfl, fun w' hw' => by go_simp⟩) hS ?_
   simp only [Act.put, lsA, lsZ, lsS]
   refine take_at (i := 8) 13 (v := .bool false) rfl rfl (by kernel_rfl) (by kernel_rfl) (by kernel_rfl) (fun _ _ _ h => h) (Or.inl ⟨by rfl, fun w' hw' => by go_simp⟩) hS ?_
   simp only [Act.put, lsA, lsZ, lsS]
   refine take_at (i := 9) 14 (v := undef) rfl rfl (by kernel_rfl) (by kernel_rfl) (by kernel_rfl) (fun _ _ _ h => h) (Or.inr ⟨by rfl, rfl⟩) hS ?_
   simp only [Act.put, lsA, lsZ, lsS]
   refine take_at (i := 10) 15 (v := undef) rfl rfl (by kernel_rfl) (by kernel_rfl) (by kernel_rfl) (fun _ _ _ h => h) (Or.inr ⟨by rfl, rfl⟩) hS ?_
   simp only [Act.put, lsA, lsZ, lsS]
   refine take_at (i := 11) 16 (v := undef) rfl rfl (by kernel_rfl) (by kernel_rfl) (by kernel_rfl) (fun _ _ _ h => h) (Or.inr ⟨by rfl, rfl⟩) hS ?_
   simp only [Act.put, lsA, lsZ, lsS]
   refine take_at (i := 12) 17 (v := undef) rfl rfl (by kernel_rfl) (by kernel_rfl) (by kernel_rfl) (fun _ _ _ h => h) (Or.inr ⟨by rfl, rfl⟩) hS ?_
   simp only [Act.put, lsA, lsZ, lsS]
   refine take_at (i := 13) 18 (v := undef) rfl rfl (by kernel_rfl) (by kernel_rfl) (by kernel_rfl) (fun _ _ _ h => h) (Or.inr ⟨by rfl, rfl⟩) hS ?_
   simp only [Act.put, lsA, lsZ, lsS]
   refine take_at (i := 14) 19 (v := undef) rfl rfl (by kernel_rfl) (by kernel_rfl) (by kernel_rfl) (fun _ _ _ h => h) (Or.inr ⟨by rfl, rfl⟩) hS ?_
   simp only [Act.put, lsA, lsZ, lsS]
   refine take_at (i := 15) 20 (v := undef) rfl rfl (by kernel_rfl) (by kernel_rfl) (by kernel_rfl) (fun _ _ _ h => h) (Or.inr ⟨by rfl, rfl⟩) hS ?_
   simp only [Act.put, lsA, lsZ, lsS]
   refine take_at (i := 16) 21 (v := .bool false) rfl rfl (by kernel_rfl) (by kernel_rfl) (by kernel_rfl) (fun _ _ _ h => h) (Or.inl ⟨by rfl, fun w' hw' => by go_simp⟩) hS ?_
   simp only [Act.put, lsA, lsZ, lsS]
   refine take_at (i := 17) 4 (v := .bool false) rfl rfl (by kernel_rfl) (by kernel_rfl) (by kernel_rfl) (fun _ _ _ h => h) (Or.inl ⟨by rfl, fun w' hw' => by go_simp⟩) hS ?_
   simp only [Act.put, lsA, lsZ, lsS]
   refine wpAnyH_done (by kernel_rfl) ?_ _
   go_wp2_with fail
   go_ret
   rw [hb.out]
   exact ⟨rfl, O.drew⟩
 ·have h0 : nodeB n = false := by simpa using h0
  have hn : ¬ (0 ≤ n ∧ n < 8) := by simpa [nodeB] using h0
  have hb : Hid (coversB f n N = false) := by show coversB f n N = _; simp [coversB]; omega
  refine take_at (i := 0) 5 (v := .pointer (some ⟨w.heap.size + 1, 0, none⟩)) rfl rfl (by kernel_rfl) (by kernel_rfl) (by kernel_rfl) (fun _ _ _ h => h) (Or.inl ⟨by rfl, fun w' hw' => by go_simp⟩) hS ?_
  simp only [Act.put, lsA, lsZ, lsS]
  refine take_at (i := 1) 6 (v := .int .i64 n) rfl rfl (by kernel_rfl) (by kernel_rfl) (by kernel_rfl) (fun _ _ _ h => h) (Or.inl ⟨by rfl, fun w' hw' => by have x0 := hw'.1.cell 0; have x1 := hw'.1.cell 1; simp at x0 x1; go_simp⟩) hS ?_
  simp only [Act.put, lsA, lsZ, lsS]
  refine wpAnyH_ready (rs := [2]) (by kernel_rfl) (by simp) ?_
  refine AllReadyH.cons rfl (fun K' hK' => ?_) AllReadyH.nil
  go_simp
  refine (node_any _ _).mono ?_
  rintro e v1 ⟨rfl, hw⟩
  rw [hw, h0]
  clear hw v1
  refine hK'.out _ _ hS (fun hS => ?_)
  clear hK' K'
  refine take_at (i := 3) 8 (v := .bool false) rfl rfl (by kernel_rfl) (by kernel_rfl) (by kernel_rfl) (fun _ _ _ h => h) (Or.inl ⟨by rfl, fun w' hw' => by go_simp⟩) hS ?_
  simp only [Act.put, lsA, lsZ, lsS]
  refine take_at (i := 4) 9 (v := undef) rfl rfl (by kernel_rfl) (by kernel_rfl) (by kernel_rfl) (fun _ _ _ h => h) (Or.inr ⟨by rfl, rfl⟩) hS ?_
  simp only [Act.put, lsA, lsZ, lsS]
  refine take_at (i := 5) 10 (v := undef) rfl rfl (by kernel_rfl) (by kernel_rfl) (by kernel_rfl) (fun _ _ _ h => h) (Or.inr ⟨by rfl, rfl⟩) hS ?_
  simp only [Act.put, lsA, lsZ, lsS]
  refine take_at (i := 6) 11 (v := undef) rfl rfl (by kernel_rfl) (by kernel_rfl) (by kernel_rfl) (fun _ _ _ h => h) (Or.inr ⟨by rfl, rfl⟩) hS ?_
  simp only [Act.put, lsA, lsZ, lsS]
  refine take_at (i := 7) 12 (v := .bool false) rfl rfl (by kernel_rfl) (by kernel_rfl) (by kernel_rfl) (fun _ _ _ h => h) (Or.inl ⟨by rfl, fun w' hw' => by go_simp⟩) hS ?_
  simp only [Act.put, lsA, lsZ, lsS]
  refine take_at (i := 8) 13 (v := .bool false) rfl rfl (by kernel_rfl) (by kernel_rfl) (by kernel_rfl) (fun _ _ _ h => h) (Or.inl ⟨by rfl, fun w' hw' => by go_simp⟩) hS ?_
  simp only [Act.put, lsA, lsZ, lsS]
  refine take_at (i := 9) 14 (v := undef) rfl rfl (by kernel_rfl) (by kernel_rfl) (by kernel_rfl) (fun _ _ _ h => h) (Or.inr ⟨by rfl, rfl⟩) hS ?_
  simp only [Act.put, lsA, lsZ, lsS]
  refine take_at (i := 10) 15 (v := undef) rfl rfl (by kernel_rfl) (by kernel_rfl) (by kernel_rfl) (fun _ _ _ h => h) (Or.inr ⟨by rfl, rfl⟩) hS ?_
  simp only [Act.put, lsA, lsZ, lsS]
  refine take_at (i := 11) 16 (v := undef) rfl rfl (by kernel_rfl) (by kernel_rfl) (by kernel_rfl) (fun _ _ _ h => h) (Or.inr ⟨by rfl, rfl⟩) hS ?_
  simp only [Act.put, lsA, lsZ, lsS]
  refine take_at (i := 12) 17 (v := undef) rfl rfl (by kernel_rfl) (by kernel_rfl) (by kernel_rfl) (fun _ _ _ h => h) (Or.inr ⟨by rfl, rfl⟩) hS ?_
  simp only [Act.put, lsA, lsZ, lsS]
  refine take_at (i := 13) 18 (v := undef) rfl rfl (by kernel_rfl) (by kernel_rfl) (by kernel_rfl) (fun _ _ _ h => h) (Or.inr ⟨by rfl, rfl⟩) hS ?_
  simp only [Act.put, lsA, lsZ, lsS]
  refine take_at (i := 14) 19 (v := undef) rfl rfl (by kernel_rfl) (by kernel_rfl) (by kernel_rfl) (fun _ _ _ h => h) (Or.inr ⟨by rfl, rfl⟩) hS ?_
  simp only [Act.put, lsA, lsZ, lsS]
  refine take_at (i := 15) 20 (v := undef) rfl rfl (by kernel_rfl) (by kernel_rfl) (by kernel_rfl) (fun _ _ _ h => h) (Or.inr ⟨by rfl, rfl⟩) hS ?_
  simp only [Act.put, lsA, lsZ, lsS]
  refine take_at (i := 16) 21 (v := .bool false) rfl rfl (by kernel_rfl) (by kernel_rfl) (by kernel_rfl) (fun _ _ _ h => h) (Or.inl ⟨by rfl, fun w' hw' => by go_simp⟩) hS ?_
  simp only [Act.put, lsA, lsZ, lsS]
  refine take_at (i := 17) 4 (v := .bool false) rfl rfl (by kernel_rfl) (by kernel_rfl) (by kernel_rfl) (fun _ _ _ h => h) (Or.inl ⟨by rfl, fun w' hw' => by go_simp⟩) hS ?_
  simp only [Act.put, lsA, lsZ, lsS]
  refine wpAnyH_done (by kernel_rfl) ?_ _
  go_wp2_with fail
  go_ret
  rw [hb.out]
  exact ⟨rfl, O.drew⟩
end Go.Proofs.Ytmbphlkohlggfaa

namespace Go.Proofs.Ytmbphlkohlggfaa
open Go.RowKit
structure A where
 node : Int
 num : Int
 data : List Nat
 dead : Bool
structure V where
 node : Int
 num : Int
 ad : Option Addr
 cap : Nat
 data : List Nat
 dead : Bool
def V.abs (v : V) : A := ⟨v.node, v.num, v.data, v.dead⟩
def cont (l : List V) : List A := l.map V.abs
theorem cont_len (l : List V) : (cont l).length = l.length := by simp [cont]
structure VOk (w : World) (v : V) : Prop where
 src : Src w v.ad v.cap v.data
 lt : ∀ x ∈ v.data, x < 256
 n0 : -9223372036854775808 ≤ v.node
 n1 : v.node ≤ 9223372036854775807
 m0 : -9223372036854775808 ≤ v.num
 m1 : v.num ≤ 9223372036854775807
 len : v.data.length ≤ 140737488351232
structure At4 (w : World) (b o : Nat) (v : V) : Prop where
 c0 : w.cell? ⟨b, o, none⟩ = some (.int .i64 v.node)
 c1 : w.cell? ⟨b, o + 1, none⟩ = some (.int .i64 v.num)
 c2 : w.cell? ⟨b, o + 2, none⟩ = some (.slice v.ad v.data.length v.cap)
 c3 : w.cell? ⟨b, o + 3, none⟩ = some (.bool v.dead)
structure Row (w : World) (a : Option Addr) (cap : Nat) (l : List V) : Prop where
 len : l.length ≤ cap
 bound : cap ≤ 9223372036854775807
 at_ : ∀ i v, l[i]? = some v → ∃ b off, a = some ⟨b, off, none⟩ ∧ At4 w b (off + i * 4) v ∧ VOk w v
theorem VOk.off {D : Nat → Prop} {w w' : World} {v : V} (h : VOk w v) (o : Off D w w') (hD : ∀ c, c < w.heap.size → blk v.ad = some c → ¬ D c) : VOk w' v :=
 ⟨h.src.off o hD, h.lt, h.n0, h.n1, h.m0, h.m1, h.len⟩
theorem At4.off {D : Nat → Prop} {w w' : World} {b o : Nat} {v : V} (h : At4 w b o v) (k : Off D w w') (hD : b < w.heap.size → ¬ D b) : At4 w' b o v := by
 have e : ∀ j u, w.cell? ⟨b, j, none⟩ = some u → w'.cell? ⟨b, j, none⟩ = some u := fun j u e => by
  have := cell_lt e
  rw [← e]
  exact World.cell?_of_block (a := ⟨b, j, none⟩) (k.block b this (hD this))
 exact ⟨e _ _ h.c0, e _ _ h.c1, e _ _ h.c2, e _ _ h.c3⟩
theorem Row.off {w w' : World} {a : Option Addr} {cap : Nat} {l : List V} (h : Row w a cap l) (o : Off (fun _ => False) w w') : Row w' a cap l :=
 ⟨h.len, h.bound, fun i v hv => by
  obtain ⟨b, off, e, h1, h2⟩ := h.at_ i v hv
  exact ⟨b, off, e, h1.off o (fun _ h => h), h2.off o (fun _ _ _ h => h)⟩⟩
theorem Row.offD {D : Nat → Prop} {w w' : World} {a : Option Addr} {cap : Nat} {l : List V} (h : Row w a cap l) (o : Off D w w') (ha : ∀ c, c < w.heap.size → blk a = some c → ¬ D c) (hv : ∀ v ∈ l, ∀ c, c < w.heap.size → blk v.ad = some c → ¬ D c) : Row w' a cap l :=
 ⟨h.len, h.bound, fun i v hi => by
  obtain ⟨b, off, e, h1, h2⟩ := h.at_ i v hi
  exact ⟨b, off, e, h1.off o (fun hb => ha b hb (by rw [e]; rfl)), h2.off o (hv v (List.mem_of_getElem? hi))⟩⟩
theorem Row.nil (w : World) (a : Option Addr) (cap : Nat) (h : cap ≤ 9223372036854775807) : Row w a cap [] := ⟨by simp, h, fun i v h => by simp at h⟩
theorem Row.ok {w : World} {a : Option Addr} {cap : Nat} {l : List V} (h : Row w a cap l) : ∀ v ∈ l, VOk w v := by
 intro v hv
 obtain ⟨i, hi⟩ := List.getElem?_of_mem hv
 obtain ⟨_, _, _, _, h⟩ := h.at_ i v hi
 exact h
theorem Try.infoV : (Try.prog.info? 44).map (fun i => (i.zero, i.size, i.bytes)) = some (some (.agg #[.int .i64 0, .int .i64 0, .slice none 0 0, .bool false]), 4, 48) := by kernel_rfl
theorem cel9 {b : Nat} {t : TypeId} {f : Nat → Int} {s : Value} {w : World} (h : Cel b t #[.int .i64 (f 0), .int .i64 (f 1), .int .i64 (f 2), .int .i64 (f 3), .int .i64 (f 4), .int .i64 (f 5), .int .i64 (f 6), .int .i64 (f 7), s] w) : w.cell? ⟨b, 0, none⟩ = some (.int .i64 (f 0)) ∧ w.cell? ⟨b, 1, none⟩ = some (.int .i64 (f 1)) ∧ w.cell? ⟨b, 2, none⟩ = some (.int .i64 (f 2)) ∧ w.cell? ⟨b, 3, none⟩ = some (.int .i64 (f 3)) ∧ w.cell? ⟨b, 4, none⟩ = some (.int .i64 (f 4)) ∧ w.cell? ⟨b, 5, none⟩ = some (.int .i64 (f 5)) ∧ w.cell? ⟨b, 6, none⟩ = some (.int .i64 (f 6)) ∧ w.cell? ⟨b, 7, none⟩ = some (.int .i64 (f 7)) ∧ w.cell? ⟨b, 8, none⟩ = some s :=
 ⟨h.cell 0, h.cell 1, h.cell 2, h.cell 3, h.cell 4, h.cell 5, h.cell 6, h.cell 7, h.cell 8⟩
theorem cel4 {b : Nat} {t : TypeId} {v : V} {w : World} (h : Cel b t #[.int .i64 v.node, .int .i64 v.num, .slice v.ad v.data.length v.cap, .bool v.dead] w) : w.cell? ⟨b, 0, none⟩ = some (.int .i64 v.node) ∧ w.cell? ⟨b, 1, none⟩ = some (.int .i64 v.num) ∧ w.cell? ⟨b, 2, none⟩ = some (.slice v.ad v.data.length v.cap) ∧ w.cell? ⟨b, 3, none⟩ = some (.bool v.dead) :=
 ⟨h.cell 0, h.cell 1, h.cell 2, h.cell 3⟩
def okData (n : Nat) (dead : Bool) : Bool := if dead then decide (n = 0) else decide (n ≤ 200)
theorem mayData_any (a : Option Addr) (n cap : Nat) (dead : Bool) (w : World) : Calls Try.prog 106 #[.slice a n cap, .bool dead] w fun e w' => e = .returned (.bool (okData n dead)) ∧ w' = w := by
 cases dead
 ·by_cases h : n ≤ 200
  ·have e1 : decide ((n : Int) ≤ 200) = true := by simp; omega
   have e2 : decide (n ≤ 200) = true := by simp; omega
   go_enter Try.func106, Try.ntmps106
   go_wp2
   go_ret
   exact ⟨by simp [okData, h], rfl⟩
  ·have e1 : decide ((n : Int) ≤ 200) = false := by simp; omega
   have e2 : decide (n ≤ 200) = false := by simp; omega
   go_enter Try.func106, Try.ntmps106
   go_wp2
   go_ret
   exact ⟨by simp [okData, h], rfl⟩
 ·by_cases h : n = 0
  ·subst h
   go_enter Try.func106, Try.ntmps106
   go_wp2
   go_ret
   exact ⟨by simp [okData], rfl⟩
  ·have e1 : ((n : Int) == 0) = false := by rw [beq_eq_false_iff_ne]; omega
   go_enter Try.func106, Try.ntmps106
   go_wp2
   go_ret
   exact ⟨by simp [okData, h], rfl⟩
end Go.Proofs.Ytmbphlkohlggfaa
