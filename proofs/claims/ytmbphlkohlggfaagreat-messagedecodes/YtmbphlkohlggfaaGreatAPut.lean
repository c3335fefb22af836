/- Items of several texts. -/
import Derived.Lib.Bytealg
import Derived.Lib.BytesEntry
import Derived.Laws.Externs
import Derived.Deep.RegionWith
import Derived.Deep.Cut
import Derived.Test.YtmbphlkohlggfaaGreatATake
namespace Go.Proofs.YtmbphlkohlggfaaGreat
open Go.RowKit
def coversB (f : Nat → Int) (n N : Int) : Bool := decide (0 ≤ n ∧ n < 8 ∧ 1 ≤ N ∧ N ≤ f n.toNat)
set_option maxRecDepth 100000 in
set_option maxHeartbeats 1000000 in
theorem covers_any (f : Nat → Int) (n N : Int) (w : World) : Calls Tryz.prog 103 #[.agg #[.int .i64 (f 0), .int .i64 (f 1), .int .i64 (f 2), .int .i64 (f 3), .int .i64 (f 4), .int .i64 (f 5), .int .i64 (f 6), .int .i64 (f 7)], .agg #[.int .i64 n, .int .i64 N]] w fun e w' => e = .returned (.bool (coversB f n N)) ∧ Off (fun _ => False) w w' := by
 go_enter Tryz.func103, Tryz.ntmps103
 go_wp2_with fail
 obtain ⟨W, hW⟩ : ∃ W, W = ((w.alloc (.cells #[.int .i64 (f 0), .int .i64 (f 1), .int .i64 (f 2), .int .i64 (f 3), .int .i64 (f 4), .int .i64 (f 5), .int .i64 (f 6), .int .i64 (f 7)] 41)).alloc (.cells #[.int .i64 n, .int .i64 N] 93)) := ⟨_, rfl⟩
 have O : Off (fun _ => False) w W := by rw [hW]; exact ((Off.refl _ w).alloc _).alloc _
 have C0 : Cel w.heap.size 41 #[.int .i64 (f 0), .int .i64 (f 1), .int .i64 (f 2), .int .i64 (f 3), .int .i64 (f 4), .int .i64 (f 5), .int .i64 (f 6), .int .i64 (f 7)] W := by rw [hW]; exact (Cel.new w _ _).alloc _
 have C1 : Cel (w.heap.size + 1) 93 #[.int .i64 n, .int .i64 N] W := by rw [hW]; exact Cel.new1 w _ _ _
 rw [← hW]
 clear hW
 refine wp_region_held_drew (S := fun w' => Cel (w.heap.size + 1) 93 #[.int .i64 n, .int .i64 N] w' ∧ Cel w.heap.size 41 #[.int .i64 (f 0), .int .i64 (f 1), .int .i64 (f 2), .int .i64 (f 3), .int .i64 (f 4), .int .i64 (f 5), .int .i64 (f 6), .int .i64 (f 7)] w') (by kernel_rfl) ⟨C1.drew, C0.drew⟩ (fun hS => ?_)
 clear C0 C1
 by_cases h0 : nodeB n = true
 ·have hn : 0 ≤ n ∧ n < 8 := by simpa [nodeB] using h0
  by_cases h1 : 1 ≤ N
  ·have e1 : decide (1 ≤ N) = true := by simp; omega
   obtain ⟨m, hm, rfl⟩ : ∃ m : Nat, m < 8 ∧ n = (m : Int) := ⟨n.toNat, by omega, by omega⟩
   have ha := at_vec w.heap.size hm
   have hb : Hid (coversB f m N = decide (N ≤ f m)) := by
    show coversB f m N = _
    simp only [coversB, Int.toNat_natCast]
    exact decide_eq_decide.2 ⟨fun h => h.2.2.2, fun h => ⟨by omega, by omega, h1, h⟩⟩
   refine take_at (i := 0) 5 (v := .pointer (some ⟨w.heap.size + 1, 0, none⟩)) rfl rfl (by kernel_rfl) (by kernel_rfl) (by kernel_rfl) (fun _ _ _ h => h) (Or.inl ⟨by rfl, fun w' hw' => by go_simp⟩) hS ?_
   simp only [Act.put, lsA, lsZ, lsS]
   refine take_at (i := 1) 6 (v := .int .i64 (m : Int)) rfl rfl (by kernel_rfl) (by kernel_rfl) (by kernel_rfl) (fun _ _ _ h => h) (Or.inl ⟨by rfl, fun w' hw' => by have x0 := hw'.1.cell 0; have x1 := hw'.1.cell 1; simp at x0 x1; go_simp⟩) hS ?_
   simp only [Act.put, lsA, lsZ, lsS]
   refine wpAnyH_ready (rs := [2]) (by kernel_rfl) (by simp) ?_
   refine AllReadyH.cons rfl (fun K' hK' => ?_) AllReadyH.nil
   go_simp
   refine (node_any _ _).mono ?_
   rintro e v1 ⟨rfl, hw⟩
   rw [hw, h0]
   clear hw v1
   refine hK'.out _ _ hS (fun hS => ?_)
   clear hK' K'
   refine take_at (i := 3) 8 (v := .bool true) rfl rfl (by kernel_rfl) (by kernel_rfl) (by kernel_rfl) (fun _ _ _ h => h) (Or.inl ⟨by rfl, fun w' hw' => by go_simp⟩) hS ?_
   simp only [Act.put, lsA, lsZ, lsS]
   refine take_at (i := 4) 9 (v := .pointer (some ⟨w.heap.size + 1, 1, none⟩)) rfl rfl (by kernel_rfl) (by kernel_rfl) (by kernel_rfl) (fun _ _ _ h => h) (Or.inl ⟨by rfl, fun w' hw' => by go_simp⟩) hS ?_
   simp only [Act.put, lsA, lsZ, lsS]
   refine take_at (i := 5) 10 (v := .int .i64 N) rfl rfl (by kernel_rfl) (by kernel_rfl) (by kernel_rfl) (fun _ _ _ h => h) (Or.inl ⟨by rfl, fun w' hw' => by have x0 := hw'.1.cell 0; have x1 := hw'.1.cell 1; simp at x0 x1; go_simp⟩) hS ?_
   simp only [Act.put, lsA, lsZ, lsS]
   refine take_at (i := 6) 11 (v := .bool true) rfl rfl (by kernel_rfl) (by kernel_rfl) (by kernel_rfl) (fun _ _ _ h => h) (Or.inl ⟨by rfl, fun w' hw' => by go_simp⟩) hS ?_
   simp only [Act.put, lsA, lsZ, lsS]
   refine take_at (i := 7) 12 (v := .bool true) rfl rfl (by kernel_rfl) (by kernel_rfl) (by kernel_rfl) (fun _ _ _ h => h) (Or.inl ⟨by rfl, fun w' hw' => by go_simp⟩) hS ?_
   simp only [Act.put, lsA, lsZ, lsS]
   refine take_at (i := 8) 13 (v := .bool true) rfl rfl (by kernel_rfl) (by kernel_rfl) (by kernel_rfl) (fun _ _ _ h => h) (Or.inl ⟨by rfl, fun w' hw' => by go_simp⟩) hS ?_
   simp only [Act.put, lsA, lsZ, lsS]
   refine take_at (i := 9) 14 (v := .pointer (some ⟨w.heap.size + 1, 1, none⟩)) rfl rfl (by kernel_rfl) (by kernel_rfl) (by kernel_rfl) (fun _ _ _ h => h) (Or.inl ⟨by rfl, fun w' hw' => by go_simp⟩) hS ?_
   simp only [Act.put, lsA, lsZ, lsS]
   refine take_at (i := 10) 15 (v := .int .i64 N) rfl rfl (by kernel_rfl) (by kernel_rfl) (by kernel_rfl) (fun _ _ _ h => h) (Or.inl ⟨by rfl, fun w' hw' => by have x0 := hw'.1.cell 0; have x1 := hw'.1.cell 1; simp at x0 x1; go_simp⟩) hS ?_
   simp only [Act.put, lsA, lsZ, lsS]
   refine take_at (i := 11) 16 (v := .pointer (some ⟨w.heap.size + 1, 0, none⟩)) rfl rfl (by kernel_rfl) (by kernel_rfl) (by kernel_rfl) (fun _ _ _ h => h) (Or.inl ⟨by rfl, fun w' hw' => by go_simp⟩) hS ?_
   simp only [Act.put, lsA, lsZ, lsS]
   refine take_at (i := 12) 17 (v := .int .i64 (m : Int)) rfl rfl (by kernel_rfl) (by kernel_rfl) (by kernel_rfl) (fun _ _ _ h => h) (Or.inl ⟨by rfl, fun w' hw' => by have x0 := hw'.1.cell 0; have x1 := hw'.1.cell 1; simp at x0 x1; go_simp⟩) hS ?_
   simp only [Act.put, lsA, lsZ, lsS]
   refine take_at (i := 13) 18 (v := .pointer (some ⟨w.heap.size, m, none⟩)) rfl rfl (by kernel_rfl) (by kernel_rfl) (by kernel_rfl) (fun _ _ _ h => h) (Or.inl ⟨by rfl, fun w' hw' => by go_simp⟩) hS ?_
   simp only [Act.put, lsA, lsZ, lsS]
   refine take_at (i := 14) 19 (v := .int .i64 (f m)) rfl rfl (by kernel_rfl) (by kernel_rfl) (by kernel_rfl) (fun _ _ _ h => h) (Or.inl ⟨by rfl, fun w' hw' => by have x0 := (hw'.2.cell m).trans (vec_get f hm); go_simp⟩) hS ?_
   simp only [Act.put, lsA, lsZ, lsS]
   refine take_at (i := 15) 20 (v := .bool (decide (N ≤ f m))) rfl rfl (by kernel_rfl) (by kernel_rfl) (by kernel_rfl) (fun _ _ _ h => h) (Or.inl ⟨by rfl, fun w' hw' => by go_simp⟩) hS ?_
   simp only [Act.put, lsA, lsZ, lsS]
   refine take_at (i := 16) 21 (v := .bool (decide (N ≤ f m))) rfl rfl (by kernel_rfl) (by kernel_rfl) (by kernel_rfl) (fun _ _ _ h => h) (Or.inl ⟨by rfl, fun w' hw' => by go_simp⟩) hS ?_
   simp only [Act.put, lsA, lsZ, lsS]
   refine take_at (i := 17) 4 (v := .bool (decide (N ≤ f m))) rfl rfl (by kernel_rfl) (by kernel_rfl) (by kernel_rfl) (fun _ _ _ h => h) (Or.inl ⟨by rfl, fun w' hw' => by go_simp⟩) hS ?_
   simp only [Act.put, lsA, lsZ, lsS]
   refine wpAnyH_done (by kernel_rfl) ?_ _
   go_wp2_with fail
   go_ret
   rw [hb.out]
   exact ⟨rfl, O.drew⟩
  ·have e1 : decide (1 ≤ N) = false := by simp; omega
   have hb : Hid (coversB f n N = false) := by show coversB f n N = _; simp [coversB]; omega
   refine take_at (i := 0) 5 (v := .pointer (some ⟨w.heap.size + 1, 0, none⟩)) rfl rfl (by kernel_rfl) (by kernel_rfl) (by kernel_rfl) (fun _ _ _ h => h) (Or.inl ⟨by rfl, fun w' hw' => by go_simp⟩) hS ?_
   simp only [Act.put, lsA, lsZ, lsS]
   refine take_at (i := 1) 6 (v := .int .i64 n) rfl rfl (by kernel_rfl) (by kernel_rfl) (by kernel_rfl) (fun _ _ _ h => h) (Or.inl ⟨by rfl, fun w' hw' => by have x0 := hw'.1.cell 0; have x1 := hw'.1.cell 1; simp at x0 x1; go_simp⟩) hS ?_
   simp only [Act.put, lsA, lsZ, lsS]
   refine wpAnyH_ready (rs := [2]) (by kernel_rfl) (by simp) ?_
   refine AllReadyH.cons rfl (fun K' hK' => ?_) AllReadyH.nil
   go_simp
   refine (node_any _ _).mono ?_
   rintro e v1 ⟨rfl, hw⟩
   rw [hw, h0]
   clear hw v1
   refine hK'.out _ _ hS (fun hS => ?_)
   clear hK' K'
   refine take_at (i := 3) 8 (v := .bool true) rfl rfl (by kernel_rfl) (by kernel_rfl) (by kernel_rfl) (fun _ _ _ h => h) (Or.inl ⟨by rfl, fun w' hw' => by go_simp⟩) hS ?_
   simp only [Act.put, lsA, lsZ, lsS]
   refine take_at (i := 4) 9 (v := .pointer (some ⟨w.heap.size + 1, 1, none⟩)) rfl rfl (by kernel_rfl) (by kernel_rfl) (by kernel_rfl) (fun _ _ _ h => h) (Or.inl ⟨by rfl, fun w' hw' => by go_simp⟩) hS ?_
   simp only [Act.put, lsA, lsZ, lsS]
   refine take_at (i := 5) 10 (v := .int .i64 N) rfl rfl (by kernel_rfl) (by kernel_rfl) (by kernel_rfl) (fun _ _ _ h => h) (Or.inl ⟨by rfl, fun w' hw' => by have x0 := hw'.1.cell 0; have x1 := hw'.1.cell 1; simp at x0 x1; go_simp⟩) hS ?_
   simp only [Act.put, lsA, lsZ, lsS]
   refine take_at (i := 6) 11 (v := .bool false) rfl rfl (by kernel_rfl) (by kernel_rfl) (by kernel_rfl) (fun _ _ _ h => h) (Or.inl ⟨by rfl, fun w' hw' => by go_simp⟩) hS ?_
   simp only [Act.put, lsA, lsZ, lsS]
   refine take_at (i := 7) 12 (v := .bool false) rfl rfl (by kernel_rfl) (by kernel_rfl) (by kernel_rfl) (fun _ _ _ h => h) (Or.inl ⟨by rfl, fun w' hw' => by go_simp⟩) hS ?_
   simp only [Act.put, lsA, lsZ, lsS]
   refine take_at (i := 8) 13 (v := .bool false) rfl rfl (by kernel_rfl) (by kernel_rfl) (by kernel_rfl) (fun _ _ _ h => h) (Or.inl ⟨by rfl, fun w' hw' => by go_simp⟩) hS ?_
   simp only [Act.put, lsA, lsZ, lsS]
   refine take_at (i := 9) 14 (v := undef) rfl rfl (by kernel_rfl) (by kernel_rfl) (by kernel_rfl) (fun _ _ _ h => h) (Or.inr ⟨by rfl, rfl⟩) hS ?_
   simp only [Act.put, lsA, lsZ, lsS]
   refine take_at (i := 10) 15 (v := undef) rfl rfl (by kernel_rfl) (by kernel_rfl) (by kernel_rfl) (fun _ _ _ h => h) (Or.inr ⟨by rfl, rfl⟩) hS ?_
   simp only [Act.put, lsA, lsZ, lsS]
   refine take_at (i := 11) 16 (v := undef) rfl rfl (by kernel_rfl) (by kernel_rfl) (by kernel_rfl) (fun _ _ _ h => h) (Or.inr ⟨by rfl, rfl⟩) hS ?_
   simp only [Act.put, lsA, lsZ, lsS]
   refine take_at (i := 12) 17 (v := undef) rfl rfl (by kernel_rfl) (by kernel_rfl) (by kernel_rfl) (fun _ _ _ h => h) (Or.inr ⟨by rfl, rfl⟩) hS ?_
   simp only [Act.put, lsA, lsZ, lsS]
   refine take_at (i := 13) 18 (v := undef) rfl rfl (by kernel_rfl) (by kernel_rfl) (by kernel_rfl) (fun _ _ _ h => h) (Or.inr ⟨by rfl, rfl⟩) hS ?_
   simp only [Act.put, lsA, lsZ, lsS]
   refine take_at (i := 14) 19 (v := undef) rfl rfl (by kernel_rfl) (by kernel_rfl) (by kernel_rfl) (fun _ _ _ h => h) (Or.inr ⟨by rfl, rfl⟩) hS ?_
   simp only [Act.put, lsA, lsZ, lsS]
   refine take_at (i := 15) 20 (v := undef) rfl rfl (by kernel_rfl) (by kernel_rfl) (by kernel_rfl) (fun _ _ _ h => h) (Or.inr ⟨by rfl, rfl⟩) hS ?_
   simp only [Act.put, lsA, lsZ, lsS]
   refine take_at (i := 16) 21 (v := .bool false) rfl rfl (by kernel_rfl) (by kernel_rfl) (by kernel_rfl) (fun _ _ _ h => h) (Or.inl ⟨by rfl, fun w' hw' => by go_simp⟩) hS ?_
   simp only [Act.put, lsA, lsZ, lsS]
   refine take_at (i := 17) 4 (v := .bool false) rfl rfl (by kernel_rfl) (by kernel_rfl) (by kernel_rfl) (fun _ _ _ h => h) (Or.inl ⟨by rfl, fun w' hw' => by go_simp⟩) hS ?_
   simp only [Act.put, lsA, lsZ, lsS]
   refine wpAnyH_done (by kernel_rfl) ?_ _
   go_wp2_with fail
   go_ret
   rw [hb.out]
   exact ⟨rfl, O.drew⟩
 ·have h0 : nodeB n = false := by simpa using h0
  have hn : ¬ (0 ≤ n ∧ n < 8) := by simpa [nodeB] using h0
  have hb : Hid (coversB f n N = false) := by show coversB f n N = _; simp [coversB]; omega
  refine take_at (i := 0) 5 (v := .pointer (some ⟨w.heap.size + 1, 0, none⟩)) rfl rfl (by kernel_rfl) (by kernel_rfl) (by kernel_rfl) (fun _ _ _ h => h) (Or.inl ⟨by rfl, fun w' hw' => by go_simp⟩) hS ?_
  simp only [Act.put, lsA, lsZ, lsS]
  refine take_at (i := 1) 6 (v := .int .i64 n) rfl rfl (by kernel_rfl) (by kernel_rfl) (by kernel_rfl) (fun _ _ _ h => h) (Or.inl ⟨by rfl, fun w' hw' => by have x0 := hw'.1.cell 0; have x1 := hw'.1.cell 1; simp at x0 x1; go_simp⟩) hS ?_
  simp only [Act.put, lsA, lsZ, lsS]
  refine wpAnyH_ready (rs := [2]) (by kernel_rfl) (by simp) ?_
  refine AllReadyH.cons rfl (fun K' hK' => ?_) AllReadyH.nil
  go_simp
  refine (node_any _ _).mono ?_
  rintro e v1 ⟨rfl, hw⟩
  rw [hw, h0]
  clear hw v1
  refine hK'.out _ _ hS (fun hS => ?_)
  clear hK' K'
  refine take_at (i := 3) 8 (v := .bool false) rfl rfl (by kernel_rfl) (by kernel_rfl) (by kernel_rfl) (fun _ _ _ h => h) (Or.inl ⟨by rfl, fun w' hw' => by go_simp⟩) hS ?_
  simp only [Act.put, lsA, lsZ, lsS]
  refine take_at (i := 4) 9 (v := undef) rfl rfl (by kernel_rfl) (by kernel_rfl) (by kernel_rfl) (fun _ _ _ h => h) (Or.inr ⟨by rfl, rfl⟩) hS ?_
  simp only [Act.put, lsA, lsZ, lsS]
  refine take_at (i := 5) 10 (v := undef) rfl rfl (by kernel_rfl) (by kernel_rfl) (by kernel_rfl) (fun _ _ _ h => h) (Or.inr ⟨by rfl, rfl⟩) hS ?_
  simp only [Act.put, lsA, lsZ, lsS]
  refine take_at (i := 6) 11 (v := undef) rfl rfl (by kernel_rfl) (by kernel_rfl) (by kernel_rfl) (fun _ _ _ h => h) (Or.inr ⟨by rfl, rfl⟩) hS ?_
  simp only [Act.put, lsA, lsZ, lsS]
  refine take_at (i := 7) 12 (v := .bool false) rfl rfl (by kernel_rfl) (by kernel_rfl) (by kernel_rfl) (fun _ _ _ h => h) (Or.inl ⟨by rfl, fun w' hw' => by go_simp⟩) hS ?_
  simp only [Act.put, lsA, lsZ, lsS]
  refine take_at (i := 8) 13 (v := .bool false) rfl rfl (by kernel_rfl) (by kernel_rfl) (by kernel_rfl) (fun _ _ _ h => h) (Or.inl ⟨by rfl, fun w' hw' => by go_simp⟩) hS ?_
  simp only [Act.put, lsA, lsZ, lsS]
  refine take_at (i := 9) 14 (v := undef) rfl rfl (by kernel_rfl) (by kernel_rfl) (by kernel_rfl) (fun _ _ _ h => h) (Or.inr ⟨by rfl, rfl⟩) hS ?_
  simp only [Act.put, lsA, lsZ, lsS]
  refine take_at (i := 10) 15 (v := undef) rfl rfl (by kernel_rfl) (by kernel_rfl) (by kernel_rfl) (fun _ _ _ h => h) (Or.inr ⟨by rfl, rfl⟩) hS ?_
  simp only [Act.put, lsA, lsZ, lsS]
  refine take_at (i := 11) 16 (v := undef) rfl rfl (by kernel_rfl) (by kernel_rfl) (by kernel_rfl) (fun _ _ _ h => h) (Or.inr ⟨by rfl, rfl⟩) hS ?_
  simp only [Act.put, lsA, lsZ, lsS]
  refine take_at (i := 12) 17 (v := undef) rfl rfl (by kernel_rfl) (by kernel_rfl) (by kernel_rfl) (fun _ _ _ h => h) (Or.inr ⟨by rfl, rfl⟩) hS ?_
  simp only [Act.put, lsA, lsZ, lsS]
  refine take_at (i := 13) 18 (v := undef) rfl rfl (by kernel_rfl) (by kernel_rfl) (by kernel_rfl) (fun _ _ _ h => h) (Or.inr ⟨by rfl, rfl⟩) hS ?_
  simp only [Act.put, lsA, lsZ, lsS]
  refine take_at (i := 14) 19 (v := undef) rfl rfl (by kernel_rfl) (by kernel_rfl) (by kernel_rfl) (fun _ _ _ h => h) (Or.inr ⟨by rfl, rfl⟩) hS ?_
  simp only [Act.put, lsA, lsZ, lsS]
  refine take_at (i := 15) 20 (v := undef) rfl rfl (by kernel_rfl) (by kernel_rfl) (by kernel_rfl) (fun _ _ _ h => h) (Or.inr ⟨by rfl, rfl⟩) hS ?_
  simp only [Act.put, lsA, lsZ, lsS]
  refine take_at (i := 16) 21 (v := .bool false) rfl rfl (by kernel_rfl) (by kernel_rfl) (by kernel_rfl) (fun _ _ _ h => h) (Or.inl ⟨by rfl, fun w' hw' => by go_simp⟩) hS ?_
  simp only [Act.put, lsA, lsZ, lsS]
  refine take_at (i := 17) 4 (v := .bool false) rfl rfl (by kernel_rfl) (by kernel_rfl) (by kernel_rfl) (fun _ _ _ h => h) (Or.inl ⟨by rfl, fun w' hw' => by go_simp⟩) hS ?_
  simp only [Act.put, lsA, lsZ, lsS]
  refine wpAnyH_done (by kernel_rfl) ?_ _
  go_wp2_with fail
  go_ret
  rw [hb.out]
  exact ⟨rfl, O.drew⟩
end Go.Proofs.YtmbphlkohlggfaaGreat

namespace Go.Proofs.YtmbphlkohlggfaaGreat
open Go.RowKit
structure A where
 node : Int
 num : Int
 data : List Nat
 dead : Bool
structure V where
 node : Int
 num : Int
 ad : Option Addr
 cap : Nat
 data : List Nat
 dead : Bool
def V.abs (v : V) : A := ⟨v.node, v.num, v.data, v.dead⟩
def cont (l : List V) : List A := l.map V.abs
theorem cont_len (l : List V) : (cont l).length = l.length := by simp [cont]
structure VOk (w : World) (v : V) : Prop where
 src : Src w v.ad v.cap v.data
 lt : ∀ x ∈ v.data, x < 256
 n0 : -9223372036854775808 ≤ v.node
 n1 : v.node ≤ 9223372036854775807
 m0 : -9223372036854775808 ≤ v.num
 m1 : v.num ≤ 9223372036854775807
 len : v.data.length ≤ 140737488351232
structure At4 (w : World) (b o : Nat) (v : V) : Prop where
 c0 : w.cell? ⟨b, o, none⟩ = some (.int .i64 v.node)
 c1 : w.cell? ⟨b, o + 1, none⟩ = some (.int .i64 v.num)
 c2 : w.cell? ⟨b, o + 2, none⟩ = some (.slice v.ad v.data.length v.cap)
 c3 : w.cell? ⟨b, o + 3, none⟩ = some (.bool v.dead)
structure Row (w : World) (a : Option Addr) (cap : Nat) (l : List V) : Prop where
 len : l.length ≤ cap
 bound : cap ≤ 9223372036854775807
 at_ : ∀ i v, l[i]? = some v → ∃ b off, a = some ⟨b, off, none⟩ ∧ At4 w b (off + i * 4) v ∧ VOk w v
theorem VOk.off {D : Nat → Prop} {w w' : World} {v : V} (h : VOk w v) (o : Off D w w') (hD : ∀ c, c < w.heap.size → blk v.ad = some c → ¬ D c) : VOk w' v :=
 ⟨h.src.off o hD, h.lt, h.n0, h.n1, h.m0, h.m1, h.len⟩
theorem At4.off {D : Nat → Prop} {w w' : World} {b o : Nat} {v : V} (h : At4 w b o v) (k : Off D w w') (hD : b < w.heap.size → ¬ D b) : At4 w' b o v := by
 have e : ∀ j u, w.cell? ⟨b, j, none⟩ = some u → w'.cell? ⟨b, j, none⟩ = some u := fun j u e => by
  have := cell_lt e
  rw [← e]
  exact World.cell?_of_block (a := ⟨b, j, none⟩) (k.block b this (hD this))
 exact ⟨e _ _ h.c0, e _ _ h.c1, e _ _ h.c2, e _ _ h.c3⟩
theorem Row.off {w w' : World} {a : Option Addr} {cap : Nat} {l : List V} (h : Row w a cap l) (o : Off (fun _ => False) w w') : Row w' a cap l :=
 ⟨h.len, h.bound, fun i v hv => by
  obtain ⟨b, off, e, h1, h2⟩ := h.at_ i v hv
  exact ⟨b, off, e, h1.off o (fun _ h => h), h2.off o (fun _ _ _ h => h)⟩⟩
theorem Row.offD {D : Nat → Prop} {w w' : World} {a : Option Addr} {cap : Nat} {l : List V} (h : Row w a cap l) (o : Off D w w') (ha : ∀ c, c < w.heap.size → blk a = some c → ¬ D c) (hv : ∀ v ∈ l, ∀ c, c < w.heap.size → blk v.ad = some c → ¬ D c) : Row w' a cap l :=
 ⟨h.len, h.bound, fun i v hi => by
  obtain ⟨b, off, e, h1, h2⟩ := h.at_ i v hi
  exact ⟨b, off, e, h1.off o (fun hb => ha b hb (by rw [e]; rfl)), h2.off o (hv v (List.mem_of_getElem? hi))⟩⟩
theorem Row.nil (w : World) (a : Option Addr) (cap : Nat) (h : cap ≤ 9223372036854775807) : Row w a cap [] := ⟨by simp, h, fun i v h => by simp at h⟩
theorem Row.ok {w : World} {a : Option Addr} {cap : Nat} {l : List V} (h : Row w a cap l) : ∀ v ∈ l, VOk w v := by
 intro v hv
 obtain ⟨i, hi⟩ := List.getElem?_of_mem hv
 obtain ⟨_, _, _, _, h⟩ := h.at_ i v hi
 exact h
theorem Tryz.infoV : (Tryz.prog.info? 137).map (fun i => (i.zero, i.size, i.bytes)) = some (some (.agg #[.int .i64 0, .int .i64 0, .slice none 0 0, .bool false]), 4, 48) := by kernel_rfl
theorem cel9 {b : Nat} {t : TypeId} {f : Nat → Int} {s : Value} {w : World} (h : Cel b t #[.int .i64 (f 0), .int .i64 (f 1), .int .i64 (f 2), .int .i64 (f 3), .int .i64 (f 4), .int .i64 (f 5), .int .i64 (f 6), .int .i64 (f 7), s] w) : w.cell? ⟨b, 0, none⟩ = some (.int .i64 (f 0)) ∧ w.cell? ⟨b, 1, none⟩ = some (.int .i64 (f 1)) ∧ w.cell? ⟨b, 2, none⟩ = some (.int .i64 (f 2)) ∧ w.cell? ⟨b, 3, none⟩ = some (.int .i64 (f 3)) ∧ w.cell? ⟨b, 4, none⟩ = some (.int .i64 (f 4)) ∧ w.cell? ⟨b, 5, none⟩ = some (.int .i64 (f 5)) ∧ w.cell? ⟨b, 6, none⟩ = some (.int .i64 (f 6)) ∧ w.cell? ⟨b, 7, none⟩ = some (.int .i64 (f 7)) ∧ w.cell? ⟨b, 8, none⟩ = some s :=
 ⟨h.cell 0, h.cell 1, h.cell 2, h.cell 3, h.cell 4, h.cell 5, h.cell 6, h.cell 7, h.cell 8⟩
theorem cel4 {b : Nat} {t : TypeId} {v : V} {w : World} (h : Cel b t #[.int .i64 v.node, .int .i64 v.num, .slice v.ad v.data.length v.cap, .bool v.dead] w) : w.cell? ⟨b, 0, none⟩ = some (.int .i64 v.node) ∧ w.cell? ⟨b, 1, none⟩ = some (.int .i64 v.num) ∧ w.cell? ⟨b, 2, none⟩ = some (.slice v.ad v.data.length v.cap) ∧ w.cell? ⟨b, 3, none⟩ = some (.bool v.dead) :=
 ⟨h.cell 0, h.cell 1, h.cell 2, h.cell 3⟩
def okData (n : Nat) (dead : Bool) : Bool := if dead then decide (n = 0) else decide (n ≤ 200)
theorem mayData_any (a : Option Addr) (n cap : Nat) (dead : Bool) (w : World) : Calls Tryz.prog 117 #[.slice a n cap, .bool dead] w fun e w' => e = .returned (.bool (okData n dead)) ∧ w' = w := by
 cases dead
 ·by_cases h : n ≤ 200
  ·have e1 : decide ((n : Int) ≤ 200) = true := by simp; omega
   have e2 : decide (n ≤ 200) = true := by simp; omega
   go_enter Tryz.func117, Tryz.ntmps117
   go_wp2
   go_ret
   exact ⟨by simp [okData, h], rfl⟩
  ·have e1 : decide ((n : Int) ≤ 200) = false := by simp; omega
   have e2 : decide (n ≤ 200) = false := by simp; omega
   go_enter Tryz.func117, Tryz.ntmps117
   go_wp2
   go_ret
   exact ⟨by simp [okData, h], rfl⟩
 ·by_cases h : n = 0
  ·subst h
   go_enter Tryz.func117, Tryz.ntmps117
   go_wp2
   go_ret
   exact ⟨by simp [okData], rfl⟩
  ·have e1 : ((n : Int) == 0) = false := by rw [beq_eq_false_iff_ne]; omega
   go_enter Tryz.func117, Tryz.ntmps117
   go_wp2
   go_ret
   exact ⟨by simp [okData, h], rfl⟩
end Go.Proofs.YtmbphlkohlggfaaGreat

namespace Go.Proofs.YtmbphlkohlggfaaGreat
open Go.RowKit
structure MayP (f : Nat → Int) (l : List A) : Prop where
 seen : ∀ j, j < 8 → 0 ≤ f j ∧ f j ≤ 1099511627776
 few : l.length ≤ 16
 less : ∀ i x y, l[i]? = some x → l[i + 1]? = some y → lessB x.node x.num y.node y.num = true
 cov : ∀ x, x ∈ l → coversB f x.node x.num = true ∧ okData x.data.length x.dead = true
def lessAll : List A → Bool
 | [] => true
 | [_] => true
 | x :: y :: l => lessB x.node x.num y.node y.num && lessAll (y :: l)
theorem lessAll_iff : ∀ l : List A, lessAll l = true ↔ ∀ i x y, l[i]? = some x → l[i + 1]? = some y → lessB x.node x.num y.node y.num = true
 | [] => by simp [lessAll]
 | [_] => by simp [lessAll]
 | x :: y :: l => by
  rw [lessAll, Bool.and_eq_true, lessAll_iff (y :: l)]
  constructor
  ·rintro ⟨h1, h2⟩ i a b ha hb
   cases i with
   | zero =>
    simp at ha hb
    subst ha hb
    exact h1
   | succ i => exact h2 i a b (by simpa using ha) (by simpa using hb)
  ·intro h
   exact ⟨h 0 x y rfl rfl, fun i a b ha hb => h (i + 1) a b (by simpa using ha) (by simpa using hb)⟩
def mayS (f : Nat → Int) (l : List A) : Bool := mayB f && (decide (l.length ≤ 16) && (lessAll l && l.all fun x => coversB f x.node x.num && okData x.data.length x.dead))
theorem may_iff {f : Nat → Int} {l : List A} : mayS f l = true ↔ MayP f l := by
 simp only [mayS, mayB, Bool.and_eq_true, decide_eq_true_eq, lessAll_iff, List.all_eq_true]
 exact ⟨fun ⟨a, b, c, d⟩ => ⟨a, b, c, d⟩, fun h => ⟨h.seen, h.few, h.less, h.cov⟩⟩
theorem may_yes {f : Nat → Int} {l : List A} (h : MayP f l) : mayS f l = true := may_iff.2 h
theorem may_no {f : Nat → Int} {l : List A} (h : ¬ MayP f l) : mayS f l = false := by
 cases e : mayS f l
 ·rfl
 ·exact absurd (may_iff.1 e) h
theorem mem_cont {l : List V} {i : Nat} {v : V} (h : l[i]? = some v) : v.abs ∈ cont l := List.mem_map.2 ⟨v, List.mem_of_getElem? h, rfl⟩
theorem get_cont {l : List V} {i : Nat} {v : V} (h : l[i]? = some v) : (cont l)[i]? = some v.abs := by simp [cont, h]
theorem get_cont' {l : List V} {i : Nat} {x : A} (h : (cont l)[i]? = some x) : ∃ v, l[i]? = some v ∧ x = v.abs := by
 simp only [cont, List.getElem?_map, Option.map_eq_some_iff] at h
 obtain ⟨v, h1, h2⟩ := h
 exact ⟨v, h1, h2.symm⟩
structure Upto (f : Nat → Int) (l : List V) (n : Nat) : Prop where
 less : ∀ i x y, i + 1 < n → l[i]? = some x → l[i + 1]? = some y → lessB x.node x.num y.node y.num = true
 cov : ∀ i x, i < n → l[i]? = some x → coversB f x.node x.num = true ∧ okData x.data.length x.dead = true
theorem Upto.zero (f : Nat → Int) (l : List V) : Upto f l 0 := ⟨fun _ _ _ h => by omega, fun _ _ h => by omega⟩
theorem Upto.step {f : Nat → Int} {l : List V} {n : Nat} (h : Upto f l n) {v : V} (hv : l[n]? = some v) (hc : coversB f v.abs.node v.abs.num = true ∧ okData v.abs.data.length v.abs.dead = true) (hl : ∀ i u, i + 1 = n → l[i]? = some u → lessB u.node u.num v.node v.num = true) : Upto f l (n + 1) := by
 refine ⟨fun i x y hi hx hy => ?_, fun i x hi hx => ?_⟩
 ·rcases Nat.lt_or_ge (i + 1) n with h1 | h1
  ·exact h.less i x y h1 hx hy
  ·obtain rfl : n = i + 1 := by omega
   rw [hv] at hy
   cases hy
   exact hl i x rfl hx
 ·rcases Nat.lt_or_ge i n with h1 | h1
  ·exact h.cov i x h1 hx
  ·obtain rfl : n = i := by omega
   rw [hv] at hx
   cases hx
   exact hc
theorem Upto.may {f : Nat → Int} {l : List V} (h : Upto f l l.length) (hs : ∀ j, j < 8 → 0 ≤ f j ∧ f j ≤ 1099511627776) (hl : l.length ≤ 16) : MayP f (cont l) := by
 refine ⟨hs, by rw [cont_len]; exact hl, fun i x y hx hy => ?_, fun x hx => ?_⟩
 ·obtain ⟨u, hu, rfl⟩ := get_cont' hx
  obtain ⟨v, hv, rfl⟩ := get_cont' hy
  have : i + 1 < l.length := by
   obtain ⟨h, -⟩ := List.getElem?_eq_some_iff.1 hv
   exact h
  exact h.less i u v this hu hv
 ·simp only [cont, List.mem_map] at hx
  obtain ⟨v, hv, rfl⟩ := hx
  obtain ⟨i, hi⟩ := List.getElem?_of_mem hv
  have : i < l.length := by
   obtain ⟨h, -⟩ := List.getElem?_eq_some_iff.1 hi
   exact h
  exact h.cov i v this hi
theorem less_at {l : List V} {n m : Nat} {u v : V} (hm : n = m + 1) (hu : l[m]? = some u) (h : lessB u.node u.num v.node v.num = true) : ∀ i x, i + 1 = n → l[i]? = some x → lessB x.node x.num v.node v.num = true := by
 intro i x hi hx
 obtain rfl : i = m := by omega
 rw [hu] at hx
 cases hx
 exact h
set_option maxRecDepth 100000 in
set_option maxHeartbeats 2000000 in
theorem smay_any (f : Nat → Int) (a : Option Addr) (cap : Nat) (l : List V) (w : World) (hr : Row w a cap l) :
  Calls Tryz.prog 98 #[.agg #[.int .i64 (f 0), .int .i64 (f 1), .int .i64 (f 2), .int .i64 (f 3), .int .i64 (f 4), .int .i64 (f 5), .int .i64 (f 6), .int .i64 (f 7), .slice a l.length cap]] w fun e w' => e = .returned (.bool (mayS f (cont l))) ∧ Off (fun _ => False) w w' := by
 have hnot := not_any
 have B0 := Cel.new w 44 #[.int .i64 (f 0), .int .i64 (f 1), .int .i64 (f 2), .int .i64 (f 3), .int .i64 (f 4), .int .i64 (f 5), .int .i64 (f 6), .int .i64 (f 7), .slice a l.length cap]
 have O0 : Off (fun _ => False) w (w.alloc (.cells #[.int .i64 (f 0), .int .i64 (f 1), .int .i64 (f 2), .int .i64 (f 3), .int .i64 (f 4), .int .i64 (f 5), .int .i64 (f 6), .int .i64 (f 7), .slice a l.length cap] 44)) := (Off.refl _ w).alloc _
 cases hm : mayB f
 ·go_enter Tryz.func98, Tryz.ntmps98
  go_wp2_with fail
  refine (may_any f _).mono ?_
  rw [hm]
  rintro e w1 ⟨rfl, o1⟩
  go_wp2_with fail
  go_ret
  refine ⟨?_, O0.trans o1 (fun _ _ h => h)⟩
  rw [may_no (fun hM => by simp [mayB] at hm; obtain ⟨j, hj, h⟩ := hm; have := hM.seen j hj; have := h this.1; omega)]
  rfl
 have hseen : ∀ j, j < 8 → 0 ≤ f j ∧ f j ≤ 1099511627776 := by simpa [mayB] using hm
 have HSN : Hid _ := hseen
 clear hseen
 by_cases hl : l.length ≤ 16
 ·have d1 : decide ((16 : Int) < (l.length : Int)) = false := decide_eq_false (by omega)
  have d2 : decide (16 < l.length) = false := decide_eq_false (by omega)
  have R0 := hr.off O0
  have HB0 : Hid _ := B0
  have HO0 : Hid _ := O0
  have HR0 : Hid _ := R0
  have HHL : Hid _ := hl
  clear B0 O0 R0 hr
  go_enter Tryz.func98, Tryz.ntmps98
  go_wp2_with fail
  refine (may_any f _).mono ?_
  rw [hm]
  rintro e w1 ⟨rfl, o1⟩
  have B1 := HB0.out.off o1 (fun h => h)
  have O1 := HO0.out.trans o1 (fun _ _ h => h)
  have R1 := HR0.out.off o1
  have c8 : w1.cell? ⟨w.heap.size, 8, none⟩ = some (.slice a l.length cap) := B1.cell 8
  have HB1 : Hid _ := B1
  have HO1 : Hid _ := O1
  have HR1 : Hid _ := R1
  clear B1 O1 R1 o1
  go_wp2_with fail
  go_loopw [18] (fun y wr => ∃ n : Nat, y = .int .i64 (n : Int) ∧ n ≤ l.length ∧ Upto f l n ∧ Off (fun _ => False) w wr ∧ Cel w.heap.size 44 #[.int .i64 (f 0), .int .i64 (f 1), .int .i64 (f 2), .int .i64 (f 3), .int .i64 (f 4), .int .i64 (f 5), .int .i64 (f 6), .int .i64 (f 7), .slice a l.length cap] wr ∧ Row wr a cap l) (fun y _ => (l.length - intOf y).toNat)
  case atStart => exact ⟨0, rfl, by omega, Upto.zero f l, HO1.out, HB1.out, HR1.out⟩
  case round =>
   clear HB1 HO1 HR1 HB0 HO0 HR0 c8
   obtain ⟨n, rfl, hn, hg, O, cb, hr1⟩ := hrel
   have HG : Hid _ := hg
   clear hg
   by_cases hlt : n < l.length
   ·have e1 : decide ((n : Int) < (l.length : Int)) = true := decide_eq_true (by omega)
    have e2 : decide (n < l.length) = true := decide_eq_true hlt
    obtain ⟨v, hv⟩ : ∃ v, l[n]? = some v := ⟨_, List.getElem?_eq_getElem hlt⟩
    obtain ⟨b, off, rfl, k, -⟩ := hr1.at_ n v hv
    obtain ⟨k0, k1, k2, k3⟩ := k
    have k : At4 wr b (off + n * 4) v := ⟨k0, k1, k2, k3⟩
    rcases Nat.eq_zero_or_pos n with hn0 | hn0
    ·have e5 : decide ((0 : Int) < (n : Int)) = false := decide_eq_false (by omega)
     have e6 : decide (0 < n) = false := decide_eq_false (by omega)
     have HN0 : Hid _ := hn0
     clear hn0
     go_wp2_with fail
     have C1 := Cel.new wr 137 #[.int .i64 v.node, .int .i64 v.num, .slice v.ad v.data.length v.cap, .bool v.dead]
     have CB1 := cb.alloc (.cells #[.int .i64 v.node, .int .i64 v.num, .slice v.ad v.data.length v.cap, .bool v.dead] 137)
     have R1 := hr1.off ((Off.refl _ wr).alloc (.cells #[.int .i64 v.node, .int .i64 v.num, .slice v.ad v.data.length v.cap, .bool v.dead] 137))
     have O1 := O.alloc (.cells #[.int .i64 v.node, .int .i64 v.num, .slice v.ad v.data.length v.cap, .bool v.dead] 137)
     have := k.off ((Off.refl (fun _ => False) wr).alloc (.cells #[.int .i64 v.node, .int .i64 v.num, .slice v.ad v.data.length v.cap, .bool v.dead] 137)) (fun _ h => h)
     generalize hZ : wr.heap.size = Z at C1 ⊢
     generalize hW : wr.alloc (.cells #[.int .i64 v.node, .int .i64 v.num, .slice v.ad v.data.length v.cap, .bool v.dead] 137) = W at C1 CB1 R1 O1 ⊢
     have CV : Hid _ := C1
     have CB : Hid _ := CB1
     have HR : Hid _ := R1
     have HO : Hid _ := O1
     clear C1 CB1 R1 O1 cb hr1 O hZ hW k0 k1 k2 k3 k
     refine wp_region_held_drew (S := fun w' => Off (fun _ => False) W w') (by kernel_rfl) ((Off.refl _ W).drew) (fun hS => ?_)
     refine take_at (i := 0) 23 (v := .int .i64 (n : Int)) rfl rfl (by kernel_rfl) (by kernel_rfl) (by kernel_rfl) (fun _ _ _ h => h) (Or.inl ⟨by rfl, fun w' hw' => by go_simp⟩) hS ?_
     simp only [Act.put, lsA, lsZ, lsS]
     refine take_at (i := 1) 24 (v := .bool false) rfl rfl (by kernel_rfl) (by kernel_rfl) (by kernel_rfl) (fun _ _ _ h => h) (Or.inl ⟨by rfl, fun w' hw' => by go_simp⟩) hS ?_
     simp only [Act.put, lsA, lsZ, lsS]
     refine take_at (i := 2) 25 (v := .bool false) rfl rfl (by kernel_rfl) (by kernel_rfl) (by kernel_rfl) (fun _ _ _ h => h) (Or.inl ⟨by rfl, fun w' hw' => by go_simp⟩) hS ?_
     simp only [Act.put, lsA, lsZ, lsS]
     refine take_at (i := 3) 26 (v := undef) rfl rfl (by kernel_rfl) (by kernel_rfl) (by kernel_rfl) (fun _ _ _ h => h) (Or.inr ⟨by rfl, rfl⟩) hS ?_
     simp only [Act.put, lsA, lsZ, lsS]
     refine take_at (i := 4) 27 (v := undef) rfl rfl (by kernel_rfl) (by kernel_rfl) (by kernel_rfl) (fun _ _ _ h => h) (Or.inr ⟨by rfl, rfl⟩) hS ?_
     simp only [Act.put, lsA, lsZ, lsS]
     refine take_at (i := 5) 28 (v := undef) rfl rfl (by kernel_rfl) (by kernel_rfl) (by kernel_rfl) (fun _ _ _ h => h) (Or.inr ⟨by rfl, rfl⟩) hS ?_
     simp only [Act.put, lsA, lsZ, lsS]
     refine take_at (i := 6) 29 (v := undef) rfl rfl (by kernel_rfl) (by kernel_rfl) (by kernel_rfl) (fun _ _ _ h => h) (Or.inr ⟨by rfl, rfl⟩) hS ?_
     simp only [Act.put, lsA, lsZ, lsS]
     refine take_at (i := 7) 30 (v := undef) rfl rfl (by kernel_rfl) (by kernel_rfl) (by kernel_rfl) (fun _ _ _ h => h) (Or.inr ⟨by rfl, rfl⟩) hS ?_
     simp only [Act.put, lsA, lsZ, lsS]
     refine take_at (i := 8) 31 (v := undef) rfl rfl (by kernel_rfl) (by kernel_rfl) (by kernel_rfl) (fun _ _ _ h => h) (Or.inr ⟨by rfl, rfl⟩) hS ?_
     simp only [Act.put, lsA, lsZ, lsS]
     refine take_at (i := 9) 32 (v := undef) rfl rfl (by kernel_rfl) (by kernel_rfl) (by kernel_rfl) (fun _ _ _ h => h) (Or.inr ⟨by rfl, rfl⟩) hS ?_
     simp only [Act.put, lsA, lsZ, lsS]
     refine take_at (i := 10) 33 (v := undef) rfl rfl (by kernel_rfl) (by kernel_rfl) (by kernel_rfl) (fun _ _ _ h => h) (Or.inr ⟨by rfl, rfl⟩) hS ?_
     simp only [Act.put, lsA, lsZ, lsS]
     refine take_at (i := 11) 34 (v := undef) rfl rfl (by kernel_rfl) (by kernel_rfl) (by kernel_rfl) (fun _ _ _ h => h) (Or.inr ⟨by rfl, rfl⟩) hS ?_
     simp only [Act.put, lsA, lsZ, lsS]
     refine take_at (i := 12) 35 (v := undef) rfl rfl (by kernel_rfl) (by kernel_rfl) (by kernel_rfl) (fun _ _ _ h => h) (Or.inr ⟨by rfl, rfl⟩) hS ?_
     simp only [Act.put, lsA, lsZ, lsS]
     refine take_at (i := 13) 36 (v := undef) rfl rfl (by kernel_rfl) (by kernel_rfl) (by kernel_rfl) (fun _ _ _ h => h) (Or.inr ⟨by rfl, rfl⟩) hS ?_
     simp only [Act.put, lsA, lsZ, lsS]
     refine take_at (i := 14) 37 (v := .bool false) rfl rfl (by kernel_rfl) (by kernel_rfl) (by kernel_rfl) (fun _ _ _ h => h) (Or.inl ⟨by rfl, fun w' hw' => by go_simp⟩) hS ?_
     simp only [Act.put, lsA, lsZ, lsS]
     refine wpAnyH_done (by kernel_rfl) ?_ _
     obtain ⟨y0, y1, y2, y3, y4, y5, y6, y7, y8⟩ := cel9 (CB.out.off hS (fun h => h))
     obtain ⟨z0, z1, z2, z3⟩ := cel4 (CV.out.off hS (fun h => h))
     cases hcov : coversB f v.node v.num
     ·go_wp2_with fail
      refine (covers_any f _ _ _).mono ?_
      rw [hcov]
      rintro e w3 ⟨rfl, o3⟩
      go_wp2_with fail
      go_ret
      refine ⟨?_, HO.out.trans (hS.trans o3 (fun _ _ h => h)) (fun _ _ h => h)⟩
      rw [may_no (fun hM => by have := (hM.cov v.abs (mem_cont hv)).1; simp [V.abs, hcov] at this)]
      rfl
     ·go_wp2_with fail
      refine (covers_any f _ _ _).mono ?_
      rw [hcov]
      rintro e w3 ⟨rfl, o3⟩
      have O3 := hS.trans o3 (fun _ _ h => h)
      obtain ⟨x0, x1, x2, x3⟩ := cel4 (CV.out.off O3 (fun h => h))
      have HO3 : Hid _ := O3
      clear O3 o3 hS y0 y1 y2 y3 y4 y5 y6 y7 y8 z0 z1 z2 z3
      cases hdat : okData v.data.length v.dead
      ·go_wp2_with fail
       refine (mayData_any _ _ _ _ _).mono ?_
       rw [hdat]
       rintro e w4 ⟨rfl, hw⟩
       rw [hw]
       clear hw w4
       go_wp2_with fail
       go_ret
       refine ⟨?_, HO.out.trans HO3.out (fun _ _ h => h)⟩
       rw [may_no (fun hM => by have := (hM.cov v.abs (mem_cont hv)).2; simp [V.abs, hdat] at this)]
       rfl
      ·go_wp2_with fail
       refine (mayData_any _ _ _ _ _).mono ?_
       rw [hdat]
       rintro e w4 ⟨rfl, hw⟩
       rw [hw]
       clear hw w4
       go_wp2_with fail
       go_roundw
       case rel =>
        refine ⟨n + 1, by go_num, by omega, ?_, HO.out.trans HO3.out (fun _ _ h => h), CB.out.off HO3.out (fun h => h), HR.out.off HO3.out⟩
        exact HG.out.step hv (by simp [V.abs, hcov, hdat]) (fun i u h => by have := HN0.out; omega)
       case measure => simp [intOf]; omega
    ·obtain ⟨m, hm1⟩ : ∃ m, n = m + 1 := ⟨n - 1, by omega⟩
     have e5 : decide ((0 : Int) < (n : Int)) = true := decide_eq_true (by omega)
     have e6 : decide (0 < n) = true := decide_eq_true (by omega)
     obtain ⟨u, hu⟩ : ∃ u, l[m]? = some u := ⟨_, List.getElem?_eq_getElem (by omega)⟩
     obtain ⟨b', off', eb, p, -⟩ := hr1.at_ m u hu
     simp only [Option.some.injEq, Addr.mk.injEq, and_true] at eb
     obtain ⟨rfl, rfl⟩ := eb
     have hw2 : IntKind.i64.wrap ((n : Int) - 1) = (m : Int) := by
      rw [show (n : Int) - 1 = (m : Int) by omega]
      have := hr1.bound
      have := hr1.len
      exact wrap64 (by omega) (by omega)
     have hpp := p.off ((Off.refl (fun _ => False) wr).alloc (.cells #[.int .i64 v.node, .int .i64 v.num, .slice v.ad v.data.length v.cap, .bool v.dead] 137)) (fun _ h => h)
     have e3 : decide ((m : Int) < (l.length : Int)) = true := decide_eq_true (by omega)
     have e4 : decide (m < l.length) = true := decide_eq_true (by omega)
     have HM1 : Hid _ := hm1
     have hml : m < l.length := by omega
     clear p hm1 hn0
     go_wp2_with fail
     have C1 := Cel.new wr 137 #[.int .i64 v.node, .int .i64 v.num, .slice v.ad v.data.length v.cap, .bool v.dead]
     have CB1 := cb.alloc (.cells #[.int .i64 v.node, .int .i64 v.num, .slice v.ad v.data.length v.cap, .bool v.dead] 137)
     have R1 := hr1.off ((Off.refl _ wr).alloc (.cells #[.int .i64 v.node, .int .i64 v.num, .slice v.ad v.data.length v.cap, .bool v.dead] 137))
     have O1 := O.alloc (.cells #[.int .i64 v.node, .int .i64 v.num, .slice v.ad v.data.length v.cap, .bool v.dead] 137)
     have := k.off ((Off.refl (fun _ => False) wr).alloc (.cells #[.int .i64 v.node, .int .i64 v.num, .slice v.ad v.data.length v.cap, .bool v.dead] 137)) (fun _ h => h)
     generalize hZ : wr.heap.size = Z at C1 ⊢
     generalize hW : wr.alloc (.cells #[.int .i64 v.node, .int .i64 v.num, .slice v.ad v.data.length v.cap, .bool v.dead] 137) = W at C1 CB1 R1 O1 hpp ⊢
     have CV : Hid _ := C1
     have CB : Hid _ := CB1
     have HR : Hid _ := R1
     have HO : Hid _ := O1
     clear C1 CB1 R1 O1 cb hr1 O hZ hW k0 k1 k2 k3 k
     have HP : Hid (At4 W b (off + m * 4) u) := hpp
     clear hpp
     refine wp_region_held_drew (S := fun w' => Off (fun _ => False) W w') (by kernel_rfl) ((Off.refl _ W).drew) (fun hS => ?_)
     cases hls : lessB u.node u.num v.node v.num
     ·refine take_at (i := 0) 23 (v := .int .i64 (n : Int)) rfl rfl (by kernel_rfl) (by kernel_rfl) (by kernel_rfl) (fun _ _ _ h => h) (Or.inl ⟨by rfl, fun w' hw' => by go_simp⟩) hS ?_
      simp only [Act.put, lsA, lsZ, lsS]
      refine take_at (i := 1) 24 (v := .bool true) rfl rfl (by kernel_rfl) (by kernel_rfl) (by kernel_rfl) (fun _ _ _ h => h) (Or.inl ⟨by rfl, fun w' hw' => by go_simp⟩) hS ?_
      simp only [Act.put, lsA, lsZ, lsS]
      refine take_at (i := 2) 25 (v := .bool true) rfl rfl (by kernel_rfl) (by kernel_rfl) (by kernel_rfl) (fun _ _ _ h => h) (Or.inl ⟨by rfl, fun w' hw' => by go_simp⟩) hS ?_
      simp only [Act.put, lsA, lsZ, lsS]
      refine take_at (i := 3) 26 (v := .pointer (some ⟨w.heap.size, 8, none⟩)) rfl rfl (by kernel_rfl) (by kernel_rfl) (by kernel_rfl) (fun _ _ _ h => h) (Or.inl ⟨by rfl, fun w' hw' => by go_simp⟩) hS ?_
      simp only [Act.put, lsA, lsZ, lsS]
      refine take_at (i := 4) 27 (v := .slice (some ⟨b, off, none⟩) l.length cap) rfl rfl (by kernel_rfl) (by kernel_rfl) (by kernel_rfl) (fun _ _ _ h => h) (Or.inl ⟨by rfl, fun w' hw' => by have x8 := (CB.out.off hw' (fun h => h)).cell 8; simp at x8; go_simp⟩) hS ?_
      simp only [Act.put, lsA, lsZ, lsS]
      refine take_at (i := 5) 28 (v := .int .i64 (n : Int)) rfl rfl (by kernel_rfl) (by kernel_rfl) (by kernel_rfl) (fun _ _ _ h => h) (Or.inl ⟨by rfl, fun w' hw' => by go_simp⟩) hS ?_
      simp only [Act.put, lsA, lsZ, lsS]
      refine take_at (i := 6) 29 (v := .int .i64 (m : Int)) rfl rfl (by kernel_rfl) (by kernel_rfl) (by kernel_rfl) (fun _ _ _ h => h) (Or.inl ⟨by rfl, fun w' hw' => by go_simp⟩) hS ?_
      simp only [Act.put, lsA, lsZ, lsS]
      refine take_at (i := 7) 30 (v := .pointer (some ⟨b, off + m * 4, none⟩)) rfl rfl (by kernel_rfl) (by kernel_rfl) (by kernel_rfl) (fun _ _ _ h => h) (Or.inl ⟨by rfl, fun w' hw' => by go_simp⟩) hS ?_
      simp only [Act.put, lsA, lsZ, lsS]
      refine take_at (i := 8) 31 (v := .pointer (some ⟨b, off + m * 4, none⟩)) rfl rfl (by kernel_rfl) (by kernel_rfl) (by kernel_rfl) (fun _ _ _ h => h) (Or.inl ⟨by rfl, fun w' hw' => by go_simp⟩) hS ?_
      simp only [Act.put, lsA, lsZ, lsS]
      refine take_at (i := 9) 32 (v := .agg #[.int .i64 u.node, .int .i64 u.num]) rfl rfl (by kernel_rfl) (by kernel_rfl) (by kernel_rfl) (fun _ _ _ h => h) (Or.inl ⟨by rfl, fun w' hw' => by obtain ⟨x0, x1, x2, x3⟩ := HP.out.off hw' (fun _ h => h); go_simp⟩) hS ?_
      simp only [Act.put, lsA, lsZ, lsS]
      refine take_at (i := 10) 33 (v := .pointer (some ⟨Z, 0, none⟩)) rfl rfl (by kernel_rfl) (by kernel_rfl) (by kernel_rfl) (fun _ _ _ h => h) (Or.inl ⟨by rfl, fun w' hw' => by go_simp⟩) hS ?_
      simp only [Act.put, lsA, lsZ, lsS]
      refine take_at (i := 11) 34 (v := .agg #[.int .i64 v.node, .int .i64 v.num]) rfl rfl (by kernel_rfl) (by kernel_rfl) (by kernel_rfl) (fun _ _ _ h => h) (Or.inl ⟨by rfl, fun w' hw' => by obtain ⟨x0, x1, x2, x3⟩ := cel4 (CV.out.off hw' (fun h => h)); go_simp⟩) hS ?_
      simp only [Act.put, lsA, lsZ, lsS]
      refine wpAnyH_ready (rs := [12]) (by kernel_rfl) (by simp) ?_
      refine AllReadyH.cons rfl (fun K' hK' => ?_) AllReadyH.nil
      go_simp
      refine (less_any _ _ _ _ _).mono ?_
      rw [hls]
      rintro e v1 ⟨rfl, o1⟩
      refine hK'.out _ _ (hS.trans o1 (fun _ _ h => h)) (fun hS => ?_)
      clear hK' K' o1
      refine take_at (i := 13) 36 (v := .bool true) rfl rfl (by kernel_rfl) (by kernel_rfl) (by kernel_rfl) (fun _ _ _ h => h) (Or.inl ⟨by rfl, fun w' hw' => by go_simp⟩) hS ?_
      simp only [Act.put, lsA, lsZ, lsS]
      refine take_at (i := 14) 37 (v := .bool true) rfl rfl (by kernel_rfl) (by kernel_rfl) (by kernel_rfl) (fun _ _ _ h => h) (Or.inl ⟨by rfl, fun w' hw' => by go_simp⟩) hS ?_
      simp only [Act.put, lsA, lsZ, lsS]
      refine wpAnyH_done (by kernel_rfl) ?_ _
      go_wp2_with fail
      go_ret
      refine ⟨?_, HO.out.trans hS (fun _ _ h => h)⟩
      rw [may_no (fun hM => by have := hM.less m u.abs v.abs (get_cont hu) (get_cont (HM1.out ▸ hv)); simp [V.abs, hls] at this)]
      rfl
     ·refine take_at (i := 0) 23 (v := .int .i64 (n : Int)) rfl rfl (by kernel_rfl) (by kernel_rfl) (by kernel_rfl) (fun _ _ _ h => h) (Or.inl ⟨by rfl, fun w' hw' => by go_simp⟩) hS ?_
      simp only [Act.put, lsA, lsZ, lsS]
      refine take_at (i := 1) 24 (v := .bool true) rfl rfl (by kernel_rfl) (by kernel_rfl) (by kernel_rfl) (fun _ _ _ h => h) (Or.inl ⟨by rfl, fun w' hw' => by go_simp⟩) hS ?_
      simp only [Act.put, lsA, lsZ, lsS]
      refine take_at (i := 2) 25 (v := .bool true) rfl rfl (by kernel_rfl) (by kernel_rfl) (by kernel_rfl) (fun _ _ _ h => h) (Or.inl ⟨by rfl, fun w' hw' => by go_simp⟩) hS ?_
      simp only [Act.put, lsA, lsZ, lsS]
      refine take_at (i := 3) 26 (v := .pointer (some ⟨w.heap.size, 8, none⟩)) rfl rfl (by kernel_rfl) (by kernel_rfl) (by kernel_rfl) (fun _ _ _ h => h) (Or.inl ⟨by rfl, fun w' hw' => by go_simp⟩) hS ?_
      simp only [Act.put, lsA, lsZ, lsS]
      refine take_at (i := 4) 27 (v := .slice (some ⟨b, off, none⟩) l.length cap) rfl rfl (by kernel_rfl) (by kernel_rfl) (by kernel_rfl) (fun _ _ _ h => h) (Or.inl ⟨by rfl, fun w' hw' => by have x8 := (CB.out.off hw' (fun h => h)).cell 8; simp at x8; go_simp⟩) hS ?_
      simp only [Act.put, lsA, lsZ, lsS]
      refine take_at (i := 5) 28 (v := .int .i64 (n : Int)) rfl rfl (by kernel_rfl) (by kernel_rfl) (by kernel_rfl) (fun _ _ _ h => h) (Or.inl ⟨by rfl, fun w' hw' => by go_simp⟩) hS ?_
      simp only [Act.put, lsA, lsZ, lsS]
      refine take_at (i := 6) 29 (v := .int .i64 (m : Int)) rfl rfl (by kernel_rfl) (by kernel_rfl) (by kernel_rfl) (fun _ _ _ h => h) (Or.inl ⟨by rfl, fun w' hw' => by go_simp⟩) hS ?_
      simp only [Act.put, lsA, lsZ, lsS]
      refine take_at (i := 7) 30 (v := .pointer (some ⟨b, off + m * 4, none⟩)) rfl rfl (by kernel_rfl) (by kernel_rfl) (by kernel_rfl) (fun _ _ _ h => h) (Or.inl ⟨by rfl, fun w' hw' => by go_simp⟩) hS ?_
      simp only [Act.put, lsA, lsZ, lsS]
      refine take_at (i := 8) 31 (v := .pointer (some ⟨b, off + m * 4, none⟩)) rfl rfl (by kernel_rfl) (by kernel_rfl) (by kernel_rfl) (fun _ _ _ h => h) (Or.inl ⟨by rfl, fun w' hw' => by go_simp⟩) hS ?_
      simp only [Act.put, lsA, lsZ, lsS]
      refine take_at (i := 9) 32 (v := .agg #[.int .i64 u.node, .int .i64 u.num]) rfl rfl (by kernel_rfl) (by kernel_rfl) (by kernel_rfl) (fun _ _ _ h => h) (Or.inl ⟨by rfl, fun w' hw' => by obtain ⟨x0, x1, x2, x3⟩ := HP.out.off hw' (fun _ h => h); go_simp⟩) hS ?_
      simp only [Act.put, lsA, lsZ, lsS]
      refine take_at (i := 10) 33 (v := .pointer (some ⟨Z, 0, none⟩)) rfl rfl (by kernel_rfl) (by kernel_rfl) (by kernel_rfl) (fun _ _ _ h => h) (Or.inl ⟨by rfl, fun w' hw' => by go_simp⟩) hS ?_
      simp only [Act.put, lsA, lsZ, lsS]
      refine take_at (i := 11) 34 (v := .agg #[.int .i64 v.node, .int .i64 v.num]) rfl rfl (by kernel_rfl) (by kernel_rfl) (by kernel_rfl) (fun _ _ _ h => h) (Or.inl ⟨by rfl, fun w' hw' => by obtain ⟨x0, x1, x2, x3⟩ := cel4 (CV.out.off hw' (fun h => h)); go_simp⟩) hS ?_
      simp only [Act.put, lsA, lsZ, lsS]
      refine wpAnyH_ready (rs := [12]) (by kernel_rfl) (by simp) ?_
      refine AllReadyH.cons rfl (fun K' hK' => ?_) AllReadyH.nil
      go_simp
      refine (less_any _ _ _ _ _).mono ?_
      rw [hls]
      rintro e v1 ⟨rfl, o1⟩
      refine hK'.out _ _ (hS.trans o1 (fun _ _ h => h)) (fun hS => ?_)
      clear hK' K' o1
      refine take_at (i := 13) 36 (v := .bool false) rfl rfl (by kernel_rfl) (by kernel_rfl) (by kernel_rfl) (fun _ _ _ h => h) (Or.inl ⟨by rfl, fun w' hw' => by go_simp⟩) hS ?_
      simp only [Act.put, lsA, lsZ, lsS]
      refine take_at (i := 14) 37 (v := .bool false) rfl rfl (by kernel_rfl) (by kernel_rfl) (by kernel_rfl) (fun _ _ _ h => h) (Or.inl ⟨by rfl, fun w' hw' => by go_simp⟩) hS ?_
      simp only [Act.put, lsA, lsZ, lsS]
      refine wpAnyH_done (by kernel_rfl) ?_ _
      obtain ⟨y0, y1, y2, y3, y4, y5, y6, y7, y8⟩ := cel9 (CB.out.off hS (fun h => h))
      obtain ⟨z0, z1, z2, z3⟩ := cel4 (CV.out.off hS (fun h => h))
      cases hcov : coversB f v.node v.num
      ·go_wp2_with fail
       refine (covers_any f _ _ _).mono ?_
       rw [hcov]
       rintro e w3 ⟨rfl, o3⟩
       go_wp2_with fail
       go_ret
       refine ⟨?_, HO.out.trans (hS.trans o3 (fun _ _ h => h)) (fun _ _ h => h)⟩
       rw [may_no (fun hM => by have := (hM.cov v.abs (mem_cont hv)).1; simp [V.abs, hcov] at this)]
       rfl
      ·go_wp2_with fail
       refine (covers_any f _ _ _).mono ?_
       rw [hcov]
       rintro e w3 ⟨rfl, o3⟩
       have O3 := hS.trans o3 (fun _ _ h => h)
       obtain ⟨x0, x1, x2, x3⟩ := cel4 (CV.out.off O3 (fun h => h))
       have HO3 : Hid _ := O3
       clear O3 o3 hS y0 y1 y2 y3 y4 y5 y6 y7 y8 z0 z1 z2 z3
       cases hdat : okData v.data.length v.dead
       ·go_wp2_with fail
        refine (mayData_any _ _ _ _ _).mono ?_
        rw [hdat]
        rintro e w4 ⟨rfl, hw⟩
        rw [hw]
        clear hw w4
        go_wp2_with fail
        go_ret
        refine ⟨?_, HO.out.trans HO3.out (fun _ _ h => h)⟩
        rw [may_no (fun hM => by have := (hM.cov v.abs (mem_cont hv)).2; simp [V.abs, hdat] at this)]
        rfl
       ·go_wp2_with fail
        refine (mayData_any _ _ _ _ _).mono ?_
        rw [hdat]
        rintro e w4 ⟨rfl, hw⟩
        rw [hw]
        clear hw w4
        go_wp2_with fail
        go_roundw
        case rel =>
         refine ⟨n + 1, by go_num, by omega, ?_, HO.out.trans HO3.out (fun _ _ h => h), CB.out.off HO3.out (fun h => h), HR.out.off HO3.out⟩
         exact HG.out.step hv (by simp [V.abs, hcov, hdat]) (less_at HM1.out hu hls)
        case measure => simp [intOf]; omega
   ·obtain rfl : n = l.length := by omega
    have e1 : decide ((l.length : Int) < (l.length : Int)) = false := decide_eq_false (by omega)
    have e2 : decide (l.length < l.length) = false := decide_eq_false (by omega)
    go_wp2_with fail
    go_ret
    refine ⟨?_, O⟩
    rw [may_yes (HG.out.may HSN.out HHL.out)]
    rfl
 ·have d1 : decide ((16 : Int) < (l.length : Int)) = true := decide_eq_true (by omega)
  have d2 : decide (16 < l.length) = true := decide_eq_true (by omega)
  go_enter Tryz.func98, Tryz.ntmps98
  go_wp2_with fail
  refine (may_any f _).mono ?_
  rw [hm]
  rintro e w1 ⟨rfl, o1⟩
  have c8 : w1.cell? ⟨w.heap.size, 8, none⟩ = some (.slice a l.length cap) := (B0.off o1 (fun h => h)).cell 8
  go_wp2_with fail
  go_ret
  refine ⟨?_, O0.trans o1 (fun _ _ h => h)⟩
  rw [may_no (fun hM => by have := hM.few; rw [cont_len] at this; omega)]
  rfl
end Go.Proofs.YtmbphlkohlggfaaGreat

namespace Go.Proofs.YtmbphlkohlggfaaGreat
open Go.RowKit
theorem results_val {fn : Func} {p : Tmp} (h : fn.results = #[.cell p 137]) {tmps : Array Value} {w : World} {b : Nat} {v : V} (hp : tmps.getD p undef = .pointer (some ⟨b, 0, none⟩)) (hc : Cel b 137 #[.int .i64 v.node, .int .i64 v.num, .slice v.ad v.data.length v.cap, .bool v.dead] w) :
  (results fn tmps).run Tryz.prog w = .ok (.agg #[.int .i64 v.node, .int .i64 v.num, .slice v.ad v.data.length v.cap, .bool v.dead]) w := by
 obtain ⟨d, hd⟩ : ∃ d, Tryz.prog.underlying 137 = some (.struct d) := ⟨_, Tryz.underlying137⟩
 exact results_cell_row h tmps w b 137 _ (0, 0) (.struct d) hp hc.is hd rfl (by kernel_rfl)
theorem Cel.st4 {b : Nat} {t : TypeId} {v : V} {w : World} (h : Cel b t #[.int .i64 v.node, .int .i64 v.num, .slice v.ad v.data.length v.cap, .bool v.dead] w) (u : V) : Cel b t #[.int .i64 u.node, .int .i64 u.num, .slice u.ad u.data.length u.cap, .bool u.dead] ((((w.setCell ⟨b, 0, none⟩ (.int .i64 u.node)).setCell ⟨b, 1, none⟩ (.int .i64 u.num)).setCell ⟨b, 2, none⟩ (.slice u.ad u.data.length u.cap)).setCell ⟨b, 3, none⟩ (.bool u.dead)) := by
 replace h := h.set 0 (.int .i64 u.node)
 simp only [List.setIfInBounds_toArray, List.set_cons_zero] at h
 replace h := h.set 1 (.int .i64 u.num)
 simp only [lsA, lsZ, lsS] at h
 replace h := h.set 2 (.slice u.ad u.data.length u.cap)
 simp only [lsA, lsZ, lsS] at h
 replace h := h.set 3 (.bool u.dead)
 simp only [lsA, lsZ, lsS] at h
 exact h
theorem Off.st4 {D : Nat → Prop} {a w : World} {b : Nat} (h : Off D a w) (hb : D b ∨ a.heap.size ≤ b) (u : V) : Off D a ((((w.setCell ⟨b, 0, none⟩ (.int .i64 u.node)).setCell ⟨b, 1, none⟩ (.int .i64 u.num)).setCell ⟨b, 2, none⟩ (.slice u.ad u.data.length u.cap)).setCell ⟨b, 3, none⟩ (.bool u.dead)) :=
 (((h.setCell hb _).setCell hb _).setCell hb _).setCell hb _
def zeroV : V := ⟨0, 0, none, 0, [], false⟩
end Go.Proofs.YtmbphlkohlggfaaGreat

namespace Go.Proofs.YtmbphlkohlggfaaGreat
open Go.RowKit
def vcs : List V → List Value
 | [] => []
 | v :: l => .int .i64 v.node :: .int .i64 v.num :: .slice v.ad v.data.length v.cap :: .bool v.dead :: vcs l
theorem vcs_append (a b : List V) : vcs (a ++ b) = vcs a ++ vcs b := by
 induction a with
 | nil => rfl
 | cons v l ih => simp [vcs, ih]
theorem vcs_len (l : List V) : (vcs l).length = l.length * 4 := by
 induction l with
 | nil => rfl
 | cons v l ih => simp [vcs, ih]; omega
theorem vcs_get {l : List V} {i : Nat} {v : V} (h : l[i]? = some v) : (vcs l)[i * 4]? = some (.int .i64 v.node) ∧ (vcs l)[i * 4 + 1]? = some (.int .i64 v.num) ∧ (vcs l)[i * 4 + 2]? = some (.slice v.ad v.data.length v.cap) ∧ (vcs l)[i * 4 + 3]? = some (.bool v.dead) := by
 induction l generalizing i with
 | nil => simp at h
 | cons u l ih =>
  cases i with
  | zero => simp at h; subst h; simp [vcs]
  | succ i =>
   have := ih (i := i) (by simpa using h)
   simpa [vcs, Nat.succ_mul, Nat.add_right_comm] using this
structure OwnV (w : World) (a : Option Addr) (cap : Nat) (l : List V) : Prop where
 row : w.ownsRow 0 137 4 (.slice a l.length cap) l.length (vcs l)
theorem OwnV.off {D : Nat → Prop} {w w' : World} {a : Option Addr} {cap : Nat} {l : List V} (h : OwnV w a cap l) (k : Off D w w') (hD : ∀ c, blk a = some c → ¬ D c) : OwnV w' a cap l := by
 refine ⟨h.row.1, ?_⟩
 rcases h.row.2 with h2 | ⟨g, c, cur, hv, hg, hh, r⟩
 ·exact .inl h2
 ·have hlt := lt_of_block hh
  simp only [Value.slice.injEq] at hv
  obtain ⟨rfl, -, rfl⟩ := hv
  exact .inr ⟨g, _, cur, rfl, hg, (k.block g hlt (hD g rfl)).trans hh, r⟩
theorem OwnV.nil (w : World) : OwnV w none 0 [] := ⟨World.ownsRow_nil w 0 _ 4⟩
theorem OwnV.lt {w : World} {a : Option Addr} {cap : Nat} {l : List V} (h : OwnV w a cap l) : ∀ c, blk a = some c → c < w.heap.size := fun c hc =>
 (World.ownsRow.lt h.row c (by rw [blk_own]; exact hc)).2
theorem OwnV.toRow {w : World} {a : Option Addr} {cap : Nat} {l : List V} (h : OwnV w a cap l) (hk : ∀ v ∈ l, VOk w v) : Row w a cap l := by
 rcases h.row.2 with ⟨hv, h0⟩ | ⟨g, c, cur, hv, hb, hh, hc, hm, -⟩
 ·simp only [Value.slice.injEq] at hv
  obtain rfl : l = [] := List.eq_nil_of_length_eq_zero h0
  exact ⟨by simp, by omega, fun i v h => by simp at h⟩
 ·simp only [Value.slice.injEq] at hv
  obtain ⟨rfl, -, rfl⟩ := hv
  refine ⟨hc, by unfold maxLen at hm; omega, fun i v hi => ⟨g, 0, rfl, ?_, hk v (List.mem_of_getElem? hi)⟩⟩
  have hx := World.ownsRow.cells h.row (g := g) rfl
  obtain ⟨g0, g1, g2, g3⟩ := vcs_get hi
  have k0 := hx _ _ g0
  have k1 := hx _ _ g1
  have k2 := hx _ _ g2
  have k3 := hx _ _ g3
  rw [add_lit] at k0 k1 k2 k3
  exact ⟨k0, k1, k2, k3⟩
theorem wp_append_if {P : Program} {o : Oper} {a : Act} {w w' : World} {K : Act → World → Prop} {Q : Exit → Act → World → Prop} {y : Nat → Option Bool} {E : Prop} (hw : Region.wanted o y = true) (s x : Operand) {t u : TypeId}
  (ho : o.op = .call { callee := .builtin .append, args := #[s, x], argTypes := #[t, u] }) {v v' X : Value} (hs : a.eval s = v) (hx : a.eval x = X) (hr : (Builtin.append_ #[t, u] o.type #[v, X]).run P w = .ok v' w')
  (d : Nat) (hd : o.dst = some d) (h : K (a.put (some d) v') w') : if Region.wanted o y = true then Oper.wp P o a w K Q else E := by
 rw [if_pos hw]
 unfold Oper.wp execOp
 simp only [ho, resolve, invoke, builtin, Sem.run_bind, Sem.run_pure, Result.andThen_ok, List.map_toArray, List.map_cons, List.map_nil, hs, hx, hr]
 rw [← hd] at h
 exact h
end Go.Proofs.YtmbphlkohlggfaaGreat

namespace Go.Proofs.YtmbphlkohlggfaaGreat
open Go.RowKit
theorem Cel.st9 {b : Nat} {t : TypeId} {f : Nat → Int} {s : Value} {w : World} (h : Cel b t #[.int .i64 (f 0), .int .i64 (f 1), .int .i64 (f 2), .int .i64 (f 3), .int .i64 (f 4), .int .i64 (f 5), .int .i64 (f 6), .int .i64 (f 7), s] w) (g : Nat → Int) (r : Value) : Cel b t #[.int .i64 (g 0), .int .i64 (g 1), .int .i64 (g 2), .int .i64 (g 3), .int .i64 (g 4), .int .i64 (g 5), .int .i64 (g 6), .int .i64 (g 7), r] (((((((((w.setCell ⟨b, 0, none⟩ (.int .i64 (g 0))).setCell ⟨b, 1, none⟩ (.int .i64 (g 1))).setCell ⟨b, 2, none⟩ (.int .i64 (g 2))).setCell ⟨b, 3, none⟩ (.int .i64 (g 3))).setCell ⟨b, 4, none⟩ (.int .i64 (g 4))).setCell ⟨b, 5, none⟩ (.int .i64 (g 5))).setCell ⟨b, 6, none⟩ (.int .i64 (g 6))).setCell ⟨b, 7, none⟩ (.int .i64 (g 7))).setCell ⟨b, 8, none⟩ r) := by
 replace h := h.set 0 (.int .i64 (g 0))
 simp only [List.setIfInBounds_toArray, List.set_cons_zero] at h
 replace h := h.set 1 (.int .i64 (g 1))
 simp only [lsA, lsZ, lsS] at h
 replace h := h.set 2 (.int .i64 (g 2))
 simp only [lsA, lsZ, lsS] at h
 replace h := h.set 3 (.int .i64 (g 3))
 simp only [lsA, lsZ, lsS] at h
 replace h := h.set 4 (.int .i64 (g 4))
 simp only [lsA, lsZ, lsS] at h
 replace h := h.set 5 (.int .i64 (g 5))
 simp only [lsA, lsZ, lsS] at h
 replace h := h.set 6 (.int .i64 (g 6))
 simp only [lsA, lsZ, lsS] at h
 replace h := h.set 7 (.int .i64 (g 7))
 simp only [lsA, lsZ, lsS] at h
 replace h := h.set 8 r
 simp only [lsA, lsZ, lsS] at h
 exact h
theorem Off.st9 {D : Nat → Prop} {a w : World} {b : Nat} (h : Off D a w) (hb : D b ∨ a.heap.size ≤ b) (g : Nat → Int) (r : Value) : Off D a (((((((((w.setCell ⟨b, 0, none⟩ (.int .i64 (g 0))).setCell ⟨b, 1, none⟩ (.int .i64 (g 1))).setCell ⟨b, 2, none⟩ (.int .i64 (g 2))).setCell ⟨b, 3, none⟩ (.int .i64 (g 3))).setCell ⟨b, 4, none⟩ (.int .i64 (g 4))).setCell ⟨b, 5, none⟩ (.int .i64 (g 5))).setCell ⟨b, 6, none⟩ (.int .i64 (g 6))).setCell ⟨b, 7, none⟩ (.int .i64 (g 7))).setCell ⟨b, 8, none⟩ r) :=
 ((((((((h.setCell hb _).setCell hb _).setCell hb _).setCell hb _).setCell hb _).setCell hb _).setCell hb _).setCell hb _).setCell hb _
theorem Cel.clr9 {b : Nat} {t : TypeId} {f : Nat → Int} {s : Value} {w : World} (h : Cel b t #[.int .i64 (f 0), .int .i64 (f 1), .int .i64 (f 2), .int .i64 (f 3), .int .i64 (f 4), .int .i64 (f 5), .int .i64 (f 6), .int .i64 (f 7), s] w) : Cel b t #[.int .i64 0, .int .i64 0, .int .i64 0, .int .i64 0, .int .i64 0, .int .i64 0, .int .i64 0, .int .i64 0, .slice none 0 0] (((((((((w.setCell ⟨b, 0, none⟩ (.int .i64 0)).setCell ⟨b, 1, none⟩ (.int .i64 0)).setCell ⟨b, 2, none⟩ (.int .i64 0)).setCell ⟨b, 3, none⟩ (.int .i64 0)).setCell ⟨b, 4, none⟩ (.int .i64 0)).setCell ⟨b, 5, none⟩ (.int .i64 0)).setCell ⟨b, 6, none⟩ (.int .i64 0)).setCell ⟨b, 7, none⟩ (.int .i64 0)).setCell ⟨b, 8, none⟩ (.slice none 0 0)) := by
 have := h.st9 zer (.slice none 0 0)
 simp only [zer] at this
 exact this
theorem Off.clr9 {D : Nat → Prop} {a w : World} {b : Nat} (h : Off D a w) (hb : D b ∨ a.heap.size ≤ b) : Off D a (((((((((w.setCell ⟨b, 0, none⟩ (.int .i64 0)).setCell ⟨b, 1, none⟩ (.int .i64 0)).setCell ⟨b, 2, none⟩ (.int .i64 0)).setCell ⟨b, 3, none⟩ (.int .i64 0)).setCell ⟨b, 4, none⟩ (.int .i64 0)).setCell ⟨b, 5, none⟩ (.int .i64 0)).setCell ⟨b, 6, none⟩ (.int .i64 0)).setCell ⟨b, 7, none⟩ (.int .i64 0)).setCell ⟨b, 8, none⟩ (.slice none 0 0)) :=
 ((((((((h.setCell hb _).setCell hb _).setCell hb _).setCell hb _).setCell hb _).setCell hb _).setCell hb _).setCell hb _).setCell hb _
end Go.Proofs.YtmbphlkohlggfaaGreat

namespace Go.Proofs.YtmbphlkohlggfaaGreat
open Go.RowKit
theorem results_err9 {fn : Func} {p u : Tmp} (h : fn.results = #[.cell p 44, .tmp u]) {tmps : Array Value} {w : World} {b : Nat} (hp : tmps.getD p undef = .pointer (some ⟨b, 0, none⟩)) {v : Value} (hu : tmps.getD u undef = v) (hc : Cel b 44 #[.int .i64 0, .int .i64 0, .int .i64 0, .int .i64 0, .int .i64 0, .int .i64 0, .int .i64 0, .int .i64 0, .slice none 0 0] w) :
  (results fn tmps).run Tryz.prog w = .ok (.tuple #[.agg #[.int .i64 0, .int .i64 0, .int .i64 0, .int .i64 0, .int .i64 0, .int .i64 0, .int .i64 0, .int .i64 0, .slice none 0 0], v]) w := by
 rw [results_cell_tmp h]
 have ha : (asAddr (.pointer (some ⟨b, 0, none⟩))).run Tryz.prog w = .ok ⟨b, 0, none⟩ w := rfl
 rw [hp, hu, ha]
 obtain ⟨d, hd⟩ : ∃ d, Tryz.prog.underlying 44 = some (.struct d) := ⟨_, Tryz.underlying44⟩
 have hv := run_loadVar_row (P := Tryz.prog) w b 44 44 _ (0, 0) (.struct d) hc.is hd rfl (by kernel_rfl)
 simp only [Result.andThen, hv]
theorem results_sibs2 {fn : Func} {p u : Tmp} (h : fn.results = #[.cell p 44, .tmp u]) {tmps : Array Value} {w : World} {b : Nat} {f : Nat → Int} {s : Value} (hp : tmps.getD p undef = .pointer (some ⟨b, 0, none⟩)) {v : Value} (hu : tmps.getD u undef = v) (hc : Cel b 44 #[.int .i64 (f 0), .int .i64 (f 1), .int .i64 (f 2), .int .i64 (f 3), .int .i64 (f 4), .int .i64 (f 5), .int .i64 (f 6), .int .i64 (f 7), s] w) :
  (results fn tmps).run Tryz.prog w = .ok (.tuple #[.agg #[.int .i64 (f 0), .int .i64 (f 1), .int .i64 (f 2), .int .i64 (f 3), .int .i64 (f 4), .int .i64 (f 5), .int .i64 (f 6), .int .i64 (f 7), s], v]) w := by
 rw [results_cell_tmp h]
 have ha : (asAddr (.pointer (some ⟨b, 0, none⟩))).run Tryz.prog w = .ok ⟨b, 0, none⟩ w := rfl
 rw [hp, hu, ha]
 obtain ⟨d, hd⟩ : ∃ d, Tryz.prog.underlying 44 = some (.struct d) := ⟨_, Tryz.underlying44⟩
 have hv := run_loadVar_row (P := Tryz.prog) w b 44 44 _ (0, 0) (.struct d) hc.is hd rfl (by kernel_rfl)
 simp only [Result.andThen, hv]
theorem cel2 {b : Nat} {t : TypeId} {x y : Value} {w : World} (h : Cel b t #[x, y] w) : w.cell? ⟨b, 0, none⟩ = some x ∧ w.cell? ⟨b, 1, none⟩ = some y := ⟨h.cell 0, h.cell 1⟩
theorem row_one {b : Nat} {v : V} {w : World} (h : Cel b 137 #[.int .i64 v.node, .int .i64 v.num, .slice v.ad v.data.length v.cap, .bool v.dead] w) (hv : VOk w v) : Row w (some ⟨b, 0, none⟩) 1 [v] := by
 refine ⟨by simp, by omega, fun i u hi => ?_⟩
 match i, hi with
 | 0, hi =>
  simp at hi
  subst hi
  obtain ⟨x0, x1, x2, x3⟩ := cel4 h
  exact ⟨b, 0, rfl, ⟨x0, x1, x2, x3⟩, hv⟩
end Go.Proofs.YtmbphlkohlggfaaGreat
