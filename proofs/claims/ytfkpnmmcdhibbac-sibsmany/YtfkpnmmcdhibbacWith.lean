/- With. -/
import Derived.Test.YtfkpnmmcdhibbacTake
namespace Go.Proofs.Ytfkpnmmcdhibbac
open Go.RowKit

def withV (f : Nat → Int) (n N : Int) : Nat → Int := if nodeB n = true then upd f n.toNat (max (f n.toNat) N) else f
theorem Cel.new2 (w : World) (o p : Obj) (t : TypeId) (cs : Array Value) : Cel (w.heap.size + 2) t cs (((w.alloc o).alloc p).alloc (.cells cs t)) := by
  have := Cel.new ((w.alloc o).alloc p) t cs
  simp only [World.size_alloc] at this
  exact this
set_option maxRecDepth 100000 in
set_option maxHeartbeats 1000000 in
theorem with_any (f : Nat → Int) (n N : Int) (w : World) : Calls Try.prog 14 #[.agg #[.int .i64 (f 0), .int .i64 (f 1), .int .i64 (f 2), .int .i64 (f 3), .int .i64 (f 4), .int .i64 (f 5), .int .i64 (f 6), .int .i64 (f 7)], .agg #[.int .i64 n, .int .i64 N]] w fun e w' => e = .returned (.agg #[.int .i64 (withV f n N 0), .int .i64 (withV f n N 1), .int .i64 (withV f n N 2), .int .i64 (withV f n N 3), .int .i64 (withV f n N 4), .int .i64 (withV f n N 5), .int .i64 (withV f n N 6), .int .i64 (withV f n N 7)]) ∧ Off (fun _ => False) w w' := by
  by_cases h0 : nodeB n = true
  · obtain ⟨m, hm, rfl⟩ : ∃ m : Nat, m < 8 ∧ n = (m : Int) := by
      simp only [nodeB, decide_eq_true_eq] at h0
      exact ⟨n.toNat, by omega, by omega⟩
    have hv : Hid (withV f m N = upd f m (max (f m) N)) := by show withV f m N = _; simp [withV, h0]
    have ha := at_vec w.heap.size hm
    have hx := max_vec (f m) N
    go_enter Try.func14, Try.ntmps14
    go_wp2_with fail
    refine (node_any _ _).mono ?_
    rintro e w1 ⟨rfl, hw⟩
    rw [hw]; clear hw w1
    rw [h0]
    go_wp2_with fail
    obtain ⟨W, hW⟩ : ∃ W, W = (((w.alloc (.cells #[.int .i64 (f 0), .int .i64 (f 1), .int .i64 (f 2), .int .i64 (f 3), .int .i64 (f 4), .int .i64 (f 5), .int .i64 (f 6), .int .i64 (f 7)] 24)).alloc (.cells #[.int .i64 (m : Int), .int .i64 N] 34)).alloc (.cells #[.int .i64 (zer 0), .int .i64 (zer 1), .int .i64 (zer 2), .int .i64 (zer 3), .int .i64 (zer 4), .int .i64 (zer 5), .int .i64 (zer 6), .int .i64 (zer 7)] 24)) := ⟨_, rfl⟩
    have O : Off (fun _ => False) w W := by rw [hW]; exact (((Off.refl _ w).alloc _).alloc _).alloc _
    have C0 : Cel w.heap.size 24 #[.int .i64 (f 0), .int .i64 (f 1), .int .i64 (f 2), .int .i64 (f 3), .int .i64 (f 4), .int .i64 (f 5), .int .i64 (f 6), .int .i64 (f 7)] W := by rw [hW]; exact ((Cel.new w _ _).alloc _).alloc _
    have C1 : Cel (w.heap.size + 1) 34 #[.int .i64 (m : Int), .int .i64 N] W := by rw [hW]; exact (Cel.new1 w _ _ _).alloc _
    have C2 : Cel (w.heap.size + 2) 24 #[.int .i64 (zer 0), .int .i64 (zer 1), .int .i64 (zer 2), .int .i64 (zer 3), .int .i64 (zer 4), .int .i64 (zer 5), .int .i64 (zer 6), .int .i64 (zer 7)] W := by rw [hW]; exact Cel.new2 w _ _ _ _
    rw [show (Obj.cells #[.int .i64 0, .int .i64 0, .int .i64 0, .int .i64 0, .int .i64 0, .int .i64 0, .int .i64 0, .int .i64 0] 24) = .cells #[.int .i64 (zer 0), .int .i64 (zer 1), .int .i64 (zer 2), .int .i64 (zer 3), .int .i64 (zer 4), .int .i64 (zer 5), .int .i64 (zer 6), .int .i64 (zer 7)] 24 from rfl, ← hW]
    clear hW
    have hc : W.cell? ⟨w.heap.size, m, none⟩ = some (.int .i64 (f m)) := (C0.cell m).trans (vec_get f hm)
    have hf : W.frozen? ⟨w.heap.size, m, none⟩ = false := C0.free m
    refine wp_region_held_drew (S := fun w' => Cel (w.heap.size + 1) 34 #[.int .i64 (m : Int), .int .i64 N] w') (by kernel_rfl) C1.drew (fun hS => ?_)
    refine take_at (i := 0) 8 (v := .pointer (some ⟨w.heap.size + 1, 0, none⟩)) rfl rfl (by kernel_rfl) (by kernel_rfl) (by kernel_rfl) (fun _ _ _ h => h) (Or.inl ⟨by rfl, fun w' hw' => by go_simp⟩) hS ?_
    simp only [Act.put, List.setIfInBounds_toArray, List.set_cons_zero, List.set_cons_succ]
    refine take_at (i := 1) 9 (v := .int .i64 (m : Int)) rfl rfl (by kernel_rfl) (by kernel_rfl) (by kernel_rfl) (fun _ _ _ h => h) (Or.inl ⟨by rfl, fun w' hw' => by have x0 := hw'.cell 0; have x1 := hw'.cell 1; simp at x0 x1; go_simp⟩) hS ?_
    simp only [Act.put, List.setIfInBounds_toArray, List.set_cons_zero, List.set_cons_succ]
    refine take_at (i := 2) 10 (v := .pointer (some ⟨w.heap.size + 1, 0, none⟩)) rfl rfl (by kernel_rfl) (by kernel_rfl) (by kernel_rfl) (fun _ _ _ h => h) (Or.inl ⟨by rfl, fun w' hw' => by go_simp⟩) hS ?_
    simp only [Act.put, List.setIfInBounds_toArray, List.set_cons_zero, List.set_cons_succ]
    refine take_at (i := 3) 11 (v := .int .i64 (m : Int)) rfl rfl (by kernel_rfl) (by kernel_rfl) (by kernel_rfl) (fun _ _ _ h => h) (Or.inl ⟨by rfl, fun w' hw' => by have x0 := hw'.cell 0; have x1 := hw'.cell 1; simp at x0 x1; go_simp⟩) hS ?_
    simp only [Act.put, List.setIfInBounds_toArray, List.set_cons_zero, List.set_cons_succ]
    refine take_at (i := 4) 12 (v := .pointer (some ⟨w.heap.size, m, none⟩)) rfl rfl (by kernel_rfl) (by kernel_rfl) (by kernel_rfl) (fun _ _ _ h => h) (Or.inl ⟨by rfl, fun w' hw' => by go_simp⟩) hS ?_
    simp only [Act.put, List.setIfInBounds_toArray, List.set_cons_zero, List.set_cons_succ]
    refine take_at (i := 6) 14 (v := .pointer (some ⟨w.heap.size + 1, 1, none⟩)) rfl rfl (by kernel_rfl) (by kernel_rfl) (by kernel_rfl) (fun _ _ _ h => h) (Or.inl ⟨by rfl, fun w' hw' => by go_simp⟩) hS ?_
    simp only [Act.put, List.setIfInBounds_toArray, List.set_cons_zero, List.set_cons_succ]
    refine take_at (i := 7) 15 (v := .int .i64 N) rfl rfl (by kernel_rfl) (by kernel_rfl) (by kernel_rfl) (fun _ _ _ h => h) (Or.inl ⟨by rfl, fun w' hw' => by have x0 := hw'.cell 0; have x1 := hw'.cell 1; simp at x0 x1; go_simp⟩) hS ?_
    simp only [Act.put, List.setIfInBounds_toArray, List.set_cons_zero, List.set_cons_succ]
    refine wpAnyH_ready (rs := [5]) (by kernel_rfl) (by simp) ?_
    refine AllReadyH.cons rfl (fun K' hK' => ?_) AllReadyH.nil
    go_simp
    refine hK'.out _ _ hS (fun hS => ?_)
    clear hK' K'
    refine take_at (i := 8) 16 (v := .int .i64 (max (f m) N)) rfl rfl (by kernel_rfl) (by kernel_rfl) (by kernel_rfl) (fun _ _ _ h => h) (Or.inl ⟨by rfl, fun w' hw' => by go_simp⟩) hS ?_
    simp only [Act.put, List.setIfInBounds_toArray, List.set_cons_zero, List.set_cons_succ]
    refine take_at (i := 9) 17 (v := .pointer (some ⟨w.heap.size, m, none⟩)) rfl rfl (by kernel_rfl) (by kernel_rfl) (by kernel_rfl) (fun _ _ _ h => h) (Or.inl ⟨by rfl, fun w' hw' => by go_simp⟩) hS ?_
    simp only [Act.put, List.setIfInBounds_toArray, List.set_cons_zero, List.set_cons_succ]
    refine wpAnyH_ready (rs := [10]) (by kernel_rfl) (by simp) ?_
    refine AllReadyH.cons rfl (fun K' hK' => ?_) AllReadyH.nil
    go_simp
    refine hK'.out _ _ (hS.other (by simp) _) (fun hS => ?_)
    clear hK' K'
    refine wpAnyH_done (by kernel_rfl) ?_ _
    have G0 : Cel w.heap.size 24 #[.int .i64 (upd f m (max (f m) N) 0), .int .i64 (upd f m (max (f m) N) 1), .int .i64 (upd f m (max (f m) N) 2), .int .i64 (upd f m (max (f m) N) 3), .int .i64 (upd f m (max (f m) N) 4), .int .i64 (upd f m (max (f m) N) 5), .int .i64 (upd f m (max (f m) N) 6), .int .i64 (upd f m (max (f m) N) 7)] (W.setCell ⟨w.heap.size, m, none⟩ (.int .i64 (max (f m) N))).drew := by
      have := C0.set m (.int .i64 (max (f m) N))
      rw [vec_set f hm] at this
      exact this.drew
    have G2 : Cel (w.heap.size + 2) 24 #[.int .i64 (zer 0), .int .i64 (zer 1), .int .i64 (zer 2), .int .i64 (zer 3), .int .i64 (zer 4), .int .i64 (zer 5), .int .i64 (zer 6), .int .i64 (zer 7)] (W.setCell ⟨w.heap.size, m, none⟩ (.int .i64 (max (f m) N))).drew := (C2.other (by simp) _).drew
    have OO : Off (fun _ => False) w (W.setCell ⟨w.heap.size, m, none⟩ (.int .i64 (max (f m) N))).drew := (O.setCell (.inr (by simp)) _).drew
    obtain ⟨V, hV⟩ : ∃ V, V = (W.setCell ⟨w.heap.size, m, none⟩ (.int .i64 (max (f m) N))).drew := ⟨_, rfl⟩
    rw [← hV] at G0 G2 OO ⊢
    clear hV hc hf C0 C1 C2 O hx ha hS
    obtain ⟨c0, c1, c2, c3, c4, c5, c6, c7⟩ := cel8 G0
    obtain ⟨d0, d1, d2, d3, d4, d5, d6, d7⟩ := cel8 G2
    have fr := G2.free
    go_wp2_with fail
    refine bodyPost_ret (results_vec rfl rfl (G2.st8 (upd f m (max (f m) N)))) rfl ?_
    rw [hv.out]
    exact ⟨rfl, OO.st8 (.inr (by omega)) _⟩
  · have h0 : nodeB n = false := by simpa using h0
    have hv : Hid (withV f n N = f) := by show withV f n N = _; simp [withV, h0]
    go_enter Try.func14, Try.ntmps14
    go_wp2_with fail
    refine (node_any _ _).mono ?_
    rintro e w1 ⟨rfl, hw⟩
    rw [hw]; clear hw w1
    rw [h0]
    go_wp2_with fail
    refine bodyPost_ret (results_vec rfl rfl (Cel.new2 w _ _ _ _)) rfl ?_
    rw [hv.out]
    exact ⟨rfl, (((Off.refl _ w).alloc _).alloc _).alloc _⟩
end Go.Proofs.Ytfkpnmmcdhibbac
