/- Items of several texts. -/
import Derived.Test.YtpnnpdfmoldiiaaQTake
namespace Go.Proofs.Ytpnnpdfmoldiiaa
open Go.RowKit
def leqB (f g : Nat → Int) : Bool := @decide (∀ j, j < 8 → f j ≤ g j) (dec8 (fun j => f j ≤ g j) (fun _ => inferInstance))
set_option maxRecDepth 100000 in
set_option maxHeartbeats 1000000 in
theorem leq_any (a b : Nat → Int) (w : World) : Calls Try.prog 53 #[.agg #[.int .i64 (a 0), .int .i64 (a 1), .int .i64 (a 2), .int .i64 (a 3), .int .i64 (a 4), .int .i64 (a 5), .int .i64 (a 6), .int .i64 (a 7)], .agg #[.int .i64 (b 0), .int .i64 (b 1), .int .i64 (b 2), .int .i64 (b 3), .int .i64 (b 4), .int .i64 (b 5), .int .i64 (b 6), .int .i64 (b 7)]] w fun e w' => e = .returned (.bool (leqB a b)) ∧ Off (fun _ => False) w w' := by
 go_enter Try.func53, Try.ntmps53
 go_wp2_with fail
 obtain ⟨W, hW⟩ : ∃ W, W = ((w.alloc (.cells #[.int .i64 (a 0), .int .i64 (a 1), .int .i64 (a 2), .int .i64 (a 3), .int .i64 (a 4), .int .i64 (a 5), .int .i64 (a 6), .int .i64 (a 7)] 24)).alloc (.cells #[.int .i64 (b 0), .int .i64 (b 1), .int .i64 (b 2), .int .i64 (b 3), .int .i64 (b 4), .int .i64 (b 5), .int .i64 (b 6), .int .i64 (b 7)] 24)) := ⟨_, rfl⟩
 have O : Off (fun _ => False) w W := by rw [hW]; exact ((Off.refl _ w).alloc _).alloc _
 have C0 : Cel w.heap.size 24 #[.int .i64 (a 0), .int .i64 (a 1), .int .i64 (a 2), .int .i64 (a 3), .int .i64 (a 4), .int .i64 (a 5), .int .i64 (a 6), .int .i64 (a 7)] W.drew := by rw [hW]; exact ((Cel.new w _ _).alloc _).drew
 have C1 : Cel (w.heap.size + 1) 24 #[.int .i64 (b 0), .int .i64 (b 1), .int .i64 (b 2), .int .i64 (b 3), .int .i64 (b 4), .int .i64 (b 5), .int .i64 (b 6), .int .i64 (b 7)] W.drew := by rw [hW]; exact (Cel.new1 w _ _ _).drew
 rw [← hW]
 clear hW
 refine wp_region_held_drew (S := fun w' => Cel w.heap.size 24 #[.int .i64 (a 0), .int .i64 (a 1), .int .i64 (a 2), .int .i64 (a 3), .int .i64 (a 4), .int .i64 (a 5), .int .i64 (a 6), .int .i64 (a 7)] w' ∧ Cel (w.heap.size + 1) 24 #[.int .i64 (b 0), .int .i64 (b 1), .int .i64 (b 2), .int .i64 (b 3), .int .i64 (b 4), .int .i64 (b 5), .int .i64 (b 6), .int .i64 (b 7)] w') (by kernel_rfl) ⟨C0, C1⟩ (fun hS => ?_)
 clear C0 C1
 refine take_at (i := 0) 5 (v := .agg #[.int .i64 (a 0), .int .i64 (a 1), .int .i64 (a 2), .int .i64 (a 3), .int .i64 (a 4), .int .i64 (a 5), .int .i64 (a 6), .int .i64 (a 7)]) rfl rfl (by kernel_rfl) (by kernel_rfl) (by kernel_rfl) (fun _ _ _ h => h) (Or.inl ⟨by rfl, fun w' hw' => by obtain ⟨ca, cb⟩ := hw'; obtain ⟨x0, x1, x2, x3, x4, x5, x6, x7⟩ := cel8 ca; go_simp⟩) hS ?_
 simp only [Act.put, lsA, lsZ, lsS]
 refine take_at (i := 1) 6 (v := .agg #[.int .i64 (b 0), .int .i64 (b 1), .int .i64 (b 2), .int .i64 (b 3), .int .i64 (b 4), .int .i64 (b 5), .int .i64 (b 6), .int .i64 (b 7)]) rfl rfl (by kernel_rfl) (by kernel_rfl) (by kernel_rfl) (fun _ _ _ h => h) (Or.inl ⟨by rfl, fun w' hw' => by obtain ⟨ca, cb⟩ := hw'; obtain ⟨x0, x1, x2, x3, x4, x5, x6, x7⟩ := cel8 cb; go_simp⟩) hS ?_
 simp only [Act.put, lsA, lsZ, lsS]
 refine take_at (i := 3) 8 (v := .agg #[.int .i64 (b 0), .int .i64 (b 1), .int .i64 (b 2), .int .i64 (b 3), .int .i64 (b 4), .int .i64 (b 5), .int .i64 (b 6), .int .i64 (b 7)]) rfl rfl (by kernel_rfl) (by kernel_rfl) (by kernel_rfl) (fun _ _ _ h => h) (Or.inl ⟨by rfl, fun w' hw' => by obtain ⟨ca, cb⟩ := hw'; obtain ⟨x0, x1, x2, x3, x4, x5, x6, x7⟩ := cel8 cb; go_simp⟩) hS ?_
 simp only [Act.put, lsA, lsZ, lsS]
 refine wpAnyH_ready (rs := [2]) (by kernel_rfl) (by simp) ?_
 refine AllReadyH.cons rfl (fun K' hK' => ?_) AllReadyH.nil
 go_simp
 refine (join_any a b _).mono ?_
 rintro e v1 ⟨g, rfl, hg, o1⟩
 have O1 : Off (fun _ => False) w v1 := O.drew.trans o1 (fun _ _ h => h)
 refine hK'.out _ _ ⟨hS.1.off o1 (fun h => h), hS.2.off o1 (fun h => h)⟩ (fun hS => ?_)
 have HG : Hid _ := hg
 clear hK' K' hg
 refine take_at (i := 4) 9 (v := .bool (eqB g b)) rfl rfl (by kernel_rfl) (by kernel_rfl) (by kernel_rfl) (fun _ _ _ h => h) (Or.inl ⟨by rfl, fun w' hw' => by have e := eql_vec g b; go_simp⟩) hS ?_
 simp only [Act.put, lsA, lsZ, lsS]
 refine take_at (i := 5) 4 (v := .bool (eqB g b)) rfl rfl (by kernel_rfl) (by kernel_rfl) (by kernel_rfl) (fun _ _ _ h => h) (Or.inl ⟨by rfl, fun w' hw' => by go_simp⟩) hS ?_
 simp only [Act.put, lsA, lsZ, lsS]
 refine wpAnyH_done (by kernel_rfl) ?_ _
 go_wp2_with fail
 go_ret
 refine ⟨?_, O1⟩
 have hx : eqB g b = leqB a b := by
  rw [Bool.eq_iff_iff]
  simp only [eqB, leqB, decide_eq_true_eq]
  constructor
  ·intro h j hj
   have := h j hj
   rw [HG.out j hj] at this
   omega
  ·intro h j hj
   rw [HG.out j hj]
   have := h j hj
   omega
 rw [← hx]
 rfl
end Go.Proofs.Ytpnnpdfmoldiiaa
