/- The walk of FramePuts. -/
import Derived.Test.YtjhhplagnnkpeaaArg7
import Derived.Test.YtjhhplagnnkpeaaRTake7
import Derived.Laws.Concat
namespace Go.Proofs.Ytjhhplagnnkpeaa
open Go.RowKit

theorem strOf_size (a : List Nat) : (strOf a).size = a.length := by simp [strOf, strOfNums_size]
theorem strOf_app (a b : List Nat) : strOf a ++ strOf b = strOf (a ++ b) := by
  apply ByteArray.ext
  simp [strOf, strOfNums]

set_option maxRecDepth 100000 in
set_option maxHeartbeats 1000000 in
theorem puts_walk (tb : Option Addr) (cb : Nat) (bs : List Nat) (tr : Option Addr) (cr : Nat) (rs : List Nat) (w : World) (hb : ArgB w tb bs.length cb bs) (hr : ArgB w tr rs.length cr rs) :
    Calls Try.prog 3 #[.slice tb bs.length cb, .slice tr rs.length cr] w fun e w' => e = .returned (.bool true) ∧ Off (fun _ => False) w w' := by
  have HIB : Hid _ := hb.inp
  have HIR : Hid _ := hr.inp
  have lb := hb.bound
  have lr := hr.bound
  clear hb hr
  by_cases hl : 60000 < rs.length
  · have d1 : decide ((60000 : Int) < (rs.length : Int)) = true := decide_eq_true (by omega)
    go_enter Try.func3, Try.ntmps3
    go_wp2_with fail
    refine (putLong_any tb cb bs.length tr cr rs hl).mono ?_
    rintro e v1 ⟨rfl, hv⟩
    rw [hv]
    clear hv v1
    go_wp2_with fail
    refine (awake_any _).mono ?_
    rintro e va ⟨rfl, oa⟩
    go_wp2_with fail
    go_ret
    exact ⟨rfl, oa⟩
  have d1 : decide ((60000 : Int) < (rs.length : Int)) = false := decide_eq_false (by omega)
  have z1 := strOf_size bs
  have z2 := strOf_size (frm rs)
  rw [frm_len] at z2
  have z3 := strOf_app bs (frm rs)
  have n1 : ¬ (bs.length + (rs.length + 8) > 9223372036854775807) := by omega
  go_enter Try.func3, Try.ntmps3
  go_wp2_with fail
  refine (put_any HIB.out HIR.out (by omega) (by omega)).mono ?_
  rintro e v1 ⟨t, c, rfl, R1, -, O1⟩
  have lys : (bs ++ frm rs).length ≤ 9223372036854775807 := by rw [List.length_append, frm_len]; omega
  generalize hys : bs ++ frm rs = ys at R1 z3 lys ⊢
  have HYS : Hid _ := hys
  have F1 : Hid _ := O1
  have HSY : Hid _ := R1.src
  have HSB : Hid _ := (HIB.out.free F1.out).src
  have HIR1 : Hid _ := HIR.out.free F1.out
  clear hys O1 R1
  go_upto_region 4 with fail
  refine wp_region_held_drew (S := fun w' => Off (fun _ => False) v1 w') (by kernel_rfl) ((Off.refl _ v1).drew) (fun hS => ?_)
  generalize hdr : v1.drew = v2 at hS ⊢
  clear hdr
  refine take_at (i := 0) 26 (v := .int .i64 0) rfl rfl (by kernel_rfl) (by kernel_rfl) (by kernel_rfl) (fun _ _ _ h => h) (Or.inl ⟨by rfl, fun w' hw' => by go_simp⟩) hS ?_
  simp only [Act.put, List.setIfInBounds_toArray, List.set_cons_zero, List.set_cons_succ]
  refine take_at (i := 1) 27 (v := .bool true) rfl rfl (by kernel_rfl) (by kernel_rfl) (by kernel_rfl) (fun _ _ _ h => h) (Or.inl ⟨by rfl, fun w' hw' => by go_simp⟩) hS ?_
  simp only [Act.put, List.setIfInBounds_toArray, List.set_cons_zero, List.set_cons_succ]
  refine take_at (i := 2) 28 (v := .bool true) rfl rfl (by kernel_rfl) (by kernel_rfl) (by kernel_rfl) (fun _ _ _ h => h) (Or.inl ⟨by rfl, fun w' hw' => by go_simp⟩) hS ?_
  simp only [Act.put, List.setIfInBounds_toArray, List.set_cons_zero, List.set_cons_succ]
  refine take_at (i := 3) 29 (v := .slice t ys.length c) rfl rfl (by kernel_rfl) (by kernel_rfl) (by kernel_rfl) (fun _ _ _ h => h) (Or.inl ⟨by rfl, fun w' hw' => by go_simp⟩) hS ?_
  simp only [Act.put, List.setIfInBounds_toArray, List.set_cons_zero, List.set_cons_succ]
  refine take_at (i := 4) 30 (v := .string (strOf ys)) rfl rfl (by kernel_rfl) (by kernel_rfl) (by kernel_rfl) (fun _ _ _ h => h) (Or.inl ⟨by rfl, fun w' hw' => by have hcs := conv_src (HSY.out.off hw' (fun _ _ _ h => h)); go_simp⟩) hS ?_
  simp only [Act.put, List.setIfInBounds_toArray, List.set_cons_zero, List.set_cons_succ]
  refine take_at (i := 5) 31 (v := .slice tb bs.length cb) rfl rfl (by kernel_rfl) (by kernel_rfl) (by kernel_rfl) (fun _ _ _ h => h) (Or.inl ⟨by rfl, fun w' hw' => by go_simp⟩) hS ?_
  simp only [Act.put, List.setIfInBounds_toArray, List.set_cons_zero, List.set_cons_succ]
  refine take_at (i := 6) 32 (v := .string (strOf bs)) rfl rfl (by kernel_rfl) (by kernel_rfl) (by kernel_rfl) (fun _ _ _ h => h) (Or.inl ⟨by rfl, fun w' hw' => by have hcs := conv_src (HSB.out.off hw' (fun _ _ _ h => h)); go_simp⟩) hS ?_
  simp only [Act.put, List.setIfInBounds_toArray, List.set_cons_zero, List.set_cons_succ]
  refine take_at (i := 7) 33 (v := .slice tr rs.length cr) rfl rfl (by kernel_rfl) (by kernel_rfl) (by kernel_rfl) (fun _ _ _ h => h) (Or.inl ⟨by rfl, fun w' hw' => by go_simp⟩) hS ?_
  simp only [Act.put, List.setIfInBounds_toArray, List.set_cons_zero, List.set_cons_succ]
  refine wpAnyH_ready (rs := [8]) (by kernel_rfl) (by simp) ?_
  refine AllReadyH.cons rfl (fun K' hK' => ?_) AllReadyH.nil
  go_simp
  refine (rframe_any (HIR1.out.free hS) (by omega)).mono ?_
  rintro e v3 ⟨t3, c3, rfl, R3, -, O3⟩
  have hcs := conv_src R3.src
  clear R3
  refine hK'.out _ _ (hS.trans O3 (fun _ _ h => h)) (fun hS => ?_)
  clear hK' K'
  refine wpAnyH_ready (rs := [9]) (by kernel_rfl) (by simp) ?_
  refine AllReadyH.cons rfl (fun K' hK' => ?_) AllReadyH.nil
  go_simp
  refine hK'.out _ _ hS (fun hS => ?_)
  clear hK' K'
  clear hcs
  refine take_at (i := 10) 36 (v := .string (strOf ys)) rfl rfl (by kernel_rfl) (by kernel_rfl) (by kernel_rfl) (fun _ _ _ h => h) (Or.inl ⟨by rfl, fun w' hw' => by go_simp⟩) hS ?_
  simp only [Act.put, List.setIfInBounds_toArray, List.set_cons_zero, List.set_cons_succ]
  refine take_at (i := 11) 37 (v := .bool true) rfl rfl (by kernel_rfl) (by kernel_rfl) (by kernel_rfl) (fun _ _ _ h => h) (Or.inl ⟨by rfl, fun w' hw' => by go_simp⟩) hS ?_
  simp only [Act.put, List.setIfInBounds_toArray, List.set_cons_zero, List.set_cons_succ]
  refine take_at (i := 12) 38 (v := .bool true) rfl rfl (by kernel_rfl) (by kernel_rfl) (by kernel_rfl) (fun _ _ _ h => h) (Or.inl ⟨by rfl, fun w' hw' => by go_simp⟩) hS ?_
  simp only [Act.put, List.setIfInBounds_toArray, List.set_cons_zero, List.set_cons_succ]
  refine take_at (i := 13) 39 (v := .bool true) rfl rfl (by kernel_rfl) (by kernel_rfl) (by kernel_rfl) (fun _ _ _ h => h) (Or.inl ⟨by rfl, fun w' hw' => by go_simp⟩) hS ?_
  simp only [Act.put, List.setIfInBounds_toArray, List.set_cons_zero, List.set_cons_succ]
  refine wpAnyH_ready (rs := [14]) (by kernel_rfl) (by simp) ?_
  refine AllReadyH.cons rfl (fun K' hK' => ?_) AllReadyH.nil
  go_simp
  refine (awake_any _).mono ?_
  rintro e v4 ⟨rfl, O4⟩
  refine hK'.out _ _ (hS.trans O4 (fun _ _ h => h)) (fun hS => ?_)
  clear hK' K'
  refine take_at (i := 15) 41 (v := .bool true) rfl rfl (by kernel_rfl) (by kernel_rfl) (by kernel_rfl) (fun _ _ _ h => h) (Or.inl ⟨by rfl, fun w' hw' => by go_simp⟩) hS ?_
  simp only [Act.put, List.setIfInBounds_toArray, List.set_cons_zero, List.set_cons_succ]
  refine take_at (i := 16) 4 (v := .bool true) rfl rfl (by kernel_rfl) (by kernel_rfl) (by kernel_rfl) (fun _ _ _ h => h) (Or.inl ⟨by rfl, fun w' hw' => by go_simp⟩) hS ?_
  simp only [Act.put, List.setIfInBounds_toArray, List.set_cons_zero, List.set_cons_succ]
  refine wpAnyH_done (by kernel_rfl) ?_ _
  go_wp2_with fail
  go_ret
  exact ⟨rfl, F1.out.trans hS (fun _ _ h => h)⟩
end Go.Proofs.Ytjhhplagnnkpeaa
