/- The walk of DiskSyncs. -/
import Derived.Test.YtibnhgpenfcinabAtt
namespace Go.Proofs.Ytibnhgpenfcinab
open Go.RowKit

set_option maxRecDepth 100000 in
set_option maxHeartbeats 1000000 in
theorem syncs_walk (ta : Option Addr) (ca : Nat) (xs : List Nat) (tb : Option Addr) (cb : Nat) (bs : List Nat) (p q : Int) (w : World) (ha : ArgB w ta xs.length ca xs) (hb : ArgB w tb bs.length cb bs) (_ : -9223372036854775808 ≤ p ∧ p ≤ 9223372036854775807) (_ : -9223372036854775808 ≤ q ∧ q ≤ 9223372036854775807) :
    Calls Try.prog 3 #[.slice ta xs.length ca, .slice tb bs.length cb, .int .i64 p, .int .i64 q] w fun e w' => e = .returned (.bool true) ∧ Off (fun _ => False) w w' := by
  have HA : Hid _ := ha.src
  have HB : Hid _ := hb.src
  have la := ha.bound
  have lb := hb.bound
  clear ha hb
  by_cases h1 : 3000 < xs.length
  · have d1 : decide ((3000 : Int) < (xs.length : Int)) = true := by simp; omega
    go_enter Try.func3, Try.ntmps3
    go_wp2_with fail
    refine (awake_any _).mono ?_
    rintro e v ⟨rfl, o⟩
    go_wp2_with fail
    go_ret
    exact ⟨rfl, o⟩
  have d1 : decide ((3000 : Int) < (xs.length : Int)) = false := by simp; omega
  by_cases h2 : 3000 < bs.length
  · have d2 : decide ((3000 : Int) < (bs.length : Int)) = true := by simp; omega
    go_enter Try.func3, Try.ntmps3
    go_wp2_with fail
    refine (awake_any _).mono ?_
    rintro e v ⟨rfl, o⟩
    go_wp2_with fail
    go_ret
    exact ⟨rfl, o⟩
  have d2 : decide ((3000 : Int) < (bs.length : Int)) = false := by simp; omega
  have hro : roomOf 10000 = 10000 := rfl
  obtain ⟨eE, eA⟩ := app_yes (m := 10000) (bs := []) (xs := xs) (by simp; omega)
  rw [List.nil_append] at eA
  obtain ⟨eR, eL, eS⟩ := rep_yes (m := 10000) (s := xs.length) (bs := xs) (xs := bs) (by omega)
  go_enter Try.func3, Try.ntmps3
  go_wp2_with fail
  refine (anew_any 10000 (Off.refl _ w)).mono ?_
  rintro e v1 ⟨b, rfl, A, -, -⟩
  rw [hro] at A
  go_wp2_with fail
  refine (aappend_any A ta ca xs (HA.out.off A.off (fun _ _ _ h => h)) (by omega)).mono ?_
  rintro e v2 ⟨rfl, A2⟩
  rw [eE] at *
  rw [eA] at A2
  clear A
  go_wp2_with fail
  refine (async_any A2).mono ?_
  rintro e v0 ⟨rfl, A0⟩
  clear A2
  go_wp2_with fail
  refine (acrash_all A0 p).mono ?_
  rintro e v3 ⟨rfl, A⟩
  clear A0
  go_upto_region 7 with fail
  refine wp_region_held_drew (S := fun w' => Off (fun _ => False) w w') (by kernel_rfl) A.off.drew (fun hS => ?_)
  replace A := A.free ((Off.refl _ v3).drew)
  generalize hdr : v3.drew = v4 at A hS ⊢
  clear hdr
  refine take_at (i := 0) 32 (v := .pointer (some ⟨b, 0, none⟩)) rfl rfl (by kernel_rfl) (by kernel_rfl) (by kernel_rfl) (fun _ _ _ h => h) (Or.inl ⟨by rfl, fun w' hw' => by go_simp⟩) hS ?_
  simp only [Act.put, List.setIfInBounds_toArray, List.set_cons_zero, List.set_cons_succ]
  refine take_at (i := 3) 35 (v := .slice ta xs.length ca) rfl rfl (by kernel_rfl) (by kernel_rfl) (by kernel_rfl) (fun _ _ _ h => h) (Or.inl ⟨by rfl, fun w' hw' => by go_simp⟩) hS ?_
  simp only [Act.put, List.setIfInBounds_toArray, List.set_cons_zero, List.set_cons_succ]
  refine take_at (i := 4) 36 (v := .string (strOf xs)) rfl rfl (by kernel_rfl) (by kernel_rfl) (by kernel_rfl) (fun _ _ _ h => h) (Or.inl ⟨by rfl, fun w' hw' => by have hcs := conv_src (HA.out.off hw' (fun _ _ _ h => h)); go_simp⟩) hS ?_
  simp only [Act.put, List.setIfInBounds_toArray, List.set_cons_zero, List.set_cons_succ]
  refine wpAnyH_ready (rs := [1]) (by kernel_rfl) (by simp) ?_
  refine AllReadyH.cons rfl (fun K' hK' => ?_) AllReadyH.nil
  go_simp
  refine (abytes_any A).mono ?_
  rintro e v5 ⟨t5, c5, rfl, own, -, A5, o5⟩
  have hcs := conv_src own.src
  clear o5 own
  refine hK'.out _ _ (A5.off) (fun hS => ?_)
  clear hK' K'
  refine wpAnyH_ready (rs := [2]) (by kernel_rfl) (by simp) ?_
  refine AllReadyH.cons rfl (fun K' hK' => ?_) AllReadyH.nil
  go_simp
  refine hK'.out _ _ hS (fun hS => ?_)
  clear hK' K'
  clear hcs
  refine take_at (i := 5) 37 (v := .bool false) rfl rfl (by kernel_rfl) (by kernel_rfl) (by kernel_rfl) (fun _ _ _ h => h) (Or.inl ⟨by rfl, fun w' hw' => by go_simp⟩) hS ?_
  simp only [Act.put, List.setIfInBounds_toArray, List.set_cons_zero, List.set_cons_succ]
  refine take_at (i := 6) 38 (v := .bool false) rfl rfl (by kernel_rfl) (by kernel_rfl) (by kernel_rfl) (fun _ _ _ h => h) (Or.inl ⟨by rfl, fun w' hw' => by go_simp⟩) hS ?_
  simp only [Act.put, List.setIfInBounds_toArray, List.set_cons_zero, List.set_cons_succ]
  refine take_at (i := 7) 39 (v := .pointer (some ⟨b, 0, none⟩)) rfl rfl (by kernel_rfl) (by kernel_rfl) (by kernel_rfl) (fun _ _ _ h => h) (Or.inl ⟨by rfl, fun w' hw' => by go_simp⟩) hS ?_
  simp only [Act.put, List.setIfInBounds_toArray, List.set_cons_zero, List.set_cons_succ]
  refine take_at (i := 8) 40 (v := .slice tb bs.length cb) rfl rfl (by kernel_rfl) (by kernel_rfl) (by kernel_rfl) (fun _ _ _ h => h) (Or.inl ⟨by rfl, fun w' hw' => by go_simp⟩) hS ?_
  simp only [Act.put, List.setIfInBounds_toArray, List.set_cons_zero, List.set_cons_succ]
  refine wpAnyH_ready (rs := [9]) (by kernel_rfl) (by simp) ?_
  refine AllReadyH.cons rfl (fun K' hK' => ?_) AllReadyH.nil
  go_simp
  refine (areplace_any A5 tb cb bs (HB.out.off A5.off (fun _ _ _ h => h)) (by omega)).mono ?_
  rintro e v6 ⟨rfl, A6⟩
  rw [eR] at *
  rw [eL, eS] at A6
  refine hK'.out _ _ (A6.off) (fun hS => ?_)
  clear hK' K'
  refine take_at (i := 10) 42 (v := .bool false) rfl rfl (by kernel_rfl) (by kernel_rfl) (by kernel_rfl) (fun _ _ _ h => h) (Or.inl ⟨by rfl, fun w' hw' => by go_simp⟩) hS ?_
  simp only [Act.put, List.setIfInBounds_toArray, List.set_cons_zero, List.set_cons_succ]
  refine take_at (i := 11) 43 (v := .bool false) rfl rfl (by kernel_rfl) (by kernel_rfl) (by kernel_rfl) (fun _ _ _ h => h) (Or.inl ⟨by rfl, fun w' hw' => by go_simp⟩) hS ?_
  simp only [Act.put, List.setIfInBounds_toArray, List.set_cons_zero, List.set_cons_succ]
  refine wpAnyH_done (by kernel_rfl) ?_ _
  clear A A5
  go_wp2_with fail
  refine (acrash_all A6 q).mono ?_
  rintro e v7 ⟨rfl, A7⟩
  go_upto_region 10 with fail
  refine wp_region_held_drew (S := fun w' => Off (fun _ => False) w w') (by kernel_rfl) A7.off.drew (fun hS => ?_)
  replace A7 := A7.free ((Off.refl _ v7).drew)
  generalize hdr : v7.drew = v8 at A7 hS ⊢
  clear hdr
  refine take_at (i := 0) 47 (v := .pointer (some ⟨b, 0, none⟩)) rfl rfl (by kernel_rfl) (by kernel_rfl) (by kernel_rfl) (fun _ _ _ h => h) (Or.inl ⟨by rfl, fun w' hw' => by go_simp⟩) hS ?_
  simp only [Act.put, List.setIfInBounds_toArray, List.set_cons_zero, List.set_cons_succ]
  refine take_at (i := 3) 50 (v := .slice tb bs.length cb) rfl rfl (by kernel_rfl) (by kernel_rfl) (by kernel_rfl) (fun _ _ _ h => h) (Or.inl ⟨by rfl, fun w' hw' => by go_simp⟩) hS ?_
  simp only [Act.put, List.setIfInBounds_toArray, List.set_cons_zero, List.set_cons_succ]
  refine take_at (i := 4) 51 (v := .string (strOf bs)) rfl rfl (by kernel_rfl) (by kernel_rfl) (by kernel_rfl) (fun _ _ _ h => h) (Or.inl ⟨by rfl, fun w' hw' => by have hcs := conv_src (HB.out.off hw' (fun _ _ _ h => h)); go_simp⟩) hS ?_
  simp only [Act.put, List.setIfInBounds_toArray, List.set_cons_zero, List.set_cons_succ]
  refine wpAnyH_ready (rs := [1]) (by kernel_rfl) (by simp) ?_
  refine AllReadyH.cons rfl (fun K' hK' => ?_) AllReadyH.nil
  go_simp
  refine (abytes_any A7).mono ?_
  rintro e v9 ⟨t9, c9, rfl, own, -, A9, o9⟩
  have hcs := conv_src own.src
  clear o9 own
  refine hK'.out _ _ (A9.off) (fun hS => ?_)
  clear hK' K'
  refine wpAnyH_ready (rs := [2]) (by kernel_rfl) (by simp) ?_
  refine AllReadyH.cons rfl (fun K' hK' => ?_) AllReadyH.nil
  go_simp
  refine hK'.out _ _ hS (fun hS => ?_)
  clear hK' K'
  clear hcs
  refine take_at (i := 5) 52 (v := .bool true) rfl rfl (by kernel_rfl) (by kernel_rfl) (by kernel_rfl) (fun _ _ _ h => h) (Or.inl ⟨by rfl, fun w' hw' => by go_simp⟩) hS ?_
  simp only [Act.put, List.setIfInBounds_toArray, List.set_cons_zero, List.set_cons_succ]
  refine take_at (i := 6) 53 (v := .bool true) rfl rfl (by kernel_rfl) (by kernel_rfl) (by kernel_rfl) (fun _ _ _ h => h) (Or.inl ⟨by rfl, fun w' hw' => by go_simp⟩) hS ?_
  simp only [Act.put, List.setIfInBounds_toArray, List.set_cons_zero, List.set_cons_succ]
  refine wpAnyH_ready (rs := [7]) (by kernel_rfl) (by simp) ?_
  refine AllReadyH.cons rfl (fun K' hK' => ?_) AllReadyH.nil
  go_simp
  refine (awake_any _).mono ?_
  rintro e v10 ⟨rfl, o10⟩
  refine hK'.out _ _ (A9.off.trans o10 (fun _ _ h => h)) (fun hS => ?_)
  clear hK' K'
  refine take_at (i := 8) 55 (v := .bool true) rfl rfl (by kernel_rfl) (by kernel_rfl) (by kernel_rfl) (fun _ _ _ h => h) (Or.inl ⟨by rfl, fun w' hw' => by go_simp⟩) hS ?_
  simp only [Act.put, List.setIfInBounds_toArray, List.set_cons_zero, List.set_cons_succ]
  refine take_at (i := 9) 8 (v := .bool true) rfl rfl (by kernel_rfl) (by kernel_rfl) (by kernel_rfl) (fun _ _ _ h => h) (Or.inl ⟨by rfl, fun w' hw' => by go_simp⟩) hS ?_
  simp only [Act.put, List.setIfInBounds_toArray, List.set_cons_zero, List.set_cons_succ]
  refine wpAnyH_done (by kernel_rfl) ?_ _
  go_wp2_with fail
  go_ret
  exact ⟨rfl, hS⟩
end Go.Proofs.Ytibnhgpenfcinab
