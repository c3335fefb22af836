/- Items of several texts. -/
import Derived.Test.YtmbphlkohlggfaaCSam
import Derived.Test.YtmbphlkohlggfaaCQm18
import Derived.Test.YtmbphlkohlggfaaCAmy20
namespace Go.Proofs.Ytmbphlkohlggfaa
set_option maxRecDepth 100000
open Go.RowKit
set_option maxHeartbeats 4000000 in
theorem eqDot_any (ta tb : Option Addr) (ca cb : Nat) (xs ys : List (Int × Int)) (w : World) (h1 : RowD w ta ca xs) (h2 : RowD w tb cb ys) :
  Calls Try.prog 81 #[.slice ta xs.length ca, .slice tb ys.length cb] w fun e w' => ∃ b : Bool, e = .returned (.bool b) ∧ (b = true ↔ xs.map id = ys.map id) ∧ Off (fun _ => False) w w' := by
 have hxl : xs.length ≤ 9223372036854775807 := Nat.le_trans h1.len h1.bound
 have hyl : ys.length ≤ 9223372036854775807 := Nat.le_trans h2.len h2.bound
 have H1 : Hid _ := h1
 have H2 : Hid _ := h2
 clear h1 h2
 by_cases hlen : xs.length = ys.length
 ·have d0 : ((xs.length : Int) != (ys.length : Int)) = false := by rw [hlen]; simp
  have HLEN : Hid (ys.length = xs.length) := hlen.symm
  clear hlen
  go_enter Try.func81, Try.ntmps81
  go_wp2_with fail
  go_loopw [13] (fun y wr => ∃ i : Nat, y = .int .i64 (i : Int) ∧ i ≤ xs.length ∧ Hid ((xs.take i).map id = (ys.take i).map id) ∧ Hid (Off (fun _ => False) w wr)) (fun y _ => ((xs.length : Int) - intOf y).toNat)
  case atStart => exact ⟨0, rfl, by omega, rfl, Off.refl _ _⟩
  case round =>
   obtain ⟨i, rfl, hi, HM, HO⟩ := hrel
   by_cases hil : i < xs.length
   ·have i1 : decide ((i : Int) < (xs.length : Int)) = true := decide_eq_true (by omega)
    have i2 : decide (i < xs.length) = true := decide_eq_true hil
    have hil2 : i < ys.length := by have := HLEN.out; omega
    obtain ⟨x, hx⟩ : ∃ x, xs[i]? = some x := ⟨_, List.getElem?_eq_getElem hil⟩
    obtain ⟨y, hy⟩ : ∃ y, ys[i]? = some y := ⟨_, List.getElem?_eq_getElem hil2⟩
    obtain ⟨ba, oa, rfl, -, -⟩ := H1.out.at_ i x hx
    obtain ⟨bb, ob, rfl, -, -⟩ := H2.out.at_ i y hy
    have LX : Hid (∀ w', Off (fun _ => False) w w' → w'.cell? ⟨ba, oa + i * 2, none⟩ = some (.int .i64 x.1) ∧ w'.cell? ⟨ba, oa + i * 2 + 1, none⟩ = some (.int .i64 x.2)) := fun w' hw' => by
     obtain ⟨b', o', e', k0, k1⟩ := (H1.out.off hw').at_ i x hx
     simp only [Option.some.injEq, Addr.mk.injEq, and_true] at e'
     obtain ⟨rfl, rfl⟩ := e'
     exact ⟨k0, k1⟩
    have LY : Hid (∀ w', Off (fun _ => False) w w' → w'.cell? ⟨bb, ob + i * 2, none⟩ = some (.int .i64 y.1) ∧ w'.cell? ⟨bb, ob + i * 2 + 1, none⟩ = some (.int .i64 y.2)) := fun w' hw' => by
     obtain ⟨b', o', e', k0, k1⟩ := (H2.out.off hw').at_ i y hy
     simp only [Option.some.injEq, Addr.mk.injEq, and_true] at e'
     obtain ⟨rfl, rfl⟩ := e'
     exact ⟨k0, k1⟩
    have HX : Hid _ := hx
    have HY : Hid _ := hy
    clear hx hy
    go_upto_region 6 with fail
    by_cases hxy : x.1 = y.1 ∧ x.2 = y.2
    ·have HNF : Hid (id x = id y) := by
      show x = y
      exact Prod.ext hxy.1 hxy.2
     have hdd : decide (x.1 = y.1 ∧ x.2 = y.2) = true := decide_eq_true hxy
     refine wp_region_held_drew (S := Off (fun _ => False) w) (by kernel_rfl) HO.out.drew (fun hS => ?_)
     refine take_at (i := 0) 16 (v := .slice (some ⟨ba, oa, none⟩) xs.length ca) rfl rfl (by kernel_rfl) (by kernel_rfl) (by kernel_rfl) (fun _ _ _ h => h) (Or.inl ⟨by rfl, fun w' hw' => by go_simp⟩) hS ?_
     simp only [Act.put, lsA, lsZ, lsS]
     refine take_at (i := 1) 17 (v := .int .i64 (i : Int)) rfl rfl (by kernel_rfl) (by kernel_rfl) (by kernel_rfl) (fun _ _ _ h => h) (Or.inl ⟨by rfl, fun w' hw' => by go_simp⟩) hS ?_
     simp only [Act.put, lsA, lsZ, lsS]
     refine take_at (i := 2) 18 (v := .pointer (some ⟨ba, oa + i * 2, none⟩)) rfl rfl (by kernel_rfl) (by kernel_rfl) (by kernel_rfl) (fun _ _ _ h => h) (Or.inl ⟨by rfl, fun w' hw' => exec_idx10 rfl (idx_dots hil ca ba oa w')⟩) hS ?_
     simp only [Act.put, lsA, lsZ, lsS]
     refine take_at (i := 3) 19 (v := .agg #[.int .i64 x.1, .int .i64 x.2]) rfl rfl (by kernel_rfl) (by kernel_rfl) (by kernel_rfl) (fun _ _ _ h => h) (Or.inl ⟨by rfl, fun w' hw' => by obtain ⟨z0, z1⟩ := LX.out w' hw'; go_simp⟩) hS ?_
     simp only [Act.put, lsA, lsZ, lsS]
     refine take_at (i := 4) 20 (v := .slice (some ⟨bb, ob, none⟩) ys.length cb) rfl rfl (by kernel_rfl) (by kernel_rfl) (by kernel_rfl) (fun _ _ _ h => h) (Or.inl ⟨by rfl, fun w' hw' => by go_simp⟩) hS ?_
     simp only [Act.put, lsA, lsZ, lsS]
     refine take_at (i := 5) 21 (v := .int .i64 (i : Int)) rfl rfl (by kernel_rfl) (by kernel_rfl) (by kernel_rfl) (fun _ _ _ h => h) (Or.inl ⟨by rfl, fun w' hw' => by go_simp⟩) hS ?_
     simp only [Act.put, lsA, lsZ, lsS]
     refine take_at (i := 6) 22 (v := .pointer (some ⟨bb, ob + i * 2, none⟩)) rfl rfl (by kernel_rfl) (by kernel_rfl) (by kernel_rfl) (fun _ _ _ h => h) (Or.inl ⟨by rfl, fun w' hw' => exec_idx10 rfl (idx_dots hil2 cb bb ob w')⟩) hS ?_
     simp only [Act.put, lsA, lsZ, lsS]
     refine take_at (i := 7) 23 (v := .agg #[.int .i64 y.1, .int .i64 y.2]) rfl rfl (by kernel_rfl) (by kernel_rfl) (by kernel_rfl) (fun _ _ _ h => h) (Or.inl ⟨by rfl, fun w' hw' => by obtain ⟨z0, z1⟩ := LY.out w' hw'; go_simp⟩) hS ?_
     simp only [Act.put, lsA, lsZ, lsS]
     refine take_at (i := 8) 24 (v := .bool false) rfl rfl (by kernel_rfl) (by kernel_rfl) (by kernel_rfl) (fun _ _ _ h => h) (Or.inl ⟨by rfl, fun w' hw' => exec_bin10 rfl (by go_simp) ((neq_dot5 x.1 x.2 y.1 y.2 w').trans (by rw [hdd]; rfl))⟩) hS ?_
     simp only [Act.put, lsA, lsZ, lsS]
     refine wpAnyH_done (by kernel_rfl) ?_ _
     have HO9 : Hid _ := hS
     clear hS
     go_wp2_with fail
     go_roundw
     case rel => exact ⟨i + 1, by go_num, by omega, take_map_step HM.out HX.out HY.out HNF.out, HO9.out⟩
     case measure => simp [intOf]; omega
    ·have HNF : Hid (id x ≠ id y) := fun e => hxy (by have e : x = y := e; rw [e]; exact ⟨rfl, rfl⟩)
     have hdd : decide (x.1 = y.1 ∧ x.2 = y.2) = false := decide_eq_false hxy
     refine wp_region_held_drew (S := Off (fun _ => False) w) (by kernel_rfl) HO.out.drew (fun hS => ?_)
     refine take_at (i := 0) 16 (v := .slice (some ⟨ba, oa, none⟩) xs.length ca) rfl rfl (by kernel_rfl) (by kernel_rfl) (by kernel_rfl) (fun _ _ _ h => h) (Or.inl ⟨by rfl, fun w' hw' => by go_simp⟩) hS ?_
     simp only [Act.put, lsA, lsZ, lsS]
     refine take_at (i := 1) 17 (v := .int .i64 (i : Int)) rfl rfl (by kernel_rfl) (by kernel_rfl) (by kernel_rfl) (fun _ _ _ h => h) (Or.inl ⟨by rfl, fun w' hw' => by go_simp⟩) hS ?_
     simp only [Act.put, lsA, lsZ, lsS]
     refine take_at (i := 2) 18 (v := .pointer (some ⟨ba, oa + i * 2, none⟩)) rfl rfl (by kernel_rfl) (by kernel_rfl) (by kernel_rfl) (fun _ _ _ h => h) (Or.inl ⟨by rfl, fun w' hw' => exec_idx10 rfl (idx_dots hil ca ba oa w')⟩) hS ?_
     simp only [Act.put, lsA, lsZ, lsS]
     refine take_at (i := 3) 19 (v := .agg #[.int .i64 x.1, .int .i64 x.2]) rfl rfl (by kernel_rfl) (by kernel_rfl) (by kernel_rfl) (fun _ _ _ h => h) (Or.inl ⟨by rfl, fun w' hw' => by obtain ⟨z0, z1⟩ := LX.out w' hw'; go_simp⟩) hS ?_
     simp only [Act.put, lsA, lsZ, lsS]
     refine take_at (i := 4) 20 (v := .slice (some ⟨bb, ob, none⟩) ys.length cb) rfl rfl (by kernel_rfl) (by kernel_rfl) (by kernel_rfl) (fun _ _ _ h => h) (Or.inl ⟨by rfl, fun w' hw' => by go_simp⟩) hS ?_
     simp only [Act.put, lsA, lsZ, lsS]
     refine take_at (i := 5) 21 (v := .int .i64 (i : Int)) rfl rfl (by kernel_rfl) (by kernel_rfl) (by kernel_rfl) (fun _ _ _ h => h) (Or.inl ⟨by rfl, fun w' hw' => by go_simp⟩) hS ?_
     simp only [Act.put, lsA, lsZ, lsS]
     refine take_at (i := 6) 22 (v := .pointer (some ⟨bb, ob + i * 2, none⟩)) rfl rfl (by kernel_rfl) (by kernel_rfl) (by kernel_rfl) (fun _ _ _ h => h) (Or.inl ⟨by rfl, fun w' hw' => exec_idx10 rfl (idx_dots hil2 cb bb ob w')⟩) hS ?_
     simp only [Act.put, lsA, lsZ, lsS]
     refine take_at (i := 7) 23 (v := .agg #[.int .i64 y.1, .int .i64 y.2]) rfl rfl (by kernel_rfl) (by kernel_rfl) (by kernel_rfl) (fun _ _ _ h => h) (Or.inl ⟨by rfl, fun w' hw' => by obtain ⟨z0, z1⟩ := LY.out w' hw'; go_simp⟩) hS ?_
     simp only [Act.put, lsA, lsZ, lsS]
     refine take_at (i := 8) 24 (v := .bool true) rfl rfl (by kernel_rfl) (by kernel_rfl) (by kernel_rfl) (fun _ _ _ h => h) (Or.inl ⟨by rfl, fun w' hw' => exec_bin10 rfl (by go_simp) ((neq_dot5 x.1 x.2 y.1 y.2 w').trans (by rw [hdd]; rfl))⟩) hS ?_
     simp only [Act.put, lsA, lsZ, lsS]
     refine wpAnyH_done (by kernel_rfl) ?_ _
     have HO9 : Hid _ := hS
     clear hS
     go_wp2_with fail
     go_ret
     exact ⟨false, rfl, ⟨fun h => (by cases h), fun h => absurd h (map_apart HX.out HY.out HNF.out)⟩, HO9.out⟩
   ·obtain rfl : i = xs.length := by omega
    have i1 : decide ((xs.length : Int) < (xs.length : Int)) = false := decide_eq_false (by omega)
    have i2 : decide (xs.length < xs.length) = false := decide_eq_false (by omega)
    go_wp2_with fail
    go_ret
    exact ⟨true, rfl, ⟨fun _ => map_done HM.out rfl HLEN.out.symm, fun _ => rfl⟩, HO.out⟩
 ·have d0 : ((xs.length : Int) != (ys.length : Int)) = true := by rw [bne_iff_ne]; omega
  have HNE : Hid (xs.length ≠ ys.length) := hlen
  clear hlen
  go_enter Try.func81, Try.ntmps81
  go_wp2_with fail
  go_ret
  exact ⟨false, rfl, ⟨fun h => (by cases h), fun h => absurd h (map_len HNE.out)⟩, Off.refl _ w⟩
set_option maxHeartbeats 4000000 in
theorem eqM_any (ta tb : Option Addr) (ca cb : Nat) (xs ys : List (Int × Int)) (w : World) (h1 : RowD w ta ca xs) (h2 : RowD w tb cb ys) :
  Calls Try.prog 48 #[.slice ta xs.length ca, .slice tb ys.length cb] w fun e w' => ∃ b : Bool, e = .returned (.bool b) ∧ (b = true ↔ xs.map id = ys.map id) ∧ Off (fun _ => False) w w' := by
 have hxl : xs.length ≤ 9223372036854775807 := Nat.le_trans h1.len h1.bound
 have hyl : ys.length ≤ 9223372036854775807 := Nat.le_trans h2.len h2.bound
 have H1 : Hid _ := h1
 have H2 : Hid _ := h2
 clear h1 h2
 by_cases hlen : xs.length = ys.length
 ·have d0 : ((xs.length : Int) != (ys.length : Int)) = false := by rw [hlen]; simp
  have HLEN : Hid (ys.length = xs.length) := hlen.symm
  clear hlen
  go_enter Try.func48, Try.ntmps48
  go_wp2_with fail
  go_loopw [13] (fun y wr => ∃ i : Nat, y = .int .i64 (i : Int) ∧ i ≤ xs.length ∧ Hid ((xs.take i).map id = (ys.take i).map id) ∧ Hid (Off (fun _ => False) w wr)) (fun y _ => ((xs.length : Int) - intOf y).toNat)
  case atStart => exact ⟨0, rfl, by omega, rfl, Off.refl _ _⟩
  case round =>
   obtain ⟨i, rfl, hi, HM, HO⟩ := hrel
   by_cases hil : i < xs.length
   ·have i1 : decide ((i : Int) < (xs.length : Int)) = true := decide_eq_true (by omega)
    have i2 : decide (i < xs.length) = true := decide_eq_true hil
    have hil2 : i < ys.length := by have := HLEN.out; omega
    obtain ⟨x, hx⟩ : ∃ x, xs[i]? = some x := ⟨_, List.getElem?_eq_getElem hil⟩
    obtain ⟨y, hy⟩ : ∃ y, ys[i]? = some y := ⟨_, List.getElem?_eq_getElem hil2⟩
    obtain ⟨ba, oa, rfl, -, -⟩ := H1.out.at_ i x hx
    obtain ⟨bb, ob, rfl, -, -⟩ := H2.out.at_ i y hy
    have LX : Hid (∀ w', Off (fun _ => False) w w' → w'.cell? ⟨ba, oa + i * 2, none⟩ = some (.int .i64 x.1) ∧ w'.cell? ⟨ba, oa + i * 2 + 1, none⟩ = some (.int .i64 x.2)) := fun w' hw' => by
     obtain ⟨b', o', e', k0, k1⟩ := (H1.out.off hw').at_ i x hx
     simp only [Option.some.injEq, Addr.mk.injEq, and_true] at e'
     obtain ⟨rfl, rfl⟩ := e'
     exact ⟨k0, k1⟩
    have LY : Hid (∀ w', Off (fun _ => False) w w' → w'.cell? ⟨bb, ob + i * 2, none⟩ = some (.int .i64 y.1) ∧ w'.cell? ⟨bb, ob + i * 2 + 1, none⟩ = some (.int .i64 y.2)) := fun w' hw' => by
     obtain ⟨b', o', e', k0, k1⟩ := (H2.out.off hw').at_ i y hy
     simp only [Option.some.injEq, Addr.mk.injEq, and_true] at e'
     obtain ⟨rfl, rfl⟩ := e'
     exact ⟨k0, k1⟩
    have HX : Hid _ := hx
    have HY : Hid _ := hy
    clear hx hy
    go_upto_region 6 with fail
    by_cases hxy : x.1 = y.1 ∧ x.2 = y.2
    ·have HNF : Hid (id x = id y) := by
      show x = y
      exact Prod.ext hxy.1 hxy.2
     have hdd : decide (x.1 = y.1 ∧ x.2 = y.2) = true := decide_eq_true hxy
     refine wp_region_held_drew (S := Off (fun _ => False) w) (by kernel_rfl) HO.out.drew (fun hS => ?_)
     refine take_at (i := 0) 16 (v := .slice (some ⟨ba, oa, none⟩) xs.length ca) rfl rfl (by kernel_rfl) (by kernel_rfl) (by kernel_rfl) (fun _ _ _ h => h) (Or.inl ⟨by rfl, fun w' hw' => by go_simp⟩) hS ?_
     simp only [Act.put, lsA, lsZ, lsS]
     refine take_at (i := 1) 17 (v := .int .i64 (i : Int)) rfl rfl (by kernel_rfl) (by kernel_rfl) (by kernel_rfl) (fun _ _ _ h => h) (Or.inl ⟨by rfl, fun w' hw' => by go_simp⟩) hS ?_
     simp only [Act.put, lsA, lsZ, lsS]
     refine take_at (i := 2) 18 (v := .pointer (some ⟨ba, oa + i * 2, none⟩)) rfl rfl (by kernel_rfl) (by kernel_rfl) (by kernel_rfl) (fun _ _ _ h => h) (Or.inl ⟨by rfl, fun w' hw' => exec_idx10 rfl (idx_mems hil ca ba oa w')⟩) hS ?_
     simp only [Act.put, lsA, lsZ, lsS]
     refine take_at (i := 3) 19 (v := .agg #[.int .i64 x.1, .int .i64 x.2]) rfl rfl (by kernel_rfl) (by kernel_rfl) (by kernel_rfl) (fun _ _ _ h => h) (Or.inl ⟨by rfl, fun w' hw' => by obtain ⟨z0, z1⟩ := LX.out w' hw'; go_simp⟩) hS ?_
     simp only [Act.put, lsA, lsZ, lsS]
     refine take_at (i := 4) 20 (v := .slice (some ⟨bb, ob, none⟩) ys.length cb) rfl rfl (by kernel_rfl) (by kernel_rfl) (by kernel_rfl) (fun _ _ _ h => h) (Or.inl ⟨by rfl, fun w' hw' => by go_simp⟩) hS ?_
     simp only [Act.put, lsA, lsZ, lsS]
     refine take_at (i := 5) 21 (v := .int .i64 (i : Int)) rfl rfl (by kernel_rfl) (by kernel_rfl) (by kernel_rfl) (fun _ _ _ h => h) (Or.inl ⟨by rfl, fun w' hw' => by go_simp⟩) hS ?_
     simp only [Act.put, lsA, lsZ, lsS]
     refine take_at (i := 6) 22 (v := .pointer (some ⟨bb, ob + i * 2, none⟩)) rfl rfl (by kernel_rfl) (by kernel_rfl) (by kernel_rfl) (fun _ _ _ h => h) (Or.inl ⟨by rfl, fun w' hw' => exec_idx10 rfl (idx_mems hil2 cb bb ob w')⟩) hS ?_
     simp only [Act.put, lsA, lsZ, lsS]
     refine take_at (i := 7) 23 (v := .agg #[.int .i64 y.1, .int .i64 y.2]) rfl rfl (by kernel_rfl) (by kernel_rfl) (by kernel_rfl) (fun _ _ _ h => h) (Or.inl ⟨by rfl, fun w' hw' => by obtain ⟨z0, z1⟩ := LY.out w' hw'; go_simp⟩) hS ?_
     simp only [Act.put, lsA, lsZ, lsS]
     refine take_at (i := 8) 24 (v := .bool false) rfl rfl (by kernel_rfl) (by kernel_rfl) (by kernel_rfl) (fun _ _ _ h => h) (Or.inl ⟨by rfl, fun w' hw' => exec_bin10 rfl (by go_simp) ((neq_mem x.1 x.2 y.1 y.2 w').trans (by rw [hdd]; rfl))⟩) hS ?_
     simp only [Act.put, lsA, lsZ, lsS]
     refine wpAnyH_done (by kernel_rfl) ?_ _
     have HO9 : Hid _ := hS
     clear hS
     go_wp2_with fail
     go_roundw
     case rel => exact ⟨i + 1, by go_num, by omega, take_map_step HM.out HX.out HY.out HNF.out, HO9.out⟩
     case measure => simp [intOf]; omega
    ·have HNF : Hid (id x ≠ id y) := fun e => hxy (by have e : x = y := e; rw [e]; exact ⟨rfl, rfl⟩)
     have hdd : decide (x.1 = y.1 ∧ x.2 = y.2) = false := decide_eq_false hxy
     refine wp_region_held_drew (S := Off (fun _ => False) w) (by kernel_rfl) HO.out.drew (fun hS => ?_)
     refine take_at (i := 0) 16 (v := .slice (some ⟨ba, oa, none⟩) xs.length ca) rfl rfl (by kernel_rfl) (by kernel_rfl) (by kernel_rfl) (fun _ _ _ h => h) (Or.inl ⟨by rfl, fun w' hw' => by go_simp⟩) hS ?_
     simp only [Act.put, lsA, lsZ, lsS]
     refine take_at (i := 1) 17 (v := .int .i64 (i : Int)) rfl rfl (by kernel_rfl) (by kernel_rfl) (by kernel_rfl) (fun _ _ _ h => h) (Or.inl ⟨by rfl, fun w' hw' => by go_simp⟩) hS ?_
     simp only [Act.put, lsA, lsZ, lsS]
     refine take_at (i := 2) 18 (v := .pointer (some ⟨ba, oa + i * 2, none⟩)) rfl rfl (by kernel_rfl) (by kernel_rfl) (by kernel_rfl) (fun _ _ _ h => h) (Or.inl ⟨by rfl, fun w' hw' => exec_idx10 rfl (idx_mems hil ca ba oa w')⟩) hS ?_
     simp only [Act.put, lsA, lsZ, lsS]
     refine take_at (i := 3) 19 (v := .agg #[.int .i64 x.1, .int .i64 x.2]) rfl rfl (by kernel_rfl) (by kernel_rfl) (by kernel_rfl) (fun _ _ _ h => h) (Or.inl ⟨by rfl, fun w' hw' => by obtain ⟨z0, z1⟩ := LX.out w' hw'; go_simp⟩) hS ?_
     simp only [Act.put, lsA, lsZ, lsS]
     refine take_at (i := 4) 20 (v := .slice (some ⟨bb, ob, none⟩) ys.length cb) rfl rfl (by kernel_rfl) (by kernel_rfl) (by kernel_rfl) (fun _ _ _ h => h) (Or.inl ⟨by rfl, fun w' hw' => by go_simp⟩) hS ?_
     simp only [Act.put, lsA, lsZ, lsS]
     refine take_at (i := 5) 21 (v := .int .i64 (i : Int)) rfl rfl (by kernel_rfl) (by kernel_rfl) (by kernel_rfl) (fun _ _ _ h => h) (Or.inl ⟨by rfl, fun w' hw' => by go_simp⟩) hS ?_
     simp only [Act.put, lsA, lsZ, lsS]
     refine take_at (i := 6) 22 (v := .pointer (some ⟨bb, ob + i * 2, none⟩)) rfl rfl (by kernel_rfl) (by kernel_rfl) (by kernel_rfl) (fun _ _ _ h => h) (Or.inl ⟨by rfl, fun w' hw' => exec_idx10 rfl (idx_mems hil2 cb bb ob w')⟩) hS ?_
     simp only [Act.put, lsA, lsZ, lsS]
     refine take_at (i := 7) 23 (v := .agg #[.int .i64 y.1, .int .i64 y.2]) rfl rfl (by kernel_rfl) (by kernel_rfl) (by kernel_rfl) (fun _ _ _ h => h) (Or.inl ⟨by rfl, fun w' hw' => by obtain ⟨z0, z1⟩ := LY.out w' hw'; go_simp⟩) hS ?_
     simp only [Act.put, lsA, lsZ, lsS]
     refine take_at (i := 8) 24 (v := .bool true) rfl rfl (by kernel_rfl) (by kernel_rfl) (by kernel_rfl) (fun _ _ _ h => h) (Or.inl ⟨by rfl, fun w' hw' => exec_bin10 rfl (by go_simp) ((neq_mem x.1 x.2 y.1 y.2 w').trans (by rw [hdd]; rfl))⟩) hS ?_
     simp only [Act.put, lsA, lsZ, lsS]
     refine wpAnyH_done (by kernel_rfl) ?_ _
     have HO9 : Hid _ := hS
     clear hS
     go_wp2_with fail
     go_ret
     exact ⟨false, rfl, ⟨fun h => (by cases h), fun h => absurd h (map_apart HX.out HY.out HNF.out)⟩, HO9.out⟩
   ·obtain rfl : i = xs.length := by omega
    have i1 : decide ((xs.length : Int) < (xs.length : Int)) = false := decide_eq_false (by omega)
    have i2 : decide (xs.length < xs.length) = false := decide_eq_false (by omega)
    go_wp2_with fail
    go_ret
    exact ⟨true, rfl, ⟨fun _ => map_done HM.out rfl HLEN.out.symm, fun _ => rfl⟩, HO.out⟩
 ·have d0 : ((xs.length : Int) != (ys.length : Int)) = true := by rw [bne_iff_ne]; omega
  have HNE : Hid (xs.length ≠ ys.length) := hlen
  clear hlen
  go_enter Try.func48, Try.ntmps48
  go_wp2_with fail
  go_ret
  exact ⟨false, rfl, ⟨fun h => (by cases h), fun h => absurd h (map_len HNE.out)⟩, Off.refl _ w⟩
set_option maxHeartbeats 2000000 in
theorem xsameEntry_any (x y : E) (w : World) (hx : Row w x.a x.cap x.l) (hy : Row w y.a y.cap y.l) :
  Calls Try.prog 45 #[.agg #[.string x.key, .int .i64 (x.f 0), .int .i64 (x.f 1), .int .i64 (x.f 2), .int .i64 (x.f 3), .int .i64 (x.f 4), .int .i64 (x.f 5), .int .i64 (x.f 6), .int .i64 (x.f 7), .slice x.a x.l.length x.cap], .agg #[.string y.key, .int .i64 (y.f 0), .int .i64 (y.f 1), .int .i64 (y.f 2), .int .i64 (y.f 3), .int .i64 (y.f 4), .int .i64 (y.f 5), .int .i64 (y.f 6), .int .i64 (y.f 7), .slice y.a y.l.length y.cap]] w fun e w' => Yes (nE x = nE y) e ∧ Off (fun _ => False) w w' := by
 generalize hP : (nE x = nE y) = P
 have HP : Hid _ := hP
 clear hP
 obtain ⟨W, hW⟩ : ∃ W, W = (w.alloc (.cells #[.string x.key, .int .i64 (x.f 0), .int .i64 (x.f 1), .int .i64 (x.f 2), .int .i64 (x.f 3), .int .i64 (x.f 4), .int .i64 (x.f 5), .int .i64 (x.f 6), .int .i64 (x.f 7), .slice x.a x.l.length x.cap] 46)).alloc (.cells #[.string y.key, .int .i64 (y.f 0), .int .i64 (y.f 1), .int .i64 (y.f 2), .int .i64 (y.f 3), .int .i64 (y.f 4), .int .i64 (y.f 5), .int .i64 (y.f 6), .int .i64 (y.f 7), .slice y.a y.l.length y.cap] 46) := ⟨_, rfl⟩
 have O : Off (fun _ => False) w W := by rw [hW]; exact ((Off.refl _ w).alloc _).alloc _
 have C0 : Cel w.heap.size 46 #[.string x.key, .int .i64 (x.f 0), .int .i64 (x.f 1), .int .i64 (x.f 2), .int .i64 (x.f 3), .int .i64 (x.f 4), .int .i64 (x.f 5), .int .i64 (x.f 6), .int .i64 (x.f 7), .slice x.a x.l.length x.cap] W := by rw [hW]; exact (Cel.new w _ _).alloc _
 have C1 : Cel (w.heap.size + 1) 46 #[.string y.key, .int .i64 (y.f 0), .int .i64 (y.f 1), .int .i64 (y.f 2), .int .i64 (y.f 3), .int .i64 (y.f 4), .int .i64 (y.f 5), .int .i64 (y.f 6), .int .i64 (y.f 7), .slice y.a y.l.length y.cap] W := by rw [hW]; exact Cel.new1 w _ _ _
 have HX : Hid _ := hx.off O
 have HY : Hid _ := hy.off O
 have HO : Hid _ := O
 go_enter Try.func45, Try.ntmps45
 go_upto_region 1 with fail
 rw [← hW]
 generalize w.heap.size + 1 = b1 at C1 ⊢
 generalize w.heap.size = b0 at C0 ⊢
 clear hW O hx hy
 obtain ⟨x0, x1, x2, x3, x4, x5, x6, x7, x8, x9⟩ := celw10 C0
 obtain ⟨y0, y1, y2, y3, y4, y5, y6, y7, y8, y9⟩ := celw10 C1
 have HC0 : Hid _ := C0
 have HC1 : Hid _ := C1
 clear C0 C1
 by_cases hk : x.key = y.key
 case neg =>
  have e1 : (x.key.toList == y.key.toList) = false := by rw [beq_eq_false_iff_ne]; exact fun e => hk (kb_inj (by rw [toL, toL] at e; exact e))
  have HN : Hid (x.key ≠ y.key) := hk
  clear hk
  go_wp2_with fail
  go_ret
  exact ⟨.mk' false (by rw [← HP.out]; exact ⟨fun h => (by cases h), fun h => absurd (nE_iff.1 h).1 HN.out⟩), HO.out⟩
 have e1 : (x.key.toList == y.key.toList) = true := by rw [hk]; simp
 have HK : Hid (x.key = y.key) := hk
 clear hk
 go_wp2_with fail
 refine (ssame_any x.f y.f x.a y.a x.cap y.cap x.l y.l _ HX.out HY.out).mono ?_
 rintro e w1 ⟨rfl, o1⟩
 obtain ⟨r, hr⟩ : ∃ r, r = sameS x.f y.f (cont x.l) (cont y.l) := ⟨_, rfl⟩
 rw [← hr]
 have HR : Hid (r = sameS x.f y.f (cont x.l) (cont y.l)) := hr
 clear hr x0 x1 x2 x3 x4 x5 x6 x7 x8 x9 y0 y1 y2 y3 y4 y5 y6 y7 y8 y9
 go_wp2_with fail
 go_ret
 exact ⟨.mk' r (by rw [← HP.out, HR.out]; exact ⟨fun h => nE_iff.2 ⟨HK.out, h⟩, fun h => (nE_iff.1 h).2⟩), HO.out.trans o1 (fun _ _ h => h)⟩
set_option maxHeartbeats 4000000 in
theorem eqfE_any (ta tb : Option Addr) (ca cb : Nat) (xs ys : List E) (w : World) (h1 : Ens w ta ca xs) (h2 : Ens w tb cb ys) :
  Calls Try.prog 44 #[.slice ta xs.length ca, .slice tb ys.length cb, .func (.func 45) #[] #[]] w fun e w' => Yes (xs.map nE = ys.map nE) e ∧ Off (fun _ => False) w w' := by
 generalize hP : (xs.map nE = ys.map nE) = P
 have HP : Hid _ := hP
 clear hP
 have hxl : xs.length ≤ 9223372036854775807 := Nat.le_trans h1.len h1.bound
 have hyl : ys.length ≤ 9223372036854775807 := Nat.le_trans h2.len h2.bound
 have H1 : Hid _ := h1
 have H2 : Hid _ := h2
 clear h1 h2
 by_cases hlen : xs.length = ys.length
 ·have d0 : ((xs.length : Int) != (ys.length : Int)) = false := by rw [hlen]; simp
  have HLEN : Hid (ys.length = xs.length) := hlen.symm
  clear hlen
  go_enter Try.func44, Try.ntmps44
  go_wp2_with fail
  go_loopw [17] (fun y wr => ∃ i : Nat, y = .int .i64 (i : Int) ∧ i ≤ xs.length ∧ Hid ((xs.take i).map nE = (ys.take i).map nE) ∧ Hid (Off (fun _ => False) w wr)) (fun y _ => ((xs.length : Int) - intOf y).toNat)
  case atStart => exact ⟨0, rfl, by omega, rfl, Off.refl _ _⟩
  case round =>
   obtain ⟨i, rfl, hi, HM, HO⟩ := hrel
   by_cases hil : i < xs.length
   ·have i1 : decide ((i : Int) < (xs.length : Int)) = true := decide_eq_true (by omega)
    have i2 : decide (i < xs.length) = true := decide_eq_true hil
    have hil2 : i < ys.length := by have := HLEN.out; omega
    obtain ⟨x, hx⟩ : ∃ x, xs[i]? = some x := ⟨_, List.getElem?_eq_getElem hil⟩
    obtain ⟨y, hy⟩ : ∃ y, ys[i]? = some y := ⟨_, List.getElem?_eq_getElem hil2⟩
    obtain ⟨ba, oa, rfl, ka, ra⟩ := (H1.out.off HO.out).at_ i x hx
    obtain ⟨bb, ob, rfl, kb, rb⟩ := (H2.out.off HO.out).at_ i y hy
    have HX : Hid _ := hx
    have HY : Hid _ := hy
    have HKB : Hid _ := kb
    obtain ⟨x0, x1, x2, x3, x4, x5, x6, x7, x8, x9⟩ := ent10 ka
    have hix := idx_ents hil
    have hiy := idx_ents hil2
    clear hx hy ka kb
    go_upto_region 6 with fail
    have CN := Cel.new wr 46 #[.string x.key, .int .i64 (x.f 0), .int .i64 (x.f 1), .int .i64 (x.f 2), .int .i64 (x.f 3), .int .i64 (x.f 4), .int .i64 (x.f 5), .int .i64 (x.f 6), .int .i64 (x.f 7), .slice x.a x.l.length x.cap]
    have ON : Off (fun _ => False) wr (wr.alloc (.cells #[.string x.key, .int .i64 (x.f 0), .int .i64 (x.f 1), .int .i64 (x.f 2), .int .i64 (x.f 3), .int .i64 (x.f 4), .int .i64 (x.f 5), .int .i64 (x.f 6), .int .i64 (x.f 7), .slice x.a x.l.length x.cap] 46)) := (Off.refl _ wr).alloc _
    generalize hvv : wr.alloc (.cells #[.string x.key, .int .i64 (x.f 0), .int .i64 (x.f 1), .int .i64 (x.f 2), .int .i64 (x.f 3), .int .i64 (x.f 4), .int .i64 (x.f 5), .int .i64 (x.f 6), .int .i64 (x.f 7), .slice x.a x.l.length x.cap] 46) = v1 at CN ON ⊢
    generalize hpp : wr.heap.size = p at CN ⊢
    clear hvv hpp x0 x1 x2 x3 x4 x5 x6 x7 x8 x9
    have rx := ra.off ON
    have ry := rb.off ON
    obtain ⟨x0, x1, x2, x3, x4, x5, x6, x7, x8, x9⟩ := ent10 (cellsX_off ON HKB.out)
    have HCN : Hid _ := CN
    have HO1 : Hid _ := HO.out.trans ON (fun _ _ h => h)
    clear CN ON ra rb
    go_upto_region 7 with fail
    have CM := Cel.new v1 46 #[.string y.key, .int .i64 (y.f 0), .int .i64 (y.f 1), .int .i64 (y.f 2), .int .i64 (y.f 3), .int .i64 (y.f 4), .int .i64 (y.f 5), .int .i64 (y.f 6), .int .i64 (y.f 7), .slice y.a y.l.length y.cap]
    have OM : Off (fun _ => False) v1 (v1.alloc (.cells #[.string y.key, .int .i64 (y.f 0), .int .i64 (y.f 1), .int .i64 (y.f 2), .int .i64 (y.f 3), .int .i64 (y.f 4), .int .i64 (y.f 5), .int .i64 (y.f 6), .int .i64 (y.f 7), .slice y.a y.l.length y.cap] 46)) := (Off.refl _ v1).alloc _
    generalize hvv : v1.alloc (.cells #[.string y.key, .int .i64 (y.f 0), .int .i64 (y.f 1), .int .i64 (y.f 2), .int .i64 (y.f 3), .int .i64 (y.f 4), .int .i64 (y.f 5), .int .i64 (y.f 6), .int .i64 (y.f 7), .slice y.a y.l.length y.cap] 46) = v2 at CM OM ⊢
    generalize hpp : v1.heap.size = q at CM ⊢
    clear hvv hpp x0 x1 x2 x3 x4 x5 x6 x7 x8 x9
    have rx2 := rx.off OM
    have ry2 := ry.off OM
    obtain ⟨x0, x1, x2, x3, x4, x5, x6, x7, x8, x9⟩ := celw10 (HCN.out.off OM (fun h => h))
    obtain ⟨y0, y1, y2, y3, y4, y5, y6, y7, y8, y9⟩ := celw10 CM
    have HO2 : Hid _ := HO1.out.trans OM (fun _ _ h => h)
    clear CM OM rx ry
    go_wp2_with fail
    refine (xsameEntry_any x y _ rx2 ry2).mono ?_
    rintro e w3 ⟨⟨r, rfl, hr⟩, o3⟩
    clear x0 x1 x2 x3 x4 x5 x6 x7 x8 x9 y0 y1 y2 y3 y4 y5 y6 y7 y8 y9 rx2 ry2
    have HO3 : Hid _ := HO2.out.trans o3 (fun _ _ h => h)
    cases r with
    | false =>
     have HNF : Hid (nE x ≠ nE y) := fun h => by have := hr.2 h; cases this
     clear hr o3
     go_wp2_with fail
     go_ret
     exact ⟨.mk' false (by rw [← HP.out]; exact ⟨fun h => (by cases h), fun h => absurd h (map_apart HX.out HY.out HNF.out)⟩), HO3.out⟩
    | true =>
     have HNF : Hid (nE x = nE y) := hr.1 rfl
     clear hr o3
     go_wp2_with fail
     go_roundw
     case rel => exact ⟨i + 1, by go_num, by omega, take_map_step HM.out HX.out HY.out HNF.out, HO3.out⟩
     case measure => simp [intOf]; omega
   ·obtain rfl : i = xs.length := by omega
    have i1 : decide ((xs.length : Int) < (xs.length : Int)) = false := decide_eq_false (by omega)
    have i2 : decide (xs.length < xs.length) = false := decide_eq_false (by omega)
    go_wp2_with fail
    go_ret
    exact ⟨.mk' true (by rw [← HP.out]; exact ⟨fun _ => map_done HM.out rfl HLEN.out.symm, fun _ => rfl⟩), HO.out⟩
 ·have d0 : ((xs.length : Int) != (ys.length : Int)) = true := by rw [bne_iff_ne]; omega
  have HNE : Hid (xs.length ≠ ys.length) := hlen
  clear hlen
  go_enter Try.func44, Try.ntmps44
  go_wp2_with fail
  go_ret
  exact ⟨.mk' false (by rw [← HP.out]; exact ⟨fun h => (by cases h), fun h => absurd h (map_len HNE.out)⟩), Off.refl _ w⟩
set_option maxHeartbeats 2000000 in
theorem xsameDigest_any (x y : G) (w : World) (hx : RowD w x.a x.cap x.ds) (hy : RowD w y.a y.cap y.ds) :
  Calls Try.prog 47 #[.agg #[.string x.key, .int .i64 (x.f 0), .int .i64 (x.f 1), .int .i64 (x.f 2), .int .i64 (x.f 3), .int .i64 (x.f 4), .int .i64 (x.f 5), .int .i64 (x.f 6), .int .i64 (x.f 7), .slice x.a x.ds.length x.cap], .agg #[.string y.key, .int .i64 (y.f 0), .int .i64 (y.f 1), .int .i64 (y.f 2), .int .i64 (y.f 3), .int .i64 (y.f 4), .int .i64 (y.f 5), .int .i64 (y.f 6), .int .i64 (y.f 7), .slice y.a y.ds.length y.cap]] w fun e w' => Yes (nG x = nG y) e ∧ Off (fun _ => False) w w' := by
 generalize hP : (nG x = nG y) = P
 have HP : Hid _ := hP
 clear hP
 obtain ⟨W, hW⟩ : ∃ W, W = (w.alloc (.cells #[.string x.key, .int .i64 (x.f 0), .int .i64 (x.f 1), .int .i64 (x.f 2), .int .i64 (x.f 3), .int .i64 (x.f 4), .int .i64 (x.f 5), .int .i64 (x.f 6), .int .i64 (x.f 7), .slice x.a x.ds.length x.cap] 53)).alloc (.cells #[.string y.key, .int .i64 (y.f 0), .int .i64 (y.f 1), .int .i64 (y.f 2), .int .i64 (y.f 3), .int .i64 (y.f 4), .int .i64 (y.f 5), .int .i64 (y.f 6), .int .i64 (y.f 7), .slice y.a y.ds.length y.cap] 53) := ⟨_, rfl⟩
 have O : Off (fun _ => False) w W := by rw [hW]; exact ((Off.refl _ w).alloc _).alloc _
 have C0 : Cel w.heap.size 53 #[.string x.key, .int .i64 (x.f 0), .int .i64 (x.f 1), .int .i64 (x.f 2), .int .i64 (x.f 3), .int .i64 (x.f 4), .int .i64 (x.f 5), .int .i64 (x.f 6), .int .i64 (x.f 7), .slice x.a x.ds.length x.cap] W := by rw [hW]; exact (Cel.new w _ _).alloc _
 have C1 : Cel (w.heap.size + 1) 53 #[.string y.key, .int .i64 (y.f 0), .int .i64 (y.f 1), .int .i64 (y.f 2), .int .i64 (y.f 3), .int .i64 (y.f 4), .int .i64 (y.f 5), .int .i64 (y.f 6), .int .i64 (y.f 7), .slice y.a y.ds.length y.cap] W := by rw [hW]; exact Cel.new1 w _ _ _
 have HX : Hid _ := hx.off O
 have HY : Hid _ := hy.off O
 have HO : Hid _ := O
 go_enter Try.func47, Try.ntmps47
 go_upto_region 1 with fail
 rw [← hW]
 generalize w.heap.size + 1 = b1 at C1 ⊢
 generalize w.heap.size = b0 at C0 ⊢
 clear hW O hx hy
 obtain ⟨x0, x1, x2, x3, x4, x5, x6, x7, x8, x9⟩ := celw10 C0
 obtain ⟨y0, y1, y2, y3, y4, y5, y6, y7, y8, y9⟩ := celw10 C1
 have HC0 : Hid _ := C0
 have HC1 : Hid _ := C1
 clear C0 C1
 by_cases hk : x.key = y.key
 case neg =>
  have e1 : (x.key.toList == y.key.toList) = false := by rw [beq_eq_false_iff_ne]; exact fun e => hk (kb_inj (by rw [toL, toL] at e; exact e))
  have HN : Hid (x.key ≠ y.key) := hk
  clear hk
  go_wp2_with fail
  go_ret
  exact ⟨.mk' false (by rw [← HP.out]; exact ⟨fun h => (by cases h), fun h => absurd (nG_iff.1 h).1 HN.out⟩), HO.out⟩
 have e1 : (x.key.toList == y.key.toList) = true := by rw [hk]; simp
 have HK : Hid (x.key = y.key) := hk
 clear hk
 have hv := eql_vec x.f y.f
 cases hf : eqB x.f y.f with
 | false =>
  rw [hf] at hv
  have HF : Hid (eqB x.f y.f = false) := hf
  clear hf
  go_wp2_with fail
  go_ret
  exact ⟨.mk' false (by rw [← HP.out]; exact ⟨fun h => (by cases h), fun h => absurd (nG_iff.1 h).2.1 (by rw [HF.out]; decide)⟩), HO.out⟩
 | true =>
  rw [hf] at hv
  have HF : Hid (eqB x.f y.f = true) := hf
  clear hf
  go_wp2_with fail
  refine (eqDot_any x.a y.a x.cap y.cap x.ds y.ds _ HX.out HY.out).mono ?_
  rintro e w1 ⟨r, rfl, hr, o1⟩
  have HR : Hid (r = true ↔ x.ds = y.ds) := by have := hr; rwa [List.map_id, List.map_id] at this
  clear hr x0 x1 x2 x3 x4 x5 x6 x7 x8 x9 y0 y1 y2 y3 y4 y5 y6 y7 y8 y9 hv
  go_wp2_with fail
  go_ret
  exact ⟨.mk' r (by rw [← HP.out, HR.out]; exact ⟨fun h => nG_iff.2 ⟨HK.out, HF.out, h⟩, fun h => (nG_iff.1 h).2.2⟩), HO.out.trans o1 (fun _ _ h => h)⟩
set_option maxHeartbeats 4000000 in
theorem eqfD_any (ta tb : Option Addr) (ca cb : Nat) (xs ys : List G) (w : World) (h1 : Dgs w ta ca xs) (h2 : Dgs w tb cb ys) :
  Calls Try.prog 46 #[.slice ta xs.length ca, .slice tb ys.length cb, .func (.func 47) #[] #[]] w fun e w' => Yes (xs.map nG = ys.map nG) e ∧ Off (fun _ => False) w w' := by
 generalize hP : (xs.map nG = ys.map nG) = P
 have HP : Hid _ := hP
 clear hP
 have hxl : xs.length ≤ 9223372036854775807 := Nat.le_trans h1.len h1.bound
 have hyl : ys.length ≤ 9223372036854775807 := Nat.le_trans h2.len h2.bound
 have H1 : Hid _ := h1
 have H2 : Hid _ := h2
 clear h1 h2
 by_cases hlen : xs.length = ys.length
 ·have d0 : ((xs.length : Int) != (ys.length : Int)) = false := by rw [hlen]; simp
  have HLEN : Hid (ys.length = xs.length) := hlen.symm
  clear hlen
  go_enter Try.func46, Try.ntmps46
  go_wp2_with fail
  go_loopw [17] (fun y wr => ∃ i : Nat, y = .int .i64 (i : Int) ∧ i ≤ xs.length ∧ Hid ((xs.take i).map nG = (ys.take i).map nG) ∧ Hid (Off (fun _ => False) w wr)) (fun y _ => ((xs.length : Int) - intOf y).toNat)
  case atStart => exact ⟨0, rfl, by omega, rfl, Off.refl _ _⟩
  case round =>
   obtain ⟨i, rfl, hi, HM, HO⟩ := hrel
   by_cases hil : i < xs.length
   ·have i1 : decide ((i : Int) < (xs.length : Int)) = true := decide_eq_true (by omega)
    have i2 : decide (i < xs.length) = true := decide_eq_true hil
    have hil2 : i < ys.length := by have := HLEN.out; omega
    obtain ⟨x, hx⟩ : ∃ x, xs[i]? = some x := ⟨_, List.getElem?_eq_getElem hil⟩
    obtain ⟨y, hy⟩ : ∃ y, ys[i]? = some y := ⟨_, List.getElem?_eq_getElem hil2⟩
    obtain ⟨ba, oa, rfl, ka, ra⟩ := (H1.out.off HO.out).at_ i x hx
    obtain ⟨bb, ob, rfl, kb, rb⟩ := (H2.out.off HO.out).at_ i y hy
    have HX : Hid _ := hx
    have HY : Hid _ := hy
    have HKB : Hid _ := kb
    obtain ⟨x0, x1, x2, x3, x4, x5, x6, x7, x8, x9⟩ := dg10 ka
    have hix := idx_dgs hil
    have hiy := idx_dgs hil2
    clear hx hy ka kb
    go_upto_region 6 with fail
    have CN := Cel.new wr 53 #[.string x.key, .int .i64 (x.f 0), .int .i64 (x.f 1), .int .i64 (x.f 2), .int .i64 (x.f 3), .int .i64 (x.f 4), .int .i64 (x.f 5), .int .i64 (x.f 6), .int .i64 (x.f 7), .slice x.a x.ds.length x.cap]
    have ON : Off (fun _ => False) wr (wr.alloc (.cells #[.string x.key, .int .i64 (x.f 0), .int .i64 (x.f 1), .int .i64 (x.f 2), .int .i64 (x.f 3), .int .i64 (x.f 4), .int .i64 (x.f 5), .int .i64 (x.f 6), .int .i64 (x.f 7), .slice x.a x.ds.length x.cap] 53)) := (Off.refl _ wr).alloc _
    generalize hvv : wr.alloc (.cells #[.string x.key, .int .i64 (x.f 0), .int .i64 (x.f 1), .int .i64 (x.f 2), .int .i64 (x.f 3), .int .i64 (x.f 4), .int .i64 (x.f 5), .int .i64 (x.f 6), .int .i64 (x.f 7), .slice x.a x.ds.length x.cap] 53) = v1 at CN ON ⊢
    generalize hpp : wr.heap.size = p at CN ⊢
    clear hvv hpp x0 x1 x2 x3 x4 x5 x6 x7 x8 x9
    have rx := ra.off ON
    have ry := rb.off ON
    obtain ⟨x0, x1, x2, x3, x4, x5, x6, x7, x8, x9⟩ := dg10 (cellsX_off ON HKB.out)
    have HCN : Hid _ := CN
    have HO1 : Hid _ := HO.out.trans ON (fun _ _ h => h)
    clear CN ON ra rb
    go_upto_region 7 with fail
    have CM := Cel.new v1 53 #[.string y.key, .int .i64 (y.f 0), .int .i64 (y.f 1), .int .i64 (y.f 2), .int .i64 (y.f 3), .int .i64 (y.f 4), .int .i64 (y.f 5), .int .i64 (y.f 6), .int .i64 (y.f 7), .slice y.a y.ds.length y.cap]
    have OM : Off (fun _ => False) v1 (v1.alloc (.cells #[.string y.key, .int .i64 (y.f 0), .int .i64 (y.f 1), .int .i64 (y.f 2), .int .i64 (y.f 3), .int .i64 (y.f 4), .int .i64 (y.f 5), .int .i64 (y.f 6), .int .i64 (y.f 7), .slice y.a y.ds.length y.cap] 53)) := (Off.refl _ v1).alloc _
    generalize hvv : v1.alloc (.cells #[.string y.key, .int .i64 (y.f 0), .int .i64 (y.f 1), .int .i64 (y.f 2), .int .i64 (y.f 3), .int .i64 (y.f 4), .int .i64 (y.f 5), .int .i64 (y.f 6), .int .i64 (y.f 7), .slice y.a y.ds.length y.cap] 53) = v2 at CM OM ⊢
    generalize hpp : v1.heap.size = q at CM ⊢
    clear hvv hpp x0 x1 x2 x3 x4 x5 x6 x7 x8 x9
    have rx2 := rx.off OM
    have ry2 := ry.off OM
    obtain ⟨x0, x1, x2, x3, x4, x5, x6, x7, x8, x9⟩ := celw10 (HCN.out.off OM (fun h => h))
    obtain ⟨y0, y1, y2, y3, y4, y5, y6, y7, y8, y9⟩ := celw10 CM
    have HO2 : Hid _ := HO1.out.trans OM (fun _ _ h => h)
    clear CM OM rx ry
    go_wp2_with fail
    refine (xsameDigest_any x y _ rx2 ry2).mono ?_
    rintro e w3 ⟨⟨r, rfl, hr⟩, o3⟩
    clear x0 x1 x2 x3 x4 x5 x6 x7 x8 x9 y0 y1 y2 y3 y4 y5 y6 y7 y8 y9 rx2 ry2
    have HO3 : Hid _ := HO2.out.trans o3 (fun _ _ h => h)
    cases r with
    | false =>
     have HNF : Hid (nG x ≠ nG y) := fun h => by have := hr.2 h; cases this
     clear hr o3
     go_wp2_with fail
     go_ret
     exact ⟨.mk' false (by rw [← HP.out]; exact ⟨fun h => (by cases h), fun h => absurd h (map_apart HX.out HY.out HNF.out)⟩), HO3.out⟩
    | true =>
     have HNF : Hid (nG x = nG y) := hr.1 rfl
     clear hr o3
     go_wp2_with fail
     go_roundw
     case rel => exact ⟨i + 1, by go_num, by omega, take_map_step HM.out HX.out HY.out HNF.out, HO3.out⟩
     case measure => simp [intOf]; omega
   ·obtain rfl : i = xs.length := by omega
    have i1 : decide ((xs.length : Int) < (xs.length : Int)) = false := decide_eq_false (by omega)
    have i2 : decide (xs.length < xs.length) = false := decide_eq_false (by omega)
    go_wp2_with fail
    go_ret
    exact ⟨.mk' true (by rw [← HP.out]; exact ⟨fun _ => map_done HM.out rfl HLEN.out.symm, fun _ => rfl⟩), HO.out⟩
 ·have d0 : ((xs.length : Int) != (ys.length : Int)) = true := by rw [bne_iff_ne]; omega
  have HNE : Hid (xs.length ≠ ys.length) := hlen
  clear hlen
  go_enter Try.func46, Try.ntmps46
  go_wp2_with fail
  go_ret
  exact ⟨.mk' false (by rw [← HP.out]; exact ⟨fun h => (by cases h), fun h => absurd h (map_len HNE.out)⟩), Off.refl _ w⟩
end Go.Proofs.Ytmbphlkohlggfaa
