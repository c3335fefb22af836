/- Items of several texts. -/
import Derived.Deep.RegionHeld
import Derived.Deep.Cut
import Derived.Laws.OwnMore
import Derived.Test.YtpnnpdfmoldiiaaDPut
import Derived.Test.YtpnnpdfmoldiiaaDThy2
import Derived.Test.YtpnnpdfmoldiiaaDRefA
import Derived.Test.YtpnnpdfmoldiiaaDGSm
import Derived.Test.YtpnnpdfmoldiiaaDTbJ
import Derived.Test.YtpnnpdfmoldiiaaDLaw10
import Derived.Test.YtpnnpdfmoldiiaaDBks
import Derived.Test.YtpnnpdfmoldiiaaDSmd
namespace Go.Proofs.Ytpnnpdfmoldiiaa
open Go.RowKit
set_option maxRecDepth 100000 in
set_option maxHeartbeats 2000000 in
theorem sdotsB_any (ta tb : Option Addr) (ca cb : Nat) (xs ys : List (Int × Int)) (w : World) (h1 : RowD w ta ca xs) (h2 : RowD w tb cb ys) (he : xs = ys) (hl : xs.length ≤ 9223372036854775807) :
  Calls Try.prog 48 #[.slice ta xs.length ca, .slice tb ys.length cb] w fun e w' => e = .returned (.bool true) ∧ Off (fun _ => False) w w' := by
 have hlen : ys.length = xs.length := by rw [he]
 have d0 : ((xs.length : Int) != (ys.length : Int)) = false := by rw [hlen]; simp
 have HLEN : Hid _ := hlen
 have H1 : Hid _ := h1
 have H2 : Hid _ := h2
 have HE : Hid _ := he
 clear h1 h2 he hlen
 go_enter Try.func48, Try.ntmps48
 go_wp2_with fail
 go_loopw [13] (fun y wr => ∃ i : Nat, y = .int .i64 (i : Int) ∧ i ≤ xs.length ∧ Off (fun _ => False) w wr) (fun y _ => (xs.length - intOf y).toNat)
 case atStart => exact ⟨0, rfl, by omega, Off.refl _ _⟩
 case round =>
  obtain ⟨i, rfl, hi, O⟩ := hrel
  have HO : Hid _ := O
  clear O
  by_cases hil : i < xs.length
  ·have i1 : decide ((i : Int) < (xs.length : Int)) = true := decide_eq_true (by omega)
   have i2 : decide (i < xs.length) = true := decide_eq_true hil
   have hil2 : i < ys.length := by have := HLEN.out; omega
   have hyl : ys.length ≤ 9223372036854775807 := by have := HLEN.out; omega
   obtain ⟨x, hx⟩ : ∃ x, xs[i]? = some x := ⟨_, List.getElem?_eq_getElem hil⟩
   have hLX := hx
   have hLY : ys[i]? = some x := by rw [← HE.out]; exact hx
   obtain ⟨ba, oa, rfl, -, -⟩ := H1.out.at_ i x hLX
   obtain ⟨bb, ob, rfl, -, -⟩ := H2.out.at_ i x hLY
   have LX : Hid (∀ w', Off (fun _ => False) w w' → w'.cell? ⟨ba, oa + i * 2, none⟩ = some (.int .i64 x.1) ∧ w'.cell? ⟨ba, oa + i * 2 + 1, none⟩ = some (.int .i64 x.2)) := fun w' hw' => by
    obtain ⟨b', o', e', k0, k1⟩ := (H1.out.off hw').at_ i x hLX
    simp only [Option.some.injEq, Addr.mk.injEq, and_true] at e'
    obtain ⟨rfl, rfl⟩ := e'
    exact ⟨k0, k1⟩
   have LY : Hid (∀ w', Off (fun _ => False) w w' → w'.cell? ⟨bb, ob + i * 2, none⟩ = some (.int .i64 x.1) ∧ w'.cell? ⟨bb, ob + i * 2 + 1, none⟩ = some (.int .i64 x.2)) := fun w' hw' => by
    obtain ⟨b', o', e', k0, k1⟩ := (H2.out.off hw').at_ i x hLY
    simp only [Option.some.injEq, Addr.mk.injEq, and_true] at e'
    obtain ⟨rfl, rfl⟩ := e'
    exact ⟨k0, k1⟩
   clear hx hLX hLY
   go_upto_region 6 with fail
   refine wp_region_held_drew (S := Off (fun _ => False) w) (by kernel_rfl) HO.out.drew (fun hS => ?_)
   refine take_at (i := 0) 16 (v := .slice (some ⟨ba, oa, none⟩) xs.length ca) rfl rfl (by kernel_rfl) (by kernel_rfl) (by kernel_rfl) (fun _ _ _ h => h) (Or.inl ⟨by rfl, fun w' hw' => by go_simp⟩) hS ?_
   simp only [Act.put, lsA, lsZ, lsS]
   refine take_at (i := 1) 17 (v := .int .i64 (i : Int)) rfl rfl (by kernel_rfl) (by kernel_rfl) (by kernel_rfl) (fun _ _ _ h => h) (Or.inl ⟨by rfl, fun w' hw' => by go_simp⟩) hS ?_
   simp only [Act.put, lsA, lsZ, lsS]
   refine take_at (i := 2) 18 (v := .pointer (some ⟨ba, oa + i * 2, none⟩)) rfl rfl (by kernel_rfl) (by kernel_rfl) (by kernel_rfl) (fun _ _ _ h => h) (Or.inl ⟨by rfl, fun w' hw' => exec_idx10 rfl (idx_dots hil ca ba oa w')⟩) hS ?_
   simp only [Act.put, lsA, lsZ, lsS]
   refine take_at (i := 3) 19 (v := .agg #[.int .i64 x.1, .int .i64 x.2]) rfl rfl (by kernel_rfl) (by kernel_rfl) (by kernel_rfl) (fun _ _ _ h => h) (Or.inl ⟨by rfl, fun w' hw' => by obtain ⟨z0, z1⟩ := LX.out w' hw'; go_simp⟩) hS ?_
   simp only [Act.put, lsA, lsZ, lsS]
   refine take_at (i := 4) 20 (v := .slice (some ⟨bb, ob, none⟩) ys.length cb) rfl rfl (by kernel_rfl) (by kernel_rfl) (by kernel_rfl) (fun _ _ _ h => h) (Or.inl ⟨by rfl, fun w' hw' => by go_simp⟩) hS ?_
   simp only [Act.put, lsA, lsZ, lsS]
   refine take_at (i := 5) 21 (v := .int .i64 (i : Int)) rfl rfl (by kernel_rfl) (by kernel_rfl) (by kernel_rfl) (fun _ _ _ h => h) (Or.inl ⟨by rfl, fun w' hw' => by go_simp⟩) hS ?_
   simp only [Act.put, lsA, lsZ, lsS]
   refine take_at (i := 6) 22 (v := .pointer (some ⟨bb, ob + i * 2, none⟩)) rfl rfl (by kernel_rfl) (by kernel_rfl) (by kernel_rfl) (fun _ _ _ h => h) (Or.inl ⟨by rfl, fun w' hw' => exec_idx10 rfl (idx_dots hil2 cb bb ob w')⟩) hS ?_
   simp only [Act.put, lsA, lsZ, lsS]
   refine take_at (i := 7) 23 (v := .agg #[.int .i64 x.1, .int .i64 x.2]) rfl rfl (by kernel_rfl) (by kernel_rfl) (by kernel_rfl) (fun _ _ _ h => h) (Or.inl ⟨by rfl, fun w' hw' => by obtain ⟨z0, z1⟩ := LY.out w' hw'; go_simp⟩) hS ?_
   simp only [Act.put, lsA, lsZ, lsS]
   refine take_at (i := 8) 24 (v := .bool false) rfl rfl (by kernel_rfl) (by kernel_rfl) (by kernel_rfl) (fun _ _ _ h => h) (Or.inl ⟨by rfl, fun w' hw' => exec_bin10 rfl (by go_simp) (neqd_self x.1 x.2 w')⟩) hS ?_
   simp only [Act.put, lsA, lsZ, lsS]
   refine wpAnyH_done (by kernel_rfl) ?_ _
   go_wp2_with fail
   go_roundw
   case rel => exact ⟨i + 1, by go_num, by omega, hS⟩
   case measure => simp [intOf]; omega
  ·obtain rfl : i = xs.length := by omega
   have i1 : decide ((xs.length : Int) < (xs.length : Int)) = false := decide_eq_false (by omega)
   have i2 : decide (xs.length < xs.length) = false := decide_eq_false (by omega)
   go_wp2_with fail
   go_ret
   exact ⟨rfl, HO.out⟩
set_option maxRecDepth 100000 in
set_option maxHeartbeats 2000000 in
theorem samedgsB_any (a b : Option Addr) (ca cb : Nat) (xs ys : List G) (w : World) (h1 : Dgs w a ca xs) (h2 : Dgs w b cb ys) (hlen : ys.length = xs.length) (he : ∀ (i : Nat) (x y : G), xs[i]? = some x → ys[i]? = some y → y.key = x.key ∧ eqB x.f y.f = true ∧ x.ds = y.ds ∧ x.ds.length ≤ 9223372036854775807) (hl : xs.length ≤ 9223372036854775807) :
  Calls Try.prog 15 #[.slice a xs.length ca, .slice b ys.length cb] w fun e w' => e = .returned (.bool true) ∧ Off (fun _ => False) w w' := by
 have hnot := not_any
 have d0 : ((xs.length : Int) != (ys.length : Int)) = false := by rw [hlen]; simp
 have HLEN : Hid _ := hlen
 have H1 : Hid _ := h1
 have H2 : Hid _ := h2
 have HE : Hid _ := he
 clear h1 h2 he hlen
 go_enter Try.func15, Try.ntmps15
 go_wp2_with fail
 go_loopw [13] (fun y wr => ∃ i : Nat, y = .int .i64 (i : Int) ∧ i ≤ xs.length ∧ Off (fun _ => False) w wr) (fun y _ => (xs.length - intOf y).toNat)
 case atStart => exact ⟨0, rfl, by omega, Off.refl _ _⟩
 case round =>
  obtain ⟨i, rfl, hi, O⟩ := hrel
  have HO : Hid _ := O
  clear O
  by_cases hil : i < xs.length
  ·have i1 : decide ((i : Int) < (xs.length : Int)) = true := decide_eq_true (by omega)
   have i2 : decide (i < xs.length) = true := decide_eq_true hil
   have hil2 : i < ys.length := by have := HLEN.out; omega
   have hyl : ys.length ≤ 9223372036854775807 := by have := HLEN.out; omega
   obtain ⟨x, hx⟩ : ∃ x, xs[i]? = some x := ⟨_, List.getElem?_eq_getElem hil⟩
   obtain ⟨y, hy⟩ : ∃ y, ys[i]? = some y := ⟨_, List.getElem?_eq_getElem hil2⟩
   have hq := HE.out i x y hx hy
   have HKEY : Hid _ := hq.1
   have HEQ : Hid _ := hq.2.1
   have HDD : Hid _ := hq.2.2.1
   have HDL : Hid _ := hq.2.2.2
   obtain ⟨ba, oa, rfl, ka, ra⟩ := H1.out.at_ i x hx
   obtain ⟨bb, ob, rfl, kb, rb⟩ := H2.out.at_ i y hy
   have HKA : Hid _ := ka
   have HKB : Hid _ := kb
   have HRX : Hid _ := ra
   have HRY : Hid _ := rb
   clear ka kb ra rb hx hy hq
   go_upto_region 6 with fail
   refine wp_region_held_drew (S := Off (fun _ => False) w) (by kernel_rfl) HO.out.drew (fun hS => ?_)
   refine take_at (i := 0) 16 (v := .slice (some ⟨ba, oa, none⟩) xs.length ca) rfl rfl (by kernel_rfl) (by kernel_rfl) (by kernel_rfl) (fun _ _ _ h => h) (Or.inl ⟨by rfl, fun w' hw' => by go_simp⟩) hS ?_
   simp only [Act.put, lsA, lsZ, lsS]
   refine take_at (i := 1) 17 (v := .int .i64 (i : Int)) rfl rfl (by kernel_rfl) (by kernel_rfl) (by kernel_rfl) (fun _ _ _ h => h) (Or.inl ⟨by rfl, fun w' hw' => by go_simp⟩) hS ?_
   simp only [Act.put, lsA, lsZ, lsS]
   refine take_at (i := 2) 18 (v := .pointer (some ⟨ba, oa + i * 10, none⟩)) rfl rfl (by kernel_rfl) (by kernel_rfl) (by kernel_rfl) (fun _ _ _ h => h) (Or.inl ⟨by rfl, fun w' hw' => exec_idx10 rfl (idx_dgs hil ca ba oa w')⟩) hS ?_
   simp only [Act.put, lsA, lsZ, lsS]
   refine take_at (i := 3) 19 (v := .pointer (some ⟨ba, oa + i * 10, none⟩)) rfl rfl (by kernel_rfl) (by kernel_rfl) (by kernel_rfl) (fun _ _ _ h => h) (Or.inl ⟨by rfl, fun w' hw' => by go_simp⟩) hS ?_
   simp only [Act.put, lsA, lsZ, lsS]
   refine take_at (i := 4) 20 (v := .string x.key) rfl rfl (by kernel_rfl) (by kernel_rfl) (by kernel_rfl) (fun _ _ _ h => h) (Or.inl ⟨by rfl, fun w' hw' => by obtain ⟨k0, k1, k2, k3, k4, k5, k6, k7, k8, k9⟩ := dg10 (gcells_off hw' HKA.out); go_simp⟩) hS ?_
   simp only [Act.put, lsA, lsZ, lsS]
   refine take_at (i := 5) 21 (v := .slice (some ⟨bb, ob, none⟩) ys.length cb) rfl rfl (by kernel_rfl) (by kernel_rfl) (by kernel_rfl) (fun _ _ _ h => h) (Or.inl ⟨by rfl, fun w' hw' => by go_simp⟩) hS ?_
   simp only [Act.put, lsA, lsZ, lsS]
   refine take_at (i := 6) 22 (v := .int .i64 (i : Int)) rfl rfl (by kernel_rfl) (by kernel_rfl) (by kernel_rfl) (fun _ _ _ h => h) (Or.inl ⟨by rfl, fun w' hw' => by go_simp⟩) hS ?_
   simp only [Act.put, lsA, lsZ, lsS]
   refine take_at (i := 7) 23 (v := .pointer (some ⟨bb, ob + i * 10, none⟩)) rfl rfl (by kernel_rfl) (by kernel_rfl) (by kernel_rfl) (fun _ _ _ h => h) (Or.inl ⟨by rfl, fun w' hw' => exec_idx10 rfl (idx_dgs hil2 cb bb ob w')⟩) hS ?_
   simp only [Act.put, lsA, lsZ, lsS]
   refine take_at (i := 8) 24 (v := .pointer (some ⟨bb, ob + i * 10, none⟩)) rfl rfl (by kernel_rfl) (by kernel_rfl) (by kernel_rfl) (fun _ _ _ h => h) (Or.inl ⟨by rfl, fun w' hw' => by go_simp⟩) hS ?_
   simp only [Act.put, lsA, lsZ, lsS]
   refine take_at (i := 9) 25 (v := .string x.key) rfl rfl (by kernel_rfl) (by kernel_rfl) (by kernel_rfl) (fun _ _ _ h => h) (Or.inl ⟨by rfl, fun w' hw' => by obtain ⟨k0, k1, k2, k3, k4, k5, k6, k7, k8, k9⟩ := dg10 (gcells_off hw' HKB.out); rw [HKEY.out] at k0; go_simp⟩) hS ?_
   simp only [Act.put, lsA, lsZ, lsS]
   refine take_at (i := 10) 26 (v := .bool false) rfl rfl (by kernel_rfl) (by kernel_rfl) (by kernel_rfl) (fun _ _ _ h => h) (Or.inl ⟨by rfl, fun w' hw' => by go_simp⟩) hS ?_
   simp only [Act.put, lsA, lsZ, lsS]
   refine take_at (i := 11) 27 (v := .bool false) rfl rfl (by kernel_rfl) (by kernel_rfl) (by kernel_rfl) (fun _ _ _ h => h) (Or.inl ⟨by rfl, fun w' hw' => by go_simp⟩) hS ?_
   simp only [Act.put, lsA, lsZ, lsS]
   refine take_at (i := 12) 28 (v := .slice (some ⟨ba, oa, none⟩) xs.length ca) rfl rfl (by kernel_rfl) (by kernel_rfl) (by kernel_rfl) (fun _ _ _ h => h) (Or.inl ⟨by rfl, fun w' hw' => by go_simp⟩) hS ?_
   simp only [Act.put, lsA, lsZ, lsS]
   refine take_at (i := 13) 29 (v := .int .i64 (i : Int)) rfl rfl (by kernel_rfl) (by kernel_rfl) (by kernel_rfl) (fun _ _ _ h => h) (Or.inl ⟨by rfl, fun w' hw' => by go_simp⟩) hS ?_
   simp only [Act.put, lsA, lsZ, lsS]
   refine take_at (i := 14) 30 (v := .pointer (some ⟨ba, oa + i * 10, none⟩)) rfl rfl (by kernel_rfl) (by kernel_rfl) (by kernel_rfl) (fun _ _ _ h => h) (Or.inl ⟨by rfl, fun w' hw' => exec_idx10 rfl (idx_dgs hil ca ba oa w')⟩) hS ?_
   simp only [Act.put, lsA, lsZ, lsS]
   refine take_at (i := 15) 31 (v := .pointer (some ⟨ba, oa + i * 10 + 1, none⟩)) rfl rfl (by kernel_rfl) (by kernel_rfl) (by kernel_rfl) (fun _ _ _ h => h) (Or.inl ⟨by rfl, fun w' hw' => by go_simp⟩) hS ?_
   simp only [Act.put, lsA, lsZ, lsS]
   refine take_at (i := 16) 32 (v := .agg #[.int .i64 (x.f 0), .int .i64 (x.f 1), .int .i64 (x.f 2), .int .i64 (x.f 3), .int .i64 (x.f 4), .int .i64 (x.f 5), .int .i64 (x.f 6), .int .i64 (x.f 7)]) rfl rfl (by kernel_rfl) (by kernel_rfl) (by kernel_rfl) (fun _ _ _ h => h) (Or.inl ⟨by rfl, fun w' hw' => by obtain ⟨k0, k1, k2, k3, k4, k5, k6, k7, k8, k9⟩ := dg10 (gcells_off hw' HKA.out); go_simp⟩) hS ?_
   simp only [Act.put, lsA, lsZ, lsS]
   refine take_at (i := 17) 33 (v := .slice (some ⟨bb, ob, none⟩) ys.length cb) rfl rfl (by kernel_rfl) (by kernel_rfl) (by kernel_rfl) (fun _ _ _ h => h) (Or.inl ⟨by rfl, fun w' hw' => by go_simp⟩) hS ?_
   simp only [Act.put, lsA, lsZ, lsS]
   refine take_at (i := 18) 34 (v := .int .i64 (i : Int)) rfl rfl (by kernel_rfl) (by kernel_rfl) (by kernel_rfl) (fun _ _ _ h => h) (Or.inl ⟨by rfl, fun w' hw' => by go_simp⟩) hS ?_
   simp only [Act.put, lsA, lsZ, lsS]
   refine take_at (i := 19) 35 (v := .pointer (some ⟨bb, ob + i * 10, none⟩)) rfl rfl (by kernel_rfl) (by kernel_rfl) (by kernel_rfl) (fun _ _ _ h => h) (Or.inl ⟨by rfl, fun w' hw' => exec_idx10 rfl (idx_dgs hil2 cb bb ob w')⟩) hS ?_
   simp only [Act.put, lsA, lsZ, lsS]
   refine take_at (i := 20) 36 (v := .pointer (some ⟨bb, ob + i * 10 + 1, none⟩)) rfl rfl (by kernel_rfl) (by kernel_rfl) (by kernel_rfl) (fun _ _ _ h => h) (Or.inl ⟨by rfl, fun w' hw' => by go_simp⟩) hS ?_
   simp only [Act.put, lsA, lsZ, lsS]
   refine take_at (i := 21) 37 (v := .agg #[.int .i64 (y.f 0), .int .i64 (y.f 1), .int .i64 (y.f 2), .int .i64 (y.f 3), .int .i64 (y.f 4), .int .i64 (y.f 5), .int .i64 (y.f 6), .int .i64 (y.f 7)]) rfl rfl (by kernel_rfl) (by kernel_rfl) (by kernel_rfl) (fun _ _ _ h => h) (Or.inl ⟨by rfl, fun w' hw' => by obtain ⟨k0, k1, k2, k3, k4, k5, k6, k7, k8, k9⟩ := dg10 (gcells_off hw' HKB.out); go_simp⟩) hS ?_
   simp only [Act.put, lsA, lsZ, lsS]
   refine take_at (i := 22) 38 (v := .bool false) rfl rfl (by kernel_rfl) (by kernel_rfl) (by kernel_rfl) (fun _ _ _ h => h) (Or.inl ⟨by rfl, fun w' hw' => exec_bin10 rfl (by go_simp) (neqv_same HEQ.out w')⟩) hS ?_
   simp only [Act.put, lsA, lsZ, lsS]
   refine take_at (i := 23) 39 (v := .bool false) rfl rfl (by kernel_rfl) (by kernel_rfl) (by kernel_rfl) (fun _ _ _ h => h) (Or.inl ⟨by rfl, fun w' hw' => by go_simp⟩) hS ?_
   simp only [Act.put, lsA, lsZ, lsS]
   refine take_at (i := 24) 40 (v := .bool false) rfl rfl (by kernel_rfl) (by kernel_rfl) (by kernel_rfl) (fun _ _ _ h => h) (Or.inl ⟨by rfl, fun w' hw' => by go_simp⟩) hS ?_
   simp only [Act.put, lsA, lsZ, lsS]
   refine take_at (i := 25) 41 (v := .slice (some ⟨ba, oa, none⟩) xs.length ca) rfl rfl (by kernel_rfl) (by kernel_rfl) (by kernel_rfl) (fun _ _ _ h => h) (Or.inl ⟨by rfl, fun w' hw' => by go_simp⟩) hS ?_
   simp only [Act.put, lsA, lsZ, lsS]
   refine take_at (i := 26) 42 (v := .int .i64 (i : Int)) rfl rfl (by kernel_rfl) (by kernel_rfl) (by kernel_rfl) (fun _ _ _ h => h) (Or.inl ⟨by rfl, fun w' hw' => by go_simp⟩) hS ?_
   simp only [Act.put, lsA, lsZ, lsS]
   refine take_at (i := 27) 43 (v := .pointer (some ⟨ba, oa + i * 10, none⟩)) rfl rfl (by kernel_rfl) (by kernel_rfl) (by kernel_rfl) (fun _ _ _ h => h) (Or.inl ⟨by rfl, fun w' hw' => exec_idx10 rfl (idx_dgs hil ca ba oa w')⟩) hS ?_
   simp only [Act.put, lsA, lsZ, lsS]
   refine take_at (i := 28) 44 (v := .pointer (some ⟨ba, oa + i * 10 + 9, none⟩)) rfl rfl (by kernel_rfl) (by kernel_rfl) (by kernel_rfl) (fun _ _ _ h => h) (Or.inl ⟨by rfl, fun w' hw' => by go_simp⟩) hS ?_
   simp only [Act.put, lsA, lsZ, lsS]
   refine take_at (i := 29) 45 (v := .slice x.a x.ds.length x.cap) rfl rfl (by kernel_rfl) (by kernel_rfl) (by kernel_rfl) (fun _ _ _ h => h) (Or.inl ⟨by rfl, fun w' hw' => by obtain ⟨k0, k1, k2, k3, k4, k5, k6, k7, k8, k9⟩ := dg10 (gcells_off hw' HKA.out); go_simp⟩) hS ?_
   simp only [Act.put, lsA, lsZ, lsS]
   refine take_at (i := 30) 46 (v := .slice (some ⟨bb, ob, none⟩) ys.length cb) rfl rfl (by kernel_rfl) (by kernel_rfl) (by kernel_rfl) (fun _ _ _ h => h) (Or.inl ⟨by rfl, fun w' hw' => by go_simp⟩) hS ?_
   simp only [Act.put, lsA, lsZ, lsS]
   refine take_at (i := 31) 47 (v := .int .i64 (i : Int)) rfl rfl (by kernel_rfl) (by kernel_rfl) (by kernel_rfl) (fun _ _ _ h => h) (Or.inl ⟨by rfl, fun w' hw' => by go_simp⟩) hS ?_
   simp only [Act.put, lsA, lsZ, lsS]
   refine take_at (i := 32) 48 (v := .pointer (some ⟨bb, ob + i * 10, none⟩)) rfl rfl (by kernel_rfl) (by kernel_rfl) (by kernel_rfl) (fun _ _ _ h => h) (Or.inl ⟨by rfl, fun w' hw' => exec_idx10 rfl (idx_dgs hil2 cb bb ob w')⟩) hS ?_
   simp only [Act.put, lsA, lsZ, lsS]
   refine take_at (i := 33) 49 (v := .pointer (some ⟨bb, ob + i * 10 + 9, none⟩)) rfl rfl (by kernel_rfl) (by kernel_rfl) (by kernel_rfl) (fun _ _ _ h => h) (Or.inl ⟨by rfl, fun w' hw' => by go_simp⟩) hS ?_
   simp only [Act.put, lsA, lsZ, lsS]
   refine take_at (i := 34) 50 (v := .slice y.a y.ds.length y.cap) rfl rfl (by kernel_rfl) (by kernel_rfl) (by kernel_rfl) (fun _ _ _ h => h) (Or.inl ⟨by rfl, fun w' hw' => by obtain ⟨k0, k1, k2, k3, k4, k5, k6, k7, k8, k9⟩ := dg10 (gcells_off hw' HKB.out); go_simp⟩) hS ?_
   simp only [Act.put, lsA, lsZ, lsS]
   refine wpAnyH_ready (rs := [35]) (by kernel_rfl) (by simp) ?_
   refine AllReadyH.cons rfl (fun K' hK' => ?_) AllReadyH.nil
   go_simp
   refine (sdotsB_any x.a y.a x.cap y.cap x.ds y.ds _ (HRX.out.off hS) (HRY.out.off hS) HDD.out HDL.out).mono ?_
   rintro e v ⟨rfl, o1⟩
   have hS1 := hS.trans o1 (fun _ _ h => h)
   refine hK'.out _ _ hS1 (fun hS => ?_)
   clear hK' K' hS1
   refine take_at (i := 36) 52 (v := .bool false) rfl rfl (by kernel_rfl) (by kernel_rfl) (by kernel_rfl) (fun _ _ _ h => h) (Or.inl ⟨by rfl, fun w' hw' => by go_simp⟩) hS ?_
   simp only [Act.put, lsA, lsZ, lsS]
   refine take_at (i := 37) 53 (v := .bool false) rfl rfl (by kernel_rfl) (by kernel_rfl) (by kernel_rfl) (fun _ _ _ h => h) (Or.inl ⟨by rfl, fun w' hw' => by go_simp⟩) hS ?_
   simp only [Act.put, lsA, lsZ, lsS]
   refine wpAnyH_done (by kernel_rfl) ?_ _
   go_wp2_with fail
   go_roundw
   case rel => exact ⟨i + 1, by go_num, by omega, hS⟩
   case measure => simp [intOf]; omega
  ·obtain rfl : i = xs.length := by omega
   have i1 : decide ((xs.length : Int) < (xs.length : Int)) = false := decide_eq_false (by omega)
   have i2 : decide (xs.length < xs.length) = false := decide_eq_false (by omega)
   go_wp2_with fail
   go_ret
   exact ⟨rfl, HO.out⟩
end Go.Proofs.Ytpnnpdfmoldiiaa
