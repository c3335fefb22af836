/- Items of several texts. -/
import Derived.Deep.RegionHeld
import Derived.Deep.Cut
import Derived.Test.YtmbphlkohlggfaaGreatAGSm
import Derived.Test.YtmbphlkohlggfaaGreatADg0
import Derived.Test.YtmbphlkohlggfaaGreatABks
namespace Go.Proofs.YtmbphlkohlggfaaGreat
open Go.RowKit
theorem kmay_any (s : ByteArray) (w : World) : Calls Tryz.prog 95 #[.string s] w fun e w' => e = .returned (.bool (keyB s)) ∧ w' = w := by
 by_cases h1 : 1 ≤ s.size
 ·have e1 : decide ((1 : Int) ≤ (s.size : Int)) = true := decide_eq_true (by omega)
  have e1' : decide (1 ≤ s.size) = true := decide_eq_true h1
  by_cases h2 : s.size ≤ 32
  ·have e2 : decide ((s.size : Int) ≤ 32) = true := decide_eq_true (by omega)
   have e2' : decide (s.size ≤ 32) = true := decide_eq_true h2
   go_enter Tryz.func95, Tryz.ntmps95
   go_wp2_with fail
   go_ret
   simp [keyB, e1', e2']
  ·have e2 : decide ((s.size : Int) ≤ 32) = false := decide_eq_false (by omega)
   have e2' : decide (s.size ≤ 32) = false := decide_eq_false h2
   go_enter Tryz.func95, Tryz.ntmps95
   go_wp2_with fail
   go_ret
   simp [keyB, e1', e2']
 ·have e1 : decide ((1 : Int) ≤ (s.size : Int)) = false := decide_eq_false (by omega)
  have e1' : decide (1 ≤ s.size) = false := decide_eq_false h1
  go_enter Tryz.func95, Tryz.ntmps95
  go_wp2_with fail
  go_ret
  simp [keyB, e1']
set_option maxRecDepth 100000 in
set_option maxHeartbeats 4000000 in
theorem dmay_any (key : ByteArray) (f : Nat → Int) (a : Option Addr) (cap : Nat) (ds : List (Int × Int)) (w : World) (hr : RowD w a cap ds) :
  Calls Tryz.prog 62 #[.agg #[.string key, .int .i64 (f 0), .int .i64 (f 1), .int .i64 (f 2), .int .i64 (f 3), .int .i64 (f 4), .int .i64 (f 5), .int .i64 (f 6), .int .i64 (f 7), .slice a ds.length cap]] w fun e w' => e = .returned (.bool (mayD ⟨key, f, ds⟩)) ∧ Off (fun _ => False) w w' := by
 have C0 := Cel.new w 49 #[.string key, .int .i64 (f 0), .int .i64 (f 1), .int .i64 (f 2), .int .i64 (f 3), .int .i64 (f 4), .int .i64 (f 5), .int .i64 (f 6), .int .i64 (f 7), .slice a ds.length cap]
 have O0 : Off (fun _ => False) w (w.alloc (.cells #[.string key, .int .i64 (f 0), .int .i64 (f 1), .int .i64 (f 2), .int .i64 (f 3), .int .i64 (f 4), .int .i64 (f 5), .int .i64 (f 6), .int .i64 (f 7), .slice a ds.length cap] 49)) := (Off.refl _ w).alloc _
 have hnot := not_any
 go_enter Tryz.func62, Tryz.ntmps62
 go_upto_region 1 with fail
 generalize hq : w.heap.size = q at C0 ⊢
 generalize hv : w.alloc (.cells #[.string key, .int .i64 (f 0), .int .i64 (f 1), .int .i64 (f 2), .int .i64 (f 3), .int .i64 (f 4), .int .i64 (f 5), .int .i64 (f 6), .int .i64 (f 7), .slice a ds.length cap] 49) = W at C0 O0 ⊢
 clear hq hv
 have HR : Hid _ := hr.off O0
 have HC0 : Hid _ := C0
 have HO0 : Hid _ := O0
 obtain ⟨y0, y1, y2, y3, y4, y5, y6, y7, y8, y9⟩ := cel10 C0
 clear C0 O0 hr
 have HM : Hid (mayD ⟨key, f, ds⟩ = (keyB key && (mayB f && (decide (ds.length ≤ 16) && okD f none ds)))) := show _ = _ from rfl
 go_wp2_with fail
 refine (kmay_any key _).mono ?_
 rintro e w1 ⟨rfl, hw1⟩
 rw [hw1]
 clear hw1 w1
 cases hk : keyB key
 ·go_wp2_with fail
  go_ret
  exact ⟨by rw [HM.out, hk]; rfl, HO0.out⟩
 go_wp2_with fail
 refine (may_any f _).mono ?_
 rintro e w2 ⟨rfl, o2⟩
 clear y0 y1 y2 y3 y4 y5 y6 y7 y8 y9
 have C2 := HC0.out.off o2 (fun h => h)
 have HC2 : Hid _ := C2
 have HO2 : Hid _ := HO0.out.trans o2 (fun _ _ h => h)
 have HR2 : Hid _ := HR.out.off o2
 obtain ⟨y0, y1, y2, y3, y4, y5, y6, y7, y8, y9⟩ := cel10 C2
 clear C2 o2 HC0 HO0 HR
 cases hm : mayB f
 ·go_wp2_with fail
  go_ret
  exact ⟨by rw [HM.out, hk, hm]; rfl, HO2.out⟩
 by_cases hlen : ds.length ≤ 16
 case neg =>
  have d1 : decide ((16 : Int) < (ds.length : Int)) = true := decide_eq_true (by omega)
  have d2 : decide (16 < ds.length) = true := decide_eq_true (by omega)
  go_wp2_with fail
  go_ret
  exact ⟨by rw [HM.out, hk, hm, decide_eq_false hlen]; rfl, HO2.out⟩
 have d1 : decide ((16 : Int) < (ds.length : Int)) = false := decide_eq_false (by omega)
 have d2 : decide (16 < ds.length) = false := decide_eq_false (by omega)
 have HM2 : Hid (mayD ⟨key, f, ds⟩ = okD f none ds) := by show _ = _; rw [HM.out, hk, hm, decide_eq_true hlen]; rfl
 clear HM hk hm
 go_wp2_with fail
 clear y0 y1 y2 y3 y4 y5 y6 y7 y8 y9
 go_loopw [24] (fun y wr => ∃ n : Nat, y = .int .i64 (n : Int) ∧ n ≤ ds.length ∧ okD f none ds = okD f (prv ds n) (ds.drop n) ∧ Off (fun _ => False) w2 wr) (fun y _ => (ds.length - intOf y).toNat)
 case atStart => exact ⟨0, rfl, by omega, rfl, Off.refl _ _⟩
 case round =>
  obtain ⟨n, rfl, hn, hok, O⟩ := hrel
  have HO : Hid _ := O
  have HOK : Hid _ := hok
  clear O hok
  by_cases hlt : n < ds.length
  ·have e1 : decide ((n : Int) < (ds.length : Int)) = true := decide_eq_true (by omega)
   have e2 : decide (n < ds.length) = true := decide_eq_true hlt
   obtain ⟨d, hd⟩ : ∃ d, ds[n]? = some d := ⟨_, List.getElem?_eq_getElem hlt⟩
   obtain ⟨b, off, rfl, k0, k1⟩ := (HR2.out.off HO.out).at_ n d hd
   have HST : Hid (okD f none ds = okD f (prv ds n) (d :: ds.drop (n + 1))) := by show _ = _; rw [HOK.out, okD_step hd]
   have HPV : Hid (prv ds (n + 1) = some d) := hd
   have hix := idx_dots hlt
   clear hd HOK
   have CD := Cel.new wr 93 #[.int .i64 d.1, .int .i64 d.2]
   have OD : Off (fun _ => False) wr (wr.alloc (.cells #[.int .i64 d.1, .int .i64 d.2] 93)) := (Off.refl _ wr).alloc _
   go_upto_region 6 with fail
   generalize hqd : wr.heap.size = qd at CD ⊢
   generalize hvd : wr.alloc (.cells #[.int .i64 d.1, .int .i64 d.2] 93) = V1 at CD OD ⊢
   clear hqd hvd k0 k1 hix
   have HD1 : Hid (∀ w', Off (fun _ => False) V1 w' → w'.cell? ⟨qd, 0, none⟩ = some (.int .i64 d.1) ∧ w'.cell? ⟨qd, 1, none⟩ = some (.int .i64 d.2)) := fun w' hw' => ⟨(CD.off hw' (fun h => h)).cell 0, (CD.off hw' (fun h => h)).cell 1⟩
   have HO1 : Hid _ := HO.out.trans OD (fun _ _ h => h)
   have HC1 : Hid _ := HC2.out.off HO1.out (fun h => h)
   have HR1 : Hid _ := HR2.out.off HO1.out
   clear CD OD
   have PRE : n = 0 ∨ ∃ m u, n = m + 1 ∧ m < ds.length ∧ prv ds n = some u ∧ ∀ w', Off (fun _ => False) V1 w' → w'.cell? ⟨b, off + m * 2, none⟩ = some (.int .i64 u.1) ∧ w'.cell? ⟨b, off + m * 2 + 1, none⟩ = some (.int .i64 u.2) := by
    rcases n with _ | m
    ·exact .inl rfl
    ·obtain ⟨u, hu⟩ : ∃ u, ds[m]? = some u := ⟨_, List.getElem?_eq_getElem (by omega)⟩
     refine .inr ⟨m, u, rfl, by omega, hu, fun w' hw' => ?_⟩
     obtain ⟨b', off', e', k0, k1⟩ := (HR1.out.off hw').at_ m u hu
     simp only [Option.some.injEq, Addr.mk.injEq, and_true] at e'
     obtain ⟨rfl, rfl⟩ := e'
     exact ⟨k0, k1⟩
   rcases PRE with hz | ⟨m, u, hm, hml, hpv, hp1⟩
   ·have d3 : decide ((0 : Int) < (n : Int)) = false := decide_eq_false (by omega)
    have d4 : decide (0 < n) = false := decide_eq_false (by omega)
    have HST2 : Hid (mayD ⟨key, f, ds⟩ = (coversB f d.1 d.2 && okD f (some d) (ds.drop (n + 1)))) := by show _ = _; rw [HM2.out, HST.out, hz]; rfl
    have HZ : Hid _ := hz
    clear hz HST
    refine wp_region_held_drew (S := Off (fun _ => False) V1) (by kernel_rfl) ((Off.refl _ V1).drew) (fun hS => ?_)
    refine take_at (i := 0) 29 (v := .int .i64 (n : Int)) rfl rfl (by kernel_rfl) (by kernel_rfl) (by kernel_rfl) (fun _ _ _ h => h) (Or.inl ⟨by rfl, fun w' hw' => by go_simp⟩) hS ?_
    simp only [Act.put, lsA, lsZ, lsS]
    refine take_at (i := 1) 30 (v := .bool false) rfl rfl (by kernel_rfl) (by kernel_rfl) (by kernel_rfl) (fun _ _ _ h => h) (Or.inl ⟨by rfl, fun w' hw' => by go_simp⟩) hS ?_
    simp only [Act.put, lsA, lsZ, lsS]
    refine take_at (i := 2) 31 (v := .bool false) rfl rfl (by kernel_rfl) (by kernel_rfl) (by kernel_rfl) (fun _ _ _ h => h) (Or.inl ⟨by rfl, fun w' hw' => by go_simp⟩) hS ?_
    simp only [Act.put, lsA, lsZ, lsS]
    refine take_at (i := 3) 32 (v := undef) rfl rfl (by kernel_rfl) (by kernel_rfl) (by kernel_rfl) (fun _ _ _ h => h) (Or.inr ⟨by rfl, rfl⟩) hS ?_
    simp only [Act.put, lsA, lsZ, lsS]
    refine take_at (i := 4) 33 (v := undef) rfl rfl (by kernel_rfl) (by kernel_rfl) (by kernel_rfl) (fun _ _ _ h => h) (Or.inr ⟨by rfl, rfl⟩) hS ?_
    simp only [Act.put, lsA, lsZ, lsS]
    refine take_at (i := 5) 34 (v := undef) rfl rfl (by kernel_rfl) (by kernel_rfl) (by kernel_rfl) (fun _ _ _ h => h) (Or.inr ⟨by rfl, rfl⟩) hS ?_
    simp only [Act.put, lsA, lsZ, lsS]
    refine take_at (i := 6) 35 (v := undef) rfl rfl (by kernel_rfl) (by kernel_rfl) (by kernel_rfl) (fun _ _ _ h => h) (Or.inr ⟨by rfl, rfl⟩) hS ?_
    simp only [Act.put, lsA, lsZ, lsS]
    refine take_at (i := 7) 36 (v := undef) rfl rfl (by kernel_rfl) (by kernel_rfl) (by kernel_rfl) (fun _ _ _ h => h) (Or.inr ⟨by rfl, rfl⟩) hS ?_
    simp only [Act.put, lsA, lsZ, lsS]
    refine take_at (i := 8) 37 (v := undef) rfl rfl (by kernel_rfl) (by kernel_rfl) (by kernel_rfl) (fun _ _ _ h => h) (Or.inr ⟨by rfl, rfl⟩) hS ?_
    simp only [Act.put, lsA, lsZ, lsS]
    refine take_at (i := 9) 38 (v := undef) rfl rfl (by kernel_rfl) (by kernel_rfl) (by kernel_rfl) (fun _ _ _ h => h) (Or.inr ⟨by rfl, rfl⟩) hS ?_
    simp only [Act.put, lsA, lsZ, lsS]
    refine take_at (i := 10) 39 (v := undef) rfl rfl (by kernel_rfl) (by kernel_rfl) (by kernel_rfl) (fun _ _ _ h => h) (Or.inr ⟨by rfl, rfl⟩) hS ?_
    simp only [Act.put, lsA, lsZ, lsS]
    refine take_at (i := 11) 40 (v := undef) rfl rfl (by kernel_rfl) (by kernel_rfl) (by kernel_rfl) (fun _ _ _ h => h) (Or.inr ⟨by rfl, rfl⟩) hS ?_
    simp only [Act.put, lsA, lsZ, lsS]
    refine take_at (i := 12) 41 (v := .bool false) rfl rfl (by kernel_rfl) (by kernel_rfl) (by kernel_rfl) (fun _ _ _ h => h) (Or.inl ⟨by rfl, fun w' hw' => by go_simp⟩) hS ?_
    simp only [Act.put, lsA, lsZ, lsS]
    refine wpAnyH_done (by kernel_rfl) ?_ _
    have HS6 : Hid _ := hS
    have HC6 : Hid _ := HC1.out.off hS (fun h => h)
    obtain ⟨y0, y1, y2, y3, y4, y5, y6, y7, y8, y9⟩ := cel10 HC6.out
    obtain ⟨z0, z1⟩ := HD1.out _ hS
    clear hS
    go_wp2_with fail
    refine (covers_any f d.1 d.2 _).mono ?_
    rintro e w3 ⟨rfl, o3⟩
    have HO3 : Hid _ := (HO1.out.trans HS6.out (fun _ _ h => h)).trans o3 (fun _ _ h => h)
    clear y0 y1 y2 y3 y4 y5 y6 y7 y8 y9 z0 z1 o3
    cases hcv : coversB f d.1 d.2
    ·go_wp2_with fail
     go_ret
     exact ⟨by rw [HST2.out, hcv]; rfl, HO2.out.trans HO3.out (fun _ _ h => h)⟩
    ·go_wp2_with fail
     go_roundw
     case rel => exact ⟨n + 1, by go_num, by omega, by rw [← HM2.out, HST2.out, hcv, HPV.out]; rfl, HO3.out⟩
     case measure => simp [intOf]; omega
   ·have d3 : decide ((0 : Int) < (n : Int)) = true := decide_eq_true (by omega)
    have d4 : decide (0 < n) = true := decide_eq_true (by omega)
    have HST2 : Hid (mayD ⟨key, f, ds⟩ = (lessB u.1 u.2 d.1 d.2 && (coversB f d.1 d.2 && okD f (some d) (ds.drop (n + 1))))) := by show _ = _; rw [HM2.out, HST.out, hpv]; rfl
    have HP1 : Hid _ := hp1
    clear hpv hp1 HST
    refine wp_region_held_drew (S := Off (fun _ => False) V1) (by kernel_rfl) ((Off.refl _ V1).drew) (fun hS => ?_)
    cases hls : lessB u.1 u.2 d.1 d.2
    ·refine take_at (i := 0) 29 (v := .int .i64 (n : Int)) rfl rfl (by kernel_rfl) (by kernel_rfl) (by kernel_rfl) (fun _ _ _ h => h) (Or.inl ⟨by rfl, fun w' hw' => by go_simp⟩) hS ?_
     simp only [Act.put, lsA, lsZ, lsS]
     refine take_at (i := 1) 30 (v := .bool true) rfl rfl (by kernel_rfl) (by kernel_rfl) (by kernel_rfl) (fun _ _ _ h => h) (Or.inl ⟨by rfl, fun w' hw' => by go_simp⟩) hS ?_
     simp only [Act.put, lsA, lsZ, lsS]
     refine take_at (i := 2) 31 (v := .bool true) rfl rfl (by kernel_rfl) (by kernel_rfl) (by kernel_rfl) (fun _ _ _ h => h) (Or.inl ⟨by rfl, fun w' hw' => by go_simp⟩) hS ?_
     simp only [Act.put, lsA, lsZ, lsS]
     refine take_at (i := 3) 32 (v := .pointer (some ⟨q, 9, none⟩)) rfl rfl (by kernel_rfl) (by kernel_rfl) (by kernel_rfl) (fun _ _ _ h => h) (Or.inl ⟨by rfl, fun w' hw' => by go_simp⟩) hS ?_
     simp only [Act.put, lsA, lsZ, lsS]
     refine take_at (i := 4) 33 (v := .slice (some ⟨b, off, none⟩) ds.length cap) rfl rfl (by kernel_rfl) (by kernel_rfl) (by kernel_rfl) (fun _ _ _ h => h) (Or.inl ⟨by rfl, fun w' hw' => by obtain ⟨y0, y1, y2, y3, y4, y5, y6, y7, y8, y9⟩ := cel10 (HC1.out.off hw' (fun h => h)); go_simp⟩) hS ?_
     simp only [Act.put, lsA, lsZ, lsS]
     refine take_at (i := 5) 34 (v := .int .i64 (n : Int)) rfl rfl (by kernel_rfl) (by kernel_rfl) (by kernel_rfl) (fun _ _ _ h => h) (Or.inl ⟨by rfl, fun w' hw' => by go_simp⟩) hS ?_
     simp only [Act.put, lsA, lsZ, lsS]
     refine take_at (i := 6) 35 (v := .int .i64 (m : Int)) rfl rfl (by kernel_rfl) (by kernel_rfl) (by kernel_rfl) (fun _ _ _ h => h) (Or.inl ⟨by rfl, fun w' hw' => by go_simp; rw [IntKind.wrap_i64]; omega⟩) hS ?_
     simp only [Act.put, lsA, lsZ, lsS]
     refine take_at (i := 7) 36 (v := .pointer (some ⟨b, off + m * 2, none⟩)) rfl rfl (by kernel_rfl) (by kernel_rfl) (by kernel_rfl) (fun _ _ _ h => h) (Or.inl ⟨by rfl, fun w' hw' => exec_idx10 rfl (idx_dots hml cap b off w')⟩) hS ?_
     simp only [Act.put, lsA, lsZ, lsS]
     refine take_at (i := 8) 37 (v := .agg #[.int .i64 u.1, .int .i64 u.2]) rfl rfl (by kernel_rfl) (by kernel_rfl) (by kernel_rfl) (fun _ _ _ h => h) (Or.inl ⟨by rfl, fun w' hw' => by obtain ⟨z0, z1⟩ := HP1.out w' hw'; go_simp⟩) hS ?_
     simp only [Act.put, lsA, lsZ, lsS]
     refine take_at (i := 9) 38 (v := .agg #[.int .i64 d.1, .int .i64 d.2]) rfl rfl (by kernel_rfl) (by kernel_rfl) (by kernel_rfl) (fun _ _ _ h => h) (Or.inl ⟨by rfl, fun w' hw' => by obtain ⟨z0, z1⟩ := HD1.out w' hw'; go_simp⟩) hS ?_
     simp only [Act.put, lsA, lsZ, lsS]
     refine wpAnyH_ready (rs := [10]) (by kernel_rfl) (by simp) ?_
     refine AllReadyH.cons rfl (fun K' hK' => ?_) AllReadyH.nil
     go_simp
     refine (less_any u.1 u.2 d.1 d.2 _).mono ?_
     rintro e v ⟨rfl, o1⟩
     rw [hls]
     have hS1 := hS.trans o1 (fun _ _ h => h)
     refine hK'.out _ _ hS1 (fun hS => ?_)
     clear hK' K' hS1
     refine take_at (i := 11) 40 (v := .bool true) rfl rfl (by kernel_rfl) (by kernel_rfl) (by kernel_rfl) (fun _ _ _ h => h) (Or.inl ⟨by rfl, fun w' hw' => by go_simp⟩) hS ?_
     simp only [Act.put, lsA, lsZ, lsS]
     refine take_at (i := 12) 41 (v := .bool true) rfl rfl (by kernel_rfl) (by kernel_rfl) (by kernel_rfl) (fun _ _ _ h => h) (Or.inl ⟨by rfl, fun w' hw' => by go_simp⟩) hS ?_
     simp only [Act.put, lsA, lsZ, lsS]
     refine wpAnyH_done (by kernel_rfl) ?_ _
     go_wp2_with fail
     go_ret
     exact ⟨by rw [HST2.out, hls]; rfl, HO2.out.trans (HO1.out.trans hS (fun _ _ h => h)) (fun _ _ h => h)⟩
    ·refine take_at (i := 0) 29 (v := .int .i64 (n : Int)) rfl rfl (by kernel_rfl) (by kernel_rfl) (by kernel_rfl) (fun _ _ _ h => h) (Or.inl ⟨by rfl, fun w' hw' => by go_simp⟩) hS ?_
     simp only [Act.put, lsA, lsZ, lsS]
     refine take_at (i := 1) 30 (v := .bool true) rfl rfl (by kernel_rfl) (by kernel_rfl) (by kernel_rfl) (fun _ _ _ h => h) (Or.inl ⟨by rfl, fun w' hw' => by go_simp⟩) hS ?_
     simp only [Act.put, lsA, lsZ, lsS]
     refine take_at (i := 2) 31 (v := .bool true) rfl rfl (by kernel_rfl) (by kernel_rfl) (by kernel_rfl) (fun _ _ _ h => h) (Or.inl ⟨by rfl, fun w' hw' => by go_simp⟩) hS ?_
     simp only [Act.put, lsA, lsZ, lsS]
     refine take_at (i := 3) 32 (v := .pointer (some ⟨q, 9, none⟩)) rfl rfl (by kernel_rfl) (by kernel_rfl) (by kernel_rfl) (fun _ _ _ h => h) (Or.inl ⟨by rfl, fun w' hw' => by go_simp⟩) hS ?_
     simp only [Act.put, lsA, lsZ, lsS]
     refine take_at (i := 4) 33 (v := .slice (some ⟨b, off, none⟩) ds.length cap) rfl rfl (by kernel_rfl) (by kernel_rfl) (by kernel_rfl) (fun _ _ _ h => h) (Or.inl ⟨by rfl, fun w' hw' => by obtain ⟨y0, y1, y2, y3, y4, y5, y6, y7, y8, y9⟩ := cel10 (HC1.out.off hw' (fun h => h)); go_simp⟩) hS ?_
     simp only [Act.put, lsA, lsZ, lsS]
     refine take_at (i := 5) 34 (v := .int .i64 (n : Int)) rfl rfl (by kernel_rfl) (by kernel_rfl) (by kernel_rfl) (fun _ _ _ h => h) (Or.inl ⟨by rfl, fun w' hw' => by go_simp⟩) hS ?_
     simp only [Act.put, lsA, lsZ, lsS]
     refine take_at (i := 6) 35 (v := .int .i64 (m : Int)) rfl rfl (by kernel_rfl) (by kernel_rfl) (by kernel_rfl) (fun _ _ _ h => h) (Or.inl ⟨by rfl, fun w' hw' => by go_simp; rw [IntKind.wrap_i64]; omega⟩) hS ?_
     simp only [Act.put, lsA, lsZ, lsS]
     refine take_at (i := 7) 36 (v := .pointer (some ⟨b, off + m * 2, none⟩)) rfl rfl (by kernel_rfl) (by kernel_rfl) (by kernel_rfl) (fun _ _ _ h => h) (Or.inl ⟨by rfl, fun w' hw' => exec_idx10 rfl (idx_dots hml cap b off w')⟩) hS ?_
     simp only [Act.put, lsA, lsZ, lsS]
     refine take_at (i := 8) 37 (v := .agg #[.int .i64 u.1, .int .i64 u.2]) rfl rfl (by kernel_rfl) (by kernel_rfl) (by kernel_rfl) (fun _ _ _ h => h) (Or.inl ⟨by rfl, fun w' hw' => by obtain ⟨z0, z1⟩ := HP1.out w' hw'; go_simp⟩) hS ?_
     simp only [Act.put, lsA, lsZ, lsS]
     refine take_at (i := 9) 38 (v := .agg #[.int .i64 d.1, .int .i64 d.2]) rfl rfl (by kernel_rfl) (by kernel_rfl) (by kernel_rfl) (fun _ _ _ h => h) (Or.inl ⟨by rfl, fun w' hw' => by obtain ⟨z0, z1⟩ := HD1.out w' hw'; go_simp⟩) hS ?_
     simp only [Act.put, lsA, lsZ, lsS]
     refine wpAnyH_ready (rs := [10]) (by kernel_rfl) (by simp) ?_
     refine AllReadyH.cons rfl (fun K' hK' => ?_) AllReadyH.nil
     go_simp
     refine (less_any u.1 u.2 d.1 d.2 _).mono ?_
     rintro e v ⟨rfl, o1⟩
     rw [hls]
     have hS1 := hS.trans o1 (fun _ _ h => h)
     refine hK'.out _ _ hS1 (fun hS => ?_)
     clear hK' K' hS1
     refine take_at (i := 11) 40 (v := .bool false) rfl rfl (by kernel_rfl) (by kernel_rfl) (by kernel_rfl) (fun _ _ _ h => h) (Or.inl ⟨by rfl, fun w' hw' => by go_simp⟩) hS ?_
     simp only [Act.put, lsA, lsZ, lsS]
     refine take_at (i := 12) 41 (v := .bool false) rfl rfl (by kernel_rfl) (by kernel_rfl) (by kernel_rfl) (fun _ _ _ h => h) (Or.inl ⟨by rfl, fun w' hw' => by go_simp⟩) hS ?_
     simp only [Act.put, lsA, lsZ, lsS]
     refine wpAnyH_done (by kernel_rfl) ?_ _
     have HS6 : Hid _ := hS
     have HC6 : Hid _ := HC1.out.off hS (fun h => h)
     obtain ⟨y0, y1, y2, y3, y4, y5, y6, y7, y8, y9⟩ := cel10 HC6.out
     obtain ⟨z0, z1⟩ := HD1.out _ hS
     clear hS
     go_wp2_with fail
     refine (covers_any f d.1 d.2 _).mono ?_
     rintro e w3 ⟨rfl, o3⟩
     have HO3 : Hid _ := (HO1.out.trans HS6.out (fun _ _ h => h)).trans o3 (fun _ _ h => h)
     clear y0 y1 y2 y3 y4 y5 y6 y7 y8 y9 z0 z1 o3
     cases hcv : coversB f d.1 d.2
     ·go_wp2_with fail
      go_ret
      exact ⟨by rw [HST2.out, hls, hcv]; simp, HO2.out.trans HO3.out (fun _ _ h => h)⟩
     ·go_wp2_with fail
      go_roundw
      case rel => exact ⟨n + 1, by go_num, by omega, by rw [← HM2.out, HST2.out, hls, hcv, HPV.out]; rfl, HO3.out⟩
      case measure => simp [intOf]; omega
  ·obtain rfl : n = ds.length := by omega
   have e1 : decide ((ds.length : Int) < (ds.length : Int)) = false := decide_eq_false (by omega)
   have e2 : decide (ds.length < ds.length) = false := decide_eq_false (by omega)
   have HE : Hid (mayD ⟨key, f, ds⟩ = true) := by
    show _ = _
    rw [HM2.out, HOK.out, List.drop_length]
    cases prv ds ds.length <;> rfl
   go_wp2_with fail
   go_ret
   exact ⟨by rw [HE.out]; rfl, HO2.out.trans HO.out (fun _ _ h => h)⟩
set_option maxRecDepth 100000 in
set_option maxHeartbeats 4000000 in
theorem gmayd_any (key : ByteArray) (f : Nat → Int) (a : Option Addr) (cap : Nat) (ds : List (Int × Int)) (w : World) (hr : RowD w a cap ds) :
  Calls Tryz.prog 38 #[.agg #[.string key, .int .i64 (f 0), .int .i64 (f 1), .int .i64 (f 2), .int .i64 (f 3), .int .i64 (f 4), .int .i64 (f 5), .int .i64 (f 6), .int .i64 (f 7), .slice a ds.length cap]] w fun e w' => e = .returned (.bool (mayD ⟨key, f, ds⟩)) ∧ Off (fun _ => False) w w' := by
 have C0 := Cel.new w 49 #[.string key, .int .i64 (f 0), .int .i64 (f 1), .int .i64 (f 2), .int .i64 (f 3), .int .i64 (f 4), .int .i64 (f 5), .int .i64 (f 6), .int .i64 (f 7), .slice a ds.length cap]
 have O0 : Off (fun _ => False) w (w.alloc (.cells #[.string key, .int .i64 (f 0), .int .i64 (f 1), .int .i64 (f 2), .int .i64 (f 3), .int .i64 (f 4), .int .i64 (f 5), .int .i64 (f 6), .int .i64 (f 7), .slice a ds.length cap] 49)) := (Off.refl _ w).alloc _
 have hnot := not_any
 go_enter Tryz.func38, Tryz.ntmps38
 go_upto_region 1 with fail
 generalize hq : w.heap.size = q at C0 ⊢
 generalize hv : w.alloc (.cells #[.string key, .int .i64 (f 0), .int .i64 (f 1), .int .i64 (f 2), .int .i64 (f 3), .int .i64 (f 4), .int .i64 (f 5), .int .i64 (f 6), .int .i64 (f 7), .slice a ds.length cap] 49) = W at C0 O0 ⊢
 clear hq hv
 have HR : Hid _ := hr.off O0
 have HC0 : Hid _ := C0
 have HO0 : Hid _ := O0
 obtain ⟨y0, y1, y2, y3, y4, y5, y6, y7, y8, y9⟩ := cel10 C0
 clear C0 O0 hr
 have HM : Hid (mayD ⟨key, f, ds⟩ = (keyB key && (mayB f && (decide (ds.length ≤ 16) && okD f none ds)))) := show _ = _ from rfl
 go_wp2_with fail
 refine (maykey_any key _).mono ?_
 rintro e w1 ⟨rfl, hw1⟩
 rw [hw1]
 clear hw1 w1
 cases hk : keyB key
 ·go_wp2_with fail
  go_ret
  exact ⟨by rw [HM.out, hk]; rfl, HO0.out⟩
 go_wp2_with fail
 refine (fmay_any f _).mono ?_
 rintro e w2 ⟨rfl, o2⟩
 clear y0 y1 y2 y3 y4 y5 y6 y7 y8 y9
 have C2 := HC0.out.off o2 (fun h => h)
 have HC2 : Hid _ := C2
 have HO2 : Hid _ := HO0.out.trans o2 (fun _ _ h => h)
 have HR2 : Hid _ := HR.out.off o2
 obtain ⟨y0, y1, y2, y3, y4, y5, y6, y7, y8, y9⟩ := cel10 C2
 clear C2 o2 HC0 HO0 HR
 cases hm : mayB f
 ·go_wp2_with fail
  go_ret
  exact ⟨by rw [HM.out, hk, hm]; rfl, HO2.out⟩
 by_cases hlen : ds.length ≤ 16
 case neg =>
  have d1 : decide ((16 : Int) < (ds.length : Int)) = true := decide_eq_true (by omega)
  have d2 : decide (16 < ds.length) = true := decide_eq_true (by omega)
  go_wp2_with fail
  go_ret
  exact ⟨by rw [HM.out, hk, hm, decide_eq_false hlen]; rfl, HO2.out⟩
 have d1 : decide ((16 : Int) < (ds.length : Int)) = false := decide_eq_false (by omega)
 have d2 : decide (16 < ds.length) = false := decide_eq_false (by omega)
 have HM2 : Hid (mayD ⟨key, f, ds⟩ = okD f none ds) := by show _ = _; rw [HM.out, hk, hm, decide_eq_true hlen]; rfl
 clear HM hk hm
 go_wp2_with fail
 clear y0 y1 y2 y3 y4 y5 y6 y7 y8 y9
 go_loopw [24] (fun y wr => ∃ n : Nat, y = .int .i64 (n : Int) ∧ n ≤ ds.length ∧ okD f none ds = okD f (prv ds n) (ds.drop n) ∧ Off (fun _ => False) w2 wr) (fun y _ => (ds.length - intOf y).toNat)
 case atStart => exact ⟨0, rfl, by omega, rfl, Off.refl _ _⟩
 case round =>
  obtain ⟨n, rfl, hn, hok, O⟩ := hrel
  have HO : Hid _ := O
  have HOK : Hid _ := hok
  clear O hok
  by_cases hlt : n < ds.length
  ·have e1 : decide ((n : Int) < (ds.length : Int)) = true := decide_eq_true (by omega)
   have e2 : decide (n < ds.length) = true := decide_eq_true hlt
   obtain ⟨d, hd⟩ : ∃ d, ds[n]? = some d := ⟨_, List.getElem?_eq_getElem hlt⟩
   obtain ⟨b, off, rfl, k0, k1⟩ := (HR2.out.off HO.out).at_ n d hd
   have HST : Hid (okD f none ds = okD f (prv ds n) (d :: ds.drop (n + 1))) := by show _ = _; rw [HOK.out, okD_step hd]
   have HPV : Hid (prv ds (n + 1) = some d) := hd
   have hix := idx_dots hlt
   clear hd HOK
   have CD := Cel.new wr 93 #[.int .i64 d.1, .int .i64 d.2]
   have OD : Off (fun _ => False) wr (wr.alloc (.cells #[.int .i64 d.1, .int .i64 d.2] 93)) := (Off.refl _ wr).alloc _
   go_upto_region 6 with fail
   generalize hqd : wr.heap.size = qd at CD ⊢
   generalize hvd : wr.alloc (.cells #[.int .i64 d.1, .int .i64 d.2] 93) = V1 at CD OD ⊢
   clear hqd hvd k0 k1 hix
   have HD1 : Hid (∀ w', Off (fun _ => False) V1 w' → w'.cell? ⟨qd, 0, none⟩ = some (.int .i64 d.1) ∧ w'.cell? ⟨qd, 1, none⟩ = some (.int .i64 d.2)) := fun w' hw' => ⟨(CD.off hw' (fun h => h)).cell 0, (CD.off hw' (fun h => h)).cell 1⟩
   have HO1 : Hid _ := HO.out.trans OD (fun _ _ h => h)
   have HC1 : Hid _ := HC2.out.off HO1.out (fun h => h)
   have HR1 : Hid _ := HR2.out.off HO1.out
   clear CD OD
   have PRE : n = 0 ∨ ∃ m u, n = m + 1 ∧ m < ds.length ∧ prv ds n = some u ∧ ∀ w', Off (fun _ => False) V1 w' → w'.cell? ⟨b, off + m * 2, none⟩ = some (.int .i64 u.1) ∧ w'.cell? ⟨b, off + m * 2 + 1, none⟩ = some (.int .i64 u.2) := by
    rcases n with _ | m
    ·exact .inl rfl
    ·obtain ⟨u, hu⟩ : ∃ u, ds[m]? = some u := ⟨_, List.getElem?_eq_getElem (by omega)⟩
     refine .inr ⟨m, u, rfl, by omega, hu, fun w' hw' => ?_⟩
     obtain ⟨b', off', e', k0, k1⟩ := (HR1.out.off hw').at_ m u hu
     simp only [Option.some.injEq, Addr.mk.injEq, and_true] at e'
     obtain ⟨rfl, rfl⟩ := e'
     exact ⟨k0, k1⟩
   rcases PRE with hz | ⟨m, u, hm, hml, hpv, hp1⟩
   ·have d3 : decide ((0 : Int) < (n : Int)) = false := decide_eq_false (by omega)
    have d4 : decide (0 < n) = false := decide_eq_false (by omega)
    have HST2 : Hid (mayD ⟨key, f, ds⟩ = (coversB f d.1 d.2 && okD f (some d) (ds.drop (n + 1)))) := by show _ = _; rw [HM2.out, HST.out, hz]; rfl
    have HZ : Hid _ := hz
    clear hz HST
    refine wp_region_held_drew (S := Off (fun _ => False) V1) (by kernel_rfl) ((Off.refl _ V1).drew) (fun hS => ?_)
    cases hcv : coversB f d.1 d.2
    ·refine take_at (i := 0) 29 (v := .pointer (some ⟨q, 1, none⟩)) rfl rfl (by kernel_rfl) (by kernel_rfl) (by kernel_rfl) (fun _ _ _ h => h) (Or.inl ⟨by rfl, fun w' hw' => by go_simp⟩) hS ?_
     simp only [Act.put, lsA, lsZ, lsS]
     refine take_at (i := 1) 30 (v := .agg #[.int .i64 (f 0), .int .i64 (f 1), .int .i64 (f 2), .int .i64 (f 3), .int .i64 (f 4), .int .i64 (f 5), .int .i64 (f 6), .int .i64 (f 7)]) rfl rfl (by kernel_rfl) (by kernel_rfl) (by kernel_rfl) (fun _ _ _ h => h) (Or.inl ⟨by rfl, fun w' hw' => by obtain ⟨y0, y1, y2, y3, y4, y5, y6, y7, y8, y9⟩ := cel10 (HC1.out.off hw' (fun h => h)); go_simp⟩) hS ?_
     simp only [Act.put, lsA, lsZ, lsS]
     refine take_at (i := 2) 31 (v := .agg #[.int .i64 d.1, .int .i64 d.2]) rfl rfl (by kernel_rfl) (by kernel_rfl) (by kernel_rfl) (fun _ _ _ h => h) (Or.inl ⟨by rfl, fun w' hw' => by obtain ⟨z0, z1⟩ := HD1.out w' hw'; go_simp⟩) hS ?_
     simp only [Act.put, lsA, lsZ, lsS]
     refine wpAnyH_ready (rs := [3]) (by kernel_rfl) (by simp) ?_
     refine AllReadyH.cons rfl (fun K' hK' => ?_) AllReadyH.nil
     go_simp
     refine (fcovers_any f d.1 d.2 _).mono ?_
     rintro e v ⟨rfl, o1⟩
     rw [hcv]
     have hS1 := hS.trans o1 (fun _ _ h => h)
     refine hK'.out _ _ hS1 (fun hS => ?_)
     clear hK' K' hS1
     refine take_at (i := 4) 33 (v := .bool true) rfl rfl (by kernel_rfl) (by kernel_rfl) (by kernel_rfl) (fun _ _ _ h => h) (Or.inl ⟨by rfl, fun w' hw' => by go_simp⟩) hS ?_
     simp only [Act.put, lsA, lsZ, lsS]
     refine take_at (i := 5) 34 (v := .bool true) rfl rfl (by kernel_rfl) (by kernel_rfl) (by kernel_rfl) (fun _ _ _ h => h) (Or.inl ⟨by rfl, fun w' hw' => by go_simp⟩) hS ?_
     simp only [Act.put, lsA, lsZ, lsS]
     refine take_at (i := 6) 35 (v := undef) rfl rfl (by kernel_rfl) (by kernel_rfl) (by kernel_rfl) (fun _ _ _ h => h) (Or.inr ⟨by rfl, rfl⟩) hS ?_
     simp only [Act.put, lsA, lsZ, lsS]
     refine take_at (i := 7) 36 (v := undef) rfl rfl (by kernel_rfl) (by kernel_rfl) (by kernel_rfl) (fun _ _ _ h => h) (Or.inr ⟨by rfl, rfl⟩) hS ?_
     simp only [Act.put, lsA, lsZ, lsS]
     refine take_at (i := 8) 37 (v := undef) rfl rfl (by kernel_rfl) (by kernel_rfl) (by kernel_rfl) (fun _ _ _ h => h) (Or.inr ⟨by rfl, rfl⟩) hS ?_
     simp only [Act.put, lsA, lsZ, lsS]
     refine take_at (i := 9) 38 (v := undef) rfl rfl (by kernel_rfl) (by kernel_rfl) (by kernel_rfl) (fun _ _ _ h => h) (Or.inr ⟨by rfl, rfl⟩) hS ?_
     simp only [Act.put, lsA, lsZ, lsS]
     refine take_at (i := 10) 39 (v := undef) rfl rfl (by kernel_rfl) (by kernel_rfl) (by kernel_rfl) (fun _ _ _ h => h) (Or.inr ⟨by rfl, rfl⟩) hS ?_
     simp only [Act.put, lsA, lsZ, lsS]
     refine take_at (i := 11) 40 (v := undef) rfl rfl (by kernel_rfl) (by kernel_rfl) (by kernel_rfl) (fun _ _ _ h => h) (Or.inr ⟨by rfl, rfl⟩) hS ?_
     simp only [Act.put, lsA, lsZ, lsS]
     refine take_at (i := 12) 41 (v := undef) rfl rfl (by kernel_rfl) (by kernel_rfl) (by kernel_rfl) (fun _ _ _ h => h) (Or.inr ⟨by rfl, rfl⟩) hS ?_
     simp only [Act.put, lsA, lsZ, lsS]
     refine take_at (i := 13) 42 (v := undef) rfl rfl (by kernel_rfl) (by kernel_rfl) (by kernel_rfl) (fun _ _ _ h => h) (Or.inr ⟨by rfl, rfl⟩) hS ?_
     simp only [Act.put, lsA, lsZ, lsS]
     refine take_at (i := 14) 43 (v := undef) rfl rfl (by kernel_rfl) (by kernel_rfl) (by kernel_rfl) (fun _ _ _ h => h) (Or.inr ⟨by rfl, rfl⟩) hS ?_
     simp only [Act.put, lsA, lsZ, lsS]
     refine take_at (i := 15) 44 (v := undef) rfl rfl (by kernel_rfl) (by kernel_rfl) (by kernel_rfl) (fun _ _ _ h => h) (Or.inr ⟨by rfl, rfl⟩) hS ?_
     simp only [Act.put, lsA, lsZ, lsS]
     refine take_at (i := 16) 45 (v := undef) rfl rfl (by kernel_rfl) (by kernel_rfl) (by kernel_rfl) (fun _ _ _ h => h) (Or.inr ⟨by rfl, rfl⟩) hS ?_
     simp only [Act.put, lsA, lsZ, lsS]
     refine take_at (i := 17) 46 (v := undef) rfl rfl (by kernel_rfl) (by kernel_rfl) (by kernel_rfl) (fun _ _ _ h => h) (Or.inr ⟨by rfl, rfl⟩) hS ?_
     simp only [Act.put, lsA, lsZ, lsS]
     refine take_at (i := 18) 47 (v := undef) rfl rfl (by kernel_rfl) (by kernel_rfl) (by kernel_rfl) (fun _ _ _ h => h) (Or.inr ⟨by rfl, rfl⟩) hS ?_
     simp only [Act.put, lsA, lsZ, lsS]
     refine take_at (i := 19) 48 (v := .bool true) rfl rfl (by kernel_rfl) (by kernel_rfl) (by kernel_rfl) (fun _ _ _ h => h) (Or.inl ⟨by rfl, fun w' hw' => by go_simp⟩) hS ?_
     simp only [Act.put, lsA, lsZ, lsS]
     refine wpAnyH_done (by kernel_rfl) ?_ _
     go_wp2_with fail
     go_ret
     exact ⟨by rw [HST2.out, hcv]; rfl, HO2.out.trans (HO1.out.trans hS (fun _ _ h => h)) (fun _ _ h => h)⟩
    ·refine take_at (i := 0) 29 (v := .pointer (some ⟨q, 1, none⟩)) rfl rfl (by kernel_rfl) (by kernel_rfl) (by kernel_rfl) (fun _ _ _ h => h) (Or.inl ⟨by rfl, fun w' hw' => by go_simp⟩) hS ?_
     simp only [Act.put, lsA, lsZ, lsS]
     refine take_at (i := 1) 30 (v := .agg #[.int .i64 (f 0), .int .i64 (f 1), .int .i64 (f 2), .int .i64 (f 3), .int .i64 (f 4), .int .i64 (f 5), .int .i64 (f 6), .int .i64 (f 7)]) rfl rfl (by kernel_rfl) (by kernel_rfl) (by kernel_rfl) (fun _ _ _ h => h) (Or.inl ⟨by rfl, fun w' hw' => by obtain ⟨y0, y1, y2, y3, y4, y5, y6, y7, y8, y9⟩ := cel10 (HC1.out.off hw' (fun h => h)); go_simp⟩) hS ?_
     simp only [Act.put, lsA, lsZ, lsS]
     refine take_at (i := 2) 31 (v := .agg #[.int .i64 d.1, .int .i64 d.2]) rfl rfl (by kernel_rfl) (by kernel_rfl) (by kernel_rfl) (fun _ _ _ h => h) (Or.inl ⟨by rfl, fun w' hw' => by obtain ⟨z0, z1⟩ := HD1.out w' hw'; go_simp⟩) hS ?_
     simp only [Act.put, lsA, lsZ, lsS]
     refine wpAnyH_ready (rs := [3]) (by kernel_rfl) (by simp) ?_
     refine AllReadyH.cons rfl (fun K' hK' => ?_) AllReadyH.nil
     go_simp
     refine (fcovers_any f d.1 d.2 _).mono ?_
     rintro e v ⟨rfl, o1⟩
     rw [hcv]
     have hS1 := hS.trans o1 (fun _ _ h => h)
     refine hK'.out _ _ hS1 (fun hS => ?_)
     clear hK' K' hS1
     refine take_at (i := 4) 33 (v := .bool false) rfl rfl (by kernel_rfl) (by kernel_rfl) (by kernel_rfl) (fun _ _ _ h => h) (Or.inl ⟨by rfl, fun w' hw' => by go_simp⟩) hS ?_
     simp only [Act.put, lsA, lsZ, lsS]
     refine take_at (i := 5) 34 (v := .bool false) rfl rfl (by kernel_rfl) (by kernel_rfl) (by kernel_rfl) (fun _ _ _ h => h) (Or.inl ⟨by rfl, fun w' hw' => by go_simp⟩) hS ?_
     simp only [Act.put, lsA, lsZ, lsS]
     refine take_at (i := 6) 35 (v := .int .i64 (n : Int)) rfl rfl (by kernel_rfl) (by kernel_rfl) (by kernel_rfl) (fun _ _ _ h => h) (Or.inl ⟨by rfl, fun w' hw' => by go_simp⟩) hS ?_
     simp only [Act.put, lsA, lsZ, lsS]
     refine take_at (i := 7) 36 (v := .bool false) rfl rfl (by kernel_rfl) (by kernel_rfl) (by kernel_rfl) (fun _ _ _ h => h) (Or.inl ⟨by rfl, fun w' hw' => by go_simp⟩) hS ?_
     simp only [Act.put, lsA, lsZ, lsS]
     refine take_at (i := 8) 37 (v := .bool false) rfl rfl (by kernel_rfl) (by kernel_rfl) (by kernel_rfl) (fun _ _ _ h => h) (Or.inl ⟨by rfl, fun w' hw' => by go_simp⟩) hS ?_
     simp only [Act.put, lsA, lsZ, lsS]
     refine take_at (i := 9) 38 (v := undef) rfl rfl (by kernel_rfl) (by kernel_rfl) (by kernel_rfl) (fun _ _ _ h => h) (Or.inr ⟨by rfl, rfl⟩) hS ?_
     simp only [Act.put, lsA, lsZ, lsS]
     refine take_at (i := 10) 39 (v := undef) rfl rfl (by kernel_rfl) (by kernel_rfl) (by kernel_rfl) (fun _ _ _ h => h) (Or.inr ⟨by rfl, rfl⟩) hS ?_
     simp only [Act.put, lsA, lsZ, lsS]
     refine take_at (i := 11) 40 (v := undef) rfl rfl (by kernel_rfl) (by kernel_rfl) (by kernel_rfl) (fun _ _ _ h => h) (Or.inr ⟨by rfl, rfl⟩) hS ?_
     simp only [Act.put, lsA, lsZ, lsS]
     refine take_at (i := 12) 41 (v := undef) rfl rfl (by kernel_rfl) (by kernel_rfl) (by kernel_rfl) (fun _ _ _ h => h) (Or.inr ⟨by rfl, rfl⟩) hS ?_
     simp only [Act.put, lsA, lsZ, lsS]
     refine take_at (i := 13) 42 (v := undef) rfl rfl (by kernel_rfl) (by kernel_rfl) (by kernel_rfl) (fun _ _ _ h => h) (Or.inr ⟨by rfl, rfl⟩) hS ?_
     simp only [Act.put, lsA, lsZ, lsS]
     refine take_at (i := 14) 43 (v := undef) rfl rfl (by kernel_rfl) (by kernel_rfl) (by kernel_rfl) (fun _ _ _ h => h) (Or.inr ⟨by rfl, rfl⟩) hS ?_
     simp only [Act.put, lsA, lsZ, lsS]
     refine take_at (i := 15) 44 (v := undef) rfl rfl (by kernel_rfl) (by kernel_rfl) (by kernel_rfl) (fun _ _ _ h => h) (Or.inr ⟨by rfl, rfl⟩) hS ?_
     simp only [Act.put, lsA, lsZ, lsS]
     refine take_at (i := 16) 45 (v := undef) rfl rfl (by kernel_rfl) (by kernel_rfl) (by kernel_rfl) (fun _ _ _ h => h) (Or.inr ⟨by rfl, rfl⟩) hS ?_
     simp only [Act.put, lsA, lsZ, lsS]
     refine take_at (i := 17) 46 (v := undef) rfl rfl (by kernel_rfl) (by kernel_rfl) (by kernel_rfl) (fun _ _ _ h => h) (Or.inr ⟨by rfl, rfl⟩) hS ?_
     simp only [Act.put, lsA, lsZ, lsS]
     refine take_at (i := 18) 47 (v := .bool false) rfl rfl (by kernel_rfl) (by kernel_rfl) (by kernel_rfl) (fun _ _ _ h => h) (Or.inl ⟨by rfl, fun w' hw' => by go_simp⟩) hS ?_
     simp only [Act.put, lsA, lsZ, lsS]
     refine take_at (i := 19) 48 (v := .bool false) rfl rfl (by kernel_rfl) (by kernel_rfl) (by kernel_rfl) (fun _ _ _ h => h) (Or.inl ⟨by rfl, fun w' hw' => by go_simp⟩) hS ?_
     simp only [Act.put, lsA, lsZ, lsS]
     refine wpAnyH_done (by kernel_rfl) ?_ _
     go_wp2_with fail
     go_roundw
     case rel => exact ⟨n + 1, by go_num, by omega, by rw [← HM2.out, HST2.out, hcv, HPV.out]; rfl, HO1.out.trans hS (fun _ _ h => h)⟩
     case measure => simp [intOf]; omega
   ·have d3 : decide ((0 : Int) < (n : Int)) = true := decide_eq_true (by omega)
    have d4 : decide (0 < n) = true := decide_eq_true (by omega)
    have HST2 : Hid (mayD ⟨key, f, ds⟩ = (lessB u.1 u.2 d.1 d.2 && (coversB f d.1 d.2 && okD f (some d) (ds.drop (n + 1))))) := by show _ = _; rw [HM2.out, HST.out, hpv]; rfl
    have HP1 : Hid _ := hp1
    clear hpv hp1 HST
    refine wp_region_held_drew (S := Off (fun _ => False) V1) (by kernel_rfl) ((Off.refl _ V1).drew) (fun hS => ?_)
    cases hcv : coversB f d.1 d.2
    ·refine take_at (i := 0) 29 (v := .pointer (some ⟨q, 1, none⟩)) rfl rfl (by kernel_rfl) (by kernel_rfl) (by kernel_rfl) (fun _ _ _ h => h) (Or.inl ⟨by rfl, fun w' hw' => by go_simp⟩) hS ?_
     simp only [Act.put, lsA, lsZ, lsS]
     refine take_at (i := 1) 30 (v := .agg #[.int .i64 (f 0), .int .i64 (f 1), .int .i64 (f 2), .int .i64 (f 3), .int .i64 (f 4), .int .i64 (f 5), .int .i64 (f 6), .int .i64 (f 7)]) rfl rfl (by kernel_rfl) (by kernel_rfl) (by kernel_rfl) (fun _ _ _ h => h) (Or.inl ⟨by rfl, fun w' hw' => by obtain ⟨y0, y1, y2, y3, y4, y5, y6, y7, y8, y9⟩ := cel10 (HC1.out.off hw' (fun h => h)); go_simp⟩) hS ?_
     simp only [Act.put, lsA, lsZ, lsS]
     refine take_at (i := 2) 31 (v := .agg #[.int .i64 d.1, .int .i64 d.2]) rfl rfl (by kernel_rfl) (by kernel_rfl) (by kernel_rfl) (fun _ _ _ h => h) (Or.inl ⟨by rfl, fun w' hw' => by obtain ⟨z0, z1⟩ := HD1.out w' hw'; go_simp⟩) hS ?_
     simp only [Act.put, lsA, lsZ, lsS]
     refine wpAnyH_ready (rs := [3]) (by kernel_rfl) (by simp) ?_
     refine AllReadyH.cons rfl (fun K' hK' => ?_) AllReadyH.nil
     go_simp
     refine (fcovers_any f d.1 d.2 _).mono ?_
     rintro e v ⟨rfl, o1⟩
     rw [hcv]
     have hS1 := hS.trans o1 (fun _ _ h => h)
     refine hK'.out _ _ hS1 (fun hS => ?_)
     clear hK' K' hS1
     refine take_at (i := 4) 33 (v := .bool true) rfl rfl (by kernel_rfl) (by kernel_rfl) (by kernel_rfl) (fun _ _ _ h => h) (Or.inl ⟨by rfl, fun w' hw' => by go_simp⟩) hS ?_
     simp only [Act.put, lsA, lsZ, lsS]
     refine take_at (i := 5) 34 (v := .bool true) rfl rfl (by kernel_rfl) (by kernel_rfl) (by kernel_rfl) (fun _ _ _ h => h) (Or.inl ⟨by rfl, fun w' hw' => by go_simp⟩) hS ?_
     simp only [Act.put, lsA, lsZ, lsS]
     refine take_at (i := 6) 35 (v := undef) rfl rfl (by kernel_rfl) (by kernel_rfl) (by kernel_rfl) (fun _ _ _ h => h) (Or.inr ⟨by rfl, rfl⟩) hS ?_
     simp only [Act.put, lsA, lsZ, lsS]
     refine take_at (i := 7) 36 (v := undef) rfl rfl (by kernel_rfl) (by kernel_rfl) (by kernel_rfl) (fun _ _ _ h => h) (Or.inr ⟨by rfl, rfl⟩) hS ?_
     simp only [Act.put, lsA, lsZ, lsS]
     refine take_at (i := 8) 37 (v := undef) rfl rfl (by kernel_rfl) (by kernel_rfl) (by kernel_rfl) (fun _ _ _ h => h) (Or.inr ⟨by rfl, rfl⟩) hS ?_
     simp only [Act.put, lsA, lsZ, lsS]
     refine take_at (i := 9) 38 (v := undef) rfl rfl (by kernel_rfl) (by kernel_rfl) (by kernel_rfl) (fun _ _ _ h => h) (Or.inr ⟨by rfl, rfl⟩) hS ?_
     simp only [Act.put, lsA, lsZ, lsS]
     refine take_at (i := 10) 39 (v := undef) rfl rfl (by kernel_rfl) (by kernel_rfl) (by kernel_rfl) (fun _ _ _ h => h) (Or.inr ⟨by rfl, rfl⟩) hS ?_
     simp only [Act.put, lsA, lsZ, lsS]
     refine take_at (i := 11) 40 (v := undef) rfl rfl (by kernel_rfl) (by kernel_rfl) (by kernel_rfl) (fun _ _ _ h => h) (Or.inr ⟨by rfl, rfl⟩) hS ?_
     simp only [Act.put, lsA, lsZ, lsS]
     refine take_at (i := 12) 41 (v := undef) rfl rfl (by kernel_rfl) (by kernel_rfl) (by kernel_rfl) (fun _ _ _ h => h) (Or.inr ⟨by rfl, rfl⟩) hS ?_
     simp only [Act.put, lsA, lsZ, lsS]
     refine take_at (i := 13) 42 (v := undef) rfl rfl (by kernel_rfl) (by kernel_rfl) (by kernel_rfl) (fun _ _ _ h => h) (Or.inr ⟨by rfl, rfl⟩) hS ?_
     simp only [Act.put, lsA, lsZ, lsS]
     refine take_at (i := 14) 43 (v := undef) rfl rfl (by kernel_rfl) (by kernel_rfl) (by kernel_rfl) (fun _ _ _ h => h) (Or.inr ⟨by rfl, rfl⟩) hS ?_
     simp only [Act.put, lsA, lsZ, lsS]
     refine take_at (i := 15) 44 (v := undef) rfl rfl (by kernel_rfl) (by kernel_rfl) (by kernel_rfl) (fun _ _ _ h => h) (Or.inr ⟨by rfl, rfl⟩) hS ?_
     simp only [Act.put, lsA, lsZ, lsS]
     refine take_at (i := 16) 45 (v := undef) rfl rfl (by kernel_rfl) (by kernel_rfl) (by kernel_rfl) (fun _ _ _ h => h) (Or.inr ⟨by rfl, rfl⟩) hS ?_
     simp only [Act.put, lsA, lsZ, lsS]
     refine take_at (i := 17) 46 (v := undef) rfl rfl (by kernel_rfl) (by kernel_rfl) (by kernel_rfl) (fun _ _ _ h => h) (Or.inr ⟨by rfl, rfl⟩) hS ?_
     simp only [Act.put, lsA, lsZ, lsS]
     refine take_at (i := 18) 47 (v := undef) rfl rfl (by kernel_rfl) (by kernel_rfl) (by kernel_rfl) (fun _ _ _ h => h) (Or.inr ⟨by rfl, rfl⟩) hS ?_
     simp only [Act.put, lsA, lsZ, lsS]
     refine take_at (i := 19) 48 (v := .bool true) rfl rfl (by kernel_rfl) (by kernel_rfl) (by kernel_rfl) (fun _ _ _ h => h) (Or.inl ⟨by rfl, fun w' hw' => by go_simp⟩) hS ?_
     simp only [Act.put, lsA, lsZ, lsS]
     refine wpAnyH_done (by kernel_rfl) ?_ _
     go_wp2_with fail
     go_ret
     exact ⟨by rw [HST2.out, hcv]; simp, HO2.out.trans (HO1.out.trans hS (fun _ _ h => h)) (fun _ _ h => h)⟩
    ·cases hls : lessB u.1 u.2 d.1 d.2
     ·refine take_at (i := 0) 29 (v := .pointer (some ⟨q, 1, none⟩)) rfl rfl (by kernel_rfl) (by kernel_rfl) (by kernel_rfl) (fun _ _ _ h => h) (Or.inl ⟨by rfl, fun w' hw' => by go_simp⟩) hS ?_
      simp only [Act.put, lsA, lsZ, lsS]
      refine take_at (i := 1) 30 (v := .agg #[.int .i64 (f 0), .int .i64 (f 1), .int .i64 (f 2), .int .i64 (f 3), .int .i64 (f 4), .int .i64 (f 5), .int .i64 (f 6), .int .i64 (f 7)]) rfl rfl (by kernel_rfl) (by kernel_rfl) (by kernel_rfl) (fun _ _ _ h => h) (Or.inl ⟨by rfl, fun w' hw' => by obtain ⟨y0, y1, y2, y3, y4, y5, y6, y7, y8, y9⟩ := cel10 (HC1.out.off hw' (fun h => h)); go_simp⟩) hS ?_
      simp only [Act.put, lsA, lsZ, lsS]
      refine take_at (i := 2) 31 (v := .agg #[.int .i64 d.1, .int .i64 d.2]) rfl rfl (by kernel_rfl) (by kernel_rfl) (by kernel_rfl) (fun _ _ _ h => h) (Or.inl ⟨by rfl, fun w' hw' => by obtain ⟨z0, z1⟩ := HD1.out w' hw'; go_simp⟩) hS ?_
      simp only [Act.put, lsA, lsZ, lsS]
      refine wpAnyH_ready (rs := [3]) (by kernel_rfl) (by simp) ?_
      refine AllReadyH.cons rfl (fun K' hK' => ?_) AllReadyH.nil
      go_simp
      refine (fcovers_any f d.1 d.2 _).mono ?_
      rintro e v ⟨rfl, o1⟩
      rw [hcv]
      have hS1 := hS.trans o1 (fun _ _ h => h)
      refine hK'.out _ _ hS1 (fun hS => ?_)
      clear hK' K' hS1
      refine take_at (i := 4) 33 (v := .bool false) rfl rfl (by kernel_rfl) (by kernel_rfl) (by kernel_rfl) (fun _ _ _ h => h) (Or.inl ⟨by rfl, fun w' hw' => by go_simp⟩) hS ?_
      simp only [Act.put, lsA, lsZ, lsS]
      refine take_at (i := 5) 34 (v := .bool false) rfl rfl (by kernel_rfl) (by kernel_rfl) (by kernel_rfl) (fun _ _ _ h => h) (Or.inl ⟨by rfl, fun w' hw' => by go_simp⟩) hS ?_
      simp only [Act.put, lsA, lsZ, lsS]
      refine take_at (i := 6) 35 (v := .int .i64 (n : Int)) rfl rfl (by kernel_rfl) (by kernel_rfl) (by kernel_rfl) (fun _ _ _ h => h) (Or.inl ⟨by rfl, fun w' hw' => by go_simp⟩) hS ?_
      simp only [Act.put, lsA, lsZ, lsS]
      refine take_at (i := 7) 36 (v := .bool true) rfl rfl (by kernel_rfl) (by kernel_rfl) (by kernel_rfl) (fun _ _ _ h => h) (Or.inl ⟨by rfl, fun w' hw' => by go_simp⟩) hS ?_
      simp only [Act.put, lsA, lsZ, lsS]
      refine take_at (i := 8) 37 (v := .bool true) rfl rfl (by kernel_rfl) (by kernel_rfl) (by kernel_rfl) (fun _ _ _ h => h) (Or.inl ⟨by rfl, fun w' hw' => by go_simp⟩) hS ?_
      simp only [Act.put, lsA, lsZ, lsS]
      refine take_at (i := 9) 38 (v := .pointer (some ⟨q, 9, none⟩)) rfl rfl (by kernel_rfl) (by kernel_rfl) (by kernel_rfl) (fun _ _ _ h => h) (Or.inl ⟨by rfl, fun w' hw' => by go_simp⟩) hS ?_
      simp only [Act.put, lsA, lsZ, lsS]
      refine take_at (i := 10) 39 (v := .slice (some ⟨b, off, none⟩) ds.length cap) rfl rfl (by kernel_rfl) (by kernel_rfl) (by kernel_rfl) (fun _ _ _ h => h) (Or.inl ⟨by rfl, fun w' hw' => by obtain ⟨y0, y1, y2, y3, y4, y5, y6, y7, y8, y9⟩ := cel10 (HC1.out.off hw' (fun h => h)); go_simp⟩) hS ?_
      simp only [Act.put, lsA, lsZ, lsS]
      refine take_at (i := 11) 40 (v := .int .i64 (n : Int)) rfl rfl (by kernel_rfl) (by kernel_rfl) (by kernel_rfl) (fun _ _ _ h => h) (Or.inl ⟨by rfl, fun w' hw' => by go_simp⟩) hS ?_
      simp only [Act.put, lsA, lsZ, lsS]
      refine take_at (i := 12) 41 (v := .int .i64 (m : Int)) rfl rfl (by kernel_rfl) (by kernel_rfl) (by kernel_rfl) (fun _ _ _ h => h) (Or.inl ⟨by rfl, fun w' hw' => by go_simp; rw [IntKind.wrap_i64]; omega⟩) hS ?_
      simp only [Act.put, lsA, lsZ, lsS]
      refine take_at (i := 13) 42 (v := .pointer (some ⟨b, off + m * 2, none⟩)) rfl rfl (by kernel_rfl) (by kernel_rfl) (by kernel_rfl) (fun _ _ _ h => h) (Or.inl ⟨by rfl, fun w' hw' => exec_idx10 rfl (idx_dots hml cap b off w')⟩) hS ?_
      simp only [Act.put, lsA, lsZ, lsS]
      refine take_at (i := 14) 43 (v := .agg #[.int .i64 u.1, .int .i64 u.2]) rfl rfl (by kernel_rfl) (by kernel_rfl) (by kernel_rfl) (fun _ _ _ h => h) (Or.inl ⟨by rfl, fun w' hw' => by obtain ⟨z0, z1⟩ := HP1.out w' hw'; go_simp⟩) hS ?_
      simp only [Act.put, lsA, lsZ, lsS]
      refine take_at (i := 15) 44 (v := .agg #[.int .i64 d.1, .int .i64 d.2]) rfl rfl (by kernel_rfl) (by kernel_rfl) (by kernel_rfl) (fun _ _ _ h => h) (Or.inl ⟨by rfl, fun w' hw' => by obtain ⟨z0, z1⟩ := HD1.out w' hw'; go_simp⟩) hS ?_
      simp only [Act.put, lsA, lsZ, lsS]
      refine wpAnyH_ready (rs := [16]) (by kernel_rfl) (by simp) ?_
      refine AllReadyH.cons rfl (fun K' hK' => ?_) AllReadyH.nil
      go_simp
      refine (fless_any u.1 u.2 d.1 d.2 _).mono ?_
      rintro e v ⟨rfl, o1⟩
      rw [hls]
      have hS1 := hS.trans o1 (fun _ _ h => h)
      refine hK'.out _ _ hS1 (fun hS => ?_)
      clear hK' K' hS1
      refine take_at (i := 17) 46 (v := .bool true) rfl rfl (by kernel_rfl) (by kernel_rfl) (by kernel_rfl) (fun _ _ _ h => h) (Or.inl ⟨by rfl, fun w' hw' => by go_simp⟩) hS ?_
      simp only [Act.put, lsA, lsZ, lsS]
      refine take_at (i := 18) 47 (v := .bool true) rfl rfl (by kernel_rfl) (by kernel_rfl) (by kernel_rfl) (fun _ _ _ h => h) (Or.inl ⟨by rfl, fun w' hw' => by go_simp⟩) hS ?_
      simp only [Act.put, lsA, lsZ, lsS]
      refine take_at (i := 19) 48 (v := .bool true) rfl rfl (by kernel_rfl) (by kernel_rfl) (by kernel_rfl) (fun _ _ _ h => h) (Or.inl ⟨by rfl, fun w' hw' => by go_simp⟩) hS ?_
      simp only [Act.put, lsA, lsZ, lsS]
      refine wpAnyH_done (by kernel_rfl) ?_ _
      go_wp2_with fail
      go_ret
      exact ⟨by rw [HST2.out, hls]; rfl, HO2.out.trans (HO1.out.trans hS (fun _ _ h => h)) (fun _ _ h => h)⟩
     ·refine take_at (i := 0) 29 (v := .pointer (some ⟨q, 1, none⟩)) rfl rfl (by kernel_rfl) (by kernel_rfl) (by kernel_rfl) (fun _ _ _ h => h) (Or.inl ⟨by rfl, fun w' hw' => by go_simp⟩) hS ?_
      simp only [Act.put, lsA, lsZ, lsS]
      refine take_at (i := 1) 30 (v := .agg #[.int .i64 (f 0), .int .i64 (f 1), .int .i64 (f 2), .int .i64 (f 3), .int .i64 (f 4), .int .i64 (f 5), .int .i64 (f 6), .int .i64 (f 7)]) rfl rfl (by kernel_rfl) (by kernel_rfl) (by kernel_rfl) (fun _ _ _ h => h) (Or.inl ⟨by rfl, fun w' hw' => by obtain ⟨y0, y1, y2, y3, y4, y5, y6, y7, y8, y9⟩ := cel10 (HC1.out.off hw' (fun h => h)); go_simp⟩) hS ?_
      simp only [Act.put, lsA, lsZ, lsS]
      refine take_at (i := 2) 31 (v := .agg #[.int .i64 d.1, .int .i64 d.2]) rfl rfl (by kernel_rfl) (by kernel_rfl) (by kernel_rfl) (fun _ _ _ h => h) (Or.inl ⟨by rfl, fun w' hw' => by obtain ⟨z0, z1⟩ := HD1.out w' hw'; go_simp⟩) hS ?_
      simp only [Act.put, lsA, lsZ, lsS]
      refine wpAnyH_ready (rs := [3]) (by kernel_rfl) (by simp) ?_
      refine AllReadyH.cons rfl (fun K' hK' => ?_) AllReadyH.nil
      go_simp
      refine (fcovers_any f d.1 d.2 _).mono ?_
      rintro e v ⟨rfl, o1⟩
      rw [hcv]
      have hS1 := hS.trans o1 (fun _ _ h => h)
      refine hK'.out _ _ hS1 (fun hS => ?_)
      clear hK' K' hS1
      refine take_at (i := 4) 33 (v := .bool false) rfl rfl (by kernel_rfl) (by kernel_rfl) (by kernel_rfl) (fun _ _ _ h => h) (Or.inl ⟨by rfl, fun w' hw' => by go_simp⟩) hS ?_
      simp only [Act.put, lsA, lsZ, lsS]
      refine take_at (i := 5) 34 (v := .bool false) rfl rfl (by kernel_rfl) (by kernel_rfl) (by kernel_rfl) (fun _ _ _ h => h) (Or.inl ⟨by rfl, fun w' hw' => by go_simp⟩) hS ?_
      simp only [Act.put, lsA, lsZ, lsS]
      refine take_at (i := 6) 35 (v := .int .i64 (n : Int)) rfl rfl (by kernel_rfl) (by kernel_rfl) (by kernel_rfl) (fun _ _ _ h => h) (Or.inl ⟨by rfl, fun w' hw' => by go_simp⟩) hS ?_
      simp only [Act.put, lsA, lsZ, lsS]
      refine take_at (i := 7) 36 (v := .bool true) rfl rfl (by kernel_rfl) (by kernel_rfl) (by kernel_rfl) (fun _ _ _ h => h) (Or.inl ⟨by rfl, fun w' hw' => by go_simp⟩) hS ?_
      simp only [Act.put, lsA, lsZ, lsS]
      refine take_at (i := 8) 37 (v := .bool true) rfl rfl (by kernel_rfl) (by kernel_rfl) (by kernel_rfl) (fun _ _ _ h => h) (Or.inl ⟨by rfl, fun w' hw' => by go_simp⟩) hS ?_
      simp only [Act.put, lsA, lsZ, lsS]
      refine take_at (i := 9) 38 (v := .pointer (some ⟨q, 9, none⟩)) rfl rfl (by kernel_rfl) (by kernel_rfl) (by kernel_rfl) (fun _ _ _ h => h) (Or.inl ⟨by rfl, fun w' hw' => by go_simp⟩) hS ?_
      simp only [Act.put, lsA, lsZ, lsS]
      refine take_at (i := 10) 39 (v := .slice (some ⟨b, off, none⟩) ds.length cap) rfl rfl (by kernel_rfl) (by kernel_rfl) (by kernel_rfl) (fun _ _ _ h => h) (Or.inl ⟨by rfl, fun w' hw' => by obtain ⟨y0, y1, y2, y3, y4, y5, y6, y7, y8, y9⟩ := cel10 (HC1.out.off hw' (fun h => h)); go_simp⟩) hS ?_
      simp only [Act.put, lsA, lsZ, lsS]
      refine take_at (i := 11) 40 (v := .int .i64 (n : Int)) rfl rfl (by kernel_rfl) (by kernel_rfl) (by kernel_rfl) (fun _ _ _ h => h) (Or.inl ⟨by rfl, fun w' hw' => by go_simp⟩) hS ?_
      simp only [Act.put, lsA, lsZ, lsS]
      refine take_at (i := 12) 41 (v := .int .i64 (m : Int)) rfl rfl (by kernel_rfl) (by kernel_rfl) (by kernel_rfl) (fun _ _ _ h => h) (Or.inl ⟨by rfl, fun w' hw' => by go_simp; rw [IntKind.wrap_i64]; omega⟩) hS ?_
      simp only [Act.put, lsA, lsZ, lsS]
      refine take_at (i := 13) 42 (v := .pointer (some ⟨b, off + m * 2, none⟩)) rfl rfl (by kernel_rfl) (by kernel_rfl) (by kernel_rfl) (fun _ _ _ h => h) (Or.inl ⟨by rfl, fun w' hw' => exec_idx10 rfl (idx_dots hml cap b off w')⟩) hS ?_
      simp only [Act.put, lsA, lsZ, lsS]
      refine take_at (i := 14) 43 (v := .agg #[.int .i64 u.1, .int .i64 u.2]) rfl rfl (by kernel_rfl) (by kernel_rfl) (by kernel_rfl) (fun _ _ _ h => h) (Or.inl ⟨by rfl, fun w' hw' => by obtain ⟨z0, z1⟩ := HP1.out w' hw'; go_simp⟩) hS ?_
      simp only [Act.put, lsA, lsZ, lsS]
      refine take_at (i := 15) 44 (v := .agg #[.int .i64 d.1, .int .i64 d.2]) rfl rfl (by kernel_rfl) (by kernel_rfl) (by kernel_rfl) (fun _ _ _ h => h) (Or.inl ⟨by rfl, fun w' hw' => by obtain ⟨z0, z1⟩ := HD1.out w' hw'; go_simp⟩) hS ?_
      simp only [Act.put, lsA, lsZ, lsS]
      refine wpAnyH_ready (rs := [16]) (by kernel_rfl) (by simp) ?_
      refine AllReadyH.cons rfl (fun K' hK' => ?_) AllReadyH.nil
      go_simp
      refine (fless_any u.1 u.2 d.1 d.2 _).mono ?_
      rintro e v ⟨rfl, o1⟩
      rw [hls]
      have hS1 := hS.trans o1 (fun _ _ h => h)
      refine hK'.out _ _ hS1 (fun hS => ?_)
      clear hK' K' hS1
      refine take_at (i := 17) 46 (v := .bool false) rfl rfl (by kernel_rfl) (by kernel_rfl) (by kernel_rfl) (fun _ _ _ h => h) (Or.inl ⟨by rfl, fun w' hw' => by go_simp⟩) hS ?_
      simp only [Act.put, lsA, lsZ, lsS]
      refine take_at (i := 18) 47 (v := .bool false) rfl rfl (by kernel_rfl) (by kernel_rfl) (by kernel_rfl) (fun _ _ _ h => h) (Or.inl ⟨by rfl, fun w' hw' => by go_simp⟩) hS ?_
      simp only [Act.put, lsA, lsZ, lsS]
      refine take_at (i := 19) 48 (v := .bool false) rfl rfl (by kernel_rfl) (by kernel_rfl) (by kernel_rfl) (fun _ _ _ h => h) (Or.inl ⟨by rfl, fun w' hw' => by go_simp⟩) hS ?_
      simp only [Act.put, lsA, lsZ, lsS]
      refine wpAnyH_done (by kernel_rfl) ?_ _
      go_wp2_with fail
      go_roundw
      case rel => exact ⟨n + 1, by go_num, by omega, by rw [← HM2.out, HST2.out, hcv, hls, HPV.out]; rfl, HO1.out.trans hS (fun _ _ h => h)⟩
      case measure => simp [intOf]; omega
  ·obtain rfl : n = ds.length := by omega
   have e1 : decide ((ds.length : Int) < (ds.length : Int)) = false := decide_eq_false (by omega)
   have e2 : decide (ds.length < ds.length) = false := decide_eq_false (by omega)
   have HE : Hid (mayD ⟨key, f, ds⟩ = true) := by
    show _ = _
    rw [HM2.out, HOK.out, List.drop_length]
    cases prv ds ds.length <;> rfl
   go_wp2_with fail
   go_ret
   exact ⟨by rw [HE.out]; rfl, HO2.out.trans HO.out (fun _ _ h => h)⟩
end Go.Proofs.YtmbphlkohlggfaaGreat
