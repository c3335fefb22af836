/- Items of several texts. -/
import Derived.Deep.Cut
import Derived.Test.YtpnnpdfmoldiiaaQGSame
import Derived.Test.YtpnnpdfmoldiiaaQLaw10
namespace Go.Proofs.Ytpnnpdfmoldiiaa
open Go.RowKit
theorem cells_off {w w' : World} {b o : Nat} {e : E} (k : Off (fun _ => False) w w') (h : ∀ j u, (ecs e)[j]? = some u → w.cell? ⟨b, o + j, none⟩ = some u) : ∀ j u, (ecs e)[j]? = some u → w'.cell? ⟨b, o + j, none⟩ = some u := by
 intro j u hj
 have h1 := h j u hj
 rw [← h1]
 exact World.cell?_of_block (a := ⟨b, o + j, none⟩) (k.block b (cell_lt h1) (fun h => h))
set_option maxRecDepth 100000 in
set_option maxHeartbeats 1000000 in
theorem sameents_any (a b : Option Addr) (ca cb : Nat) (xs ys : List E) (w : World) (h1 : Ens w a ca xs) (h2 : Ens w b cb ys) (he : absE xs = absE ys) (hl : xs.length ≤ 1000) :
  Calls Try.prog 22 #[.slice a xs.length ca, .slice b ys.length cb] w fun e w' => e = .returned (.bool true) ∧ Off (fun _ => False) w w' := by
 have hnot := not_any
 have hlen : ys.length = xs.length := by have := congrArg List.length he; rw [absE_len, absE_len] at this; exact this.symm
 have d0 : ((xs.length : Int) != (ys.length : Int)) = false := by rw [hlen]; simp
 have HLEN : Hid _ := hlen
 have H1 : Hid _ := h1
 have H2 : Hid _ := h2
 have HE : Hid _ := he
 clear h1 h2 he hlen
 go_enter Try.func22, Try.ntmps22
 go_wp2_with fail
 go_loopw [13] (fun y wr => ∃ i : Nat, y = .int .i64 (i : Int) ∧ i ≤ xs.length ∧ Off (fun _ => False) w wr) (fun y _ => (xs.length - intOf y).toNat)
 case atStart => exact ⟨0, rfl, by omega, Off.refl _ _⟩
 case round =>
  obtain ⟨i, rfl, hi, O⟩ := hrel
  have HO : Hid _ := O
  clear O
  by_cases hil : i < xs.length
  ·have i1 : decide ((i : Int) < (xs.length : Int)) = true := decide_eq_true (by omega)
   have i2 : decide (i < xs.length) = true := decide_eq_true hil
   have hil2 : i < ys.length := by have := HLEN.out; omega
   have hyl : ys.length ≤ 1000 := by have := HLEN.out; omega
   obtain ⟨x, hx⟩ : ∃ x, xs[i]? = some x := ⟨_, List.getElem?_eq_getElem hil⟩
   obtain ⟨y, hy⟩ : ∃ y, ys[i]? = some y := ⟨_, List.getElem?_eq_getElem hil2⟩
   have hab : x.abs = y.abs := by
    have := congrArg (fun z => z[i]?) HE.out
    simpa [absE, hx, hy] using this
   have HKEY : Hid (y.key = x.key) := (congrArg K.key hab).symm
   have HSM : Hid (sameS x.f y.f (cont x.l) (cont y.l) = true) := by
    have e1 : x.f = y.f := congrArg K.f hab
    have e2 : cont x.l = cont y.l := congrArg K.l hab
    show _ = true
    rw [e1, e2]
    exact same_refl _ _
   obtain ⟨ba, oa, rfl, ka, ra⟩ := H1.out.at_ i x hx
   obtain ⟨bb, ob, rfl, kb, rb⟩ := H2.out.at_ i y hy
   have HKA : Hid _ := ka
   have HKB : Hid _ := kb
   have HRX : Hid _ := ra
   have HRY : Hid _ := rb
   clear ka kb ra rb hx hy hab
   go_upto_region 6 with fail
   refine wp_region_held_drew (S := fun w' => Off (fun _ => False) w w') (by kernel_rfl) HO.out.drew (fun hS => ?_)
   refine take_at (i := 0) 16 (v := .slice (some ⟨ba, oa, none⟩) xs.length ca) rfl rfl (by kernel_rfl) (by kernel_rfl) (by kernel_rfl) (fun _ _ _ h => h) (Or.inl ⟨by rfl, fun w' hw' => by go_simp⟩) hS ?_
   simp only [Act.put, lsA, lsZ, lsS]
   refine take_at (i := 1) 17 (v := .int .i64 (i : Int)) rfl rfl (by kernel_rfl) (by kernel_rfl) (by kernel_rfl) (fun _ _ _ h => h) (Or.inl ⟨by rfl, fun w' hw' => by go_simp⟩) hS ?_
   simp only [Act.put, lsA, lsZ, lsS]
   refine take_at (i := 2) 18 (v := .pointer (some ⟨ba, oa + i * 10, none⟩)) rfl rfl (by kernel_rfl) (by kernel_rfl) (by kernel_rfl) (fun _ _ _ h => h) (Or.inl ⟨by rfl, fun w' hw' => exec_idx10 rfl (idx_ents hil ca ba oa w')⟩) hS ?_
   simp only [Act.put, lsA, lsZ, lsS]
   refine take_at (i := 3) 19 (v := .pointer (some ⟨ba, oa + i * 10, none⟩)) rfl rfl (by kernel_rfl) (by kernel_rfl) (by kernel_rfl) (fun _ _ _ h => h) (Or.inl ⟨by rfl, fun w' hw' => by go_simp⟩) hS ?_
   simp only [Act.put, lsA, lsZ, lsS]
   refine take_at (i := 4) 20 (v := .string x.key) rfl rfl (by kernel_rfl) (by kernel_rfl) (by kernel_rfl) (fun _ _ _ h => h) (Or.inl ⟨by rfl, fun w' hw' => by obtain ⟨k0, k1, k2, k3, k4, k5, k6, k7, k8, k9⟩ := ent10 (cells_off hw' HKA.out); go_simp⟩) hS ?_
   simp only [Act.put, lsA, lsZ, lsS]
   refine take_at (i := 5) 21 (v := .slice (some ⟨bb, ob, none⟩) ys.length cb) rfl rfl (by kernel_rfl) (by kernel_rfl) (by kernel_rfl) (fun _ _ _ h => h) (Or.inl ⟨by rfl, fun w' hw' => by go_simp⟩) hS ?_
   simp only [Act.put, lsA, lsZ, lsS]
   refine take_at (i := 6) 22 (v := .int .i64 (i : Int)) rfl rfl (by kernel_rfl) (by kernel_rfl) (by kernel_rfl) (fun _ _ _ h => h) (Or.inl ⟨by rfl, fun w' hw' => by go_simp⟩) hS ?_
   simp only [Act.put, lsA, lsZ, lsS]
   refine take_at (i := 7) 23 (v := .pointer (some ⟨bb, ob + i * 10, none⟩)) rfl rfl (by kernel_rfl) (by kernel_rfl) (by kernel_rfl) (fun _ _ _ h => h) (Or.inl ⟨by rfl, fun w' hw' => exec_idx10 rfl (idx_ents hil2 cb bb ob w')⟩) hS ?_
   simp only [Act.put, lsA, lsZ, lsS]
   refine take_at (i := 8) 24 (v := .pointer (some ⟨bb, ob + i * 10, none⟩)) rfl rfl (by kernel_rfl) (by kernel_rfl) (by kernel_rfl) (fun _ _ _ h => h) (Or.inl ⟨by rfl, fun w' hw' => by go_simp⟩) hS ?_
   simp only [Act.put, lsA, lsZ, lsS]
   refine take_at (i := 9) 25 (v := .string x.key) rfl rfl (by kernel_rfl) (by kernel_rfl) (by kernel_rfl) (fun _ _ _ h => h) (Or.inl ⟨by rfl, fun w' hw' => by obtain ⟨k0, k1, k2, k3, k4, k5, k6, k7, k8, k9⟩ := ent10 (cells_off hw' HKB.out); rw [HKEY.out] at k0; go_simp⟩) hS ?_
   simp only [Act.put, lsA, lsZ, lsS]
   refine take_at (i := 10) 26 (v := .bool false) rfl rfl (by kernel_rfl) (by kernel_rfl) (by kernel_rfl) (fun _ _ _ h => h) (Or.inl ⟨by rfl, fun w' hw' => by go_simp⟩) hS ?_
   simp only [Act.put, lsA, lsZ, lsS]
   refine take_at (i := 11) 27 (v := .bool false) rfl rfl (by kernel_rfl) (by kernel_rfl) (by kernel_rfl) (fun _ _ _ h => h) (Or.inl ⟨by rfl, fun w' hw' => by go_simp⟩) hS ?_
   simp only [Act.put, lsA, lsZ, lsS]
   refine take_at (i := 12) 28 (v := .slice (some ⟨ba, oa, none⟩) xs.length ca) rfl rfl (by kernel_rfl) (by kernel_rfl) (by kernel_rfl) (fun _ _ _ h => h) (Or.inl ⟨by rfl, fun w' hw' => by go_simp⟩) hS ?_
   simp only [Act.put, lsA, lsZ, lsS]
   refine take_at (i := 13) 29 (v := .int .i64 (i : Int)) rfl rfl (by kernel_rfl) (by kernel_rfl) (by kernel_rfl) (fun _ _ _ h => h) (Or.inl ⟨by rfl, fun w' hw' => by go_simp⟩) hS ?_
   simp only [Act.put, lsA, lsZ, lsS]
   refine take_at (i := 14) 30 (v := .pointer (some ⟨ba, oa + i * 10, none⟩)) rfl rfl (by kernel_rfl) (by kernel_rfl) (by kernel_rfl) (fun _ _ _ h => h) (Or.inl ⟨by rfl, fun w' hw' => exec_idx10 rfl (idx_ents hil ca ba oa w')⟩) hS ?_
   simp only [Act.put, lsA, lsZ, lsS]
   refine take_at (i := 15) 31 (v := .pointer (some ⟨ba, oa + i * 10 + 1, none⟩)) rfl rfl (by kernel_rfl) (by kernel_rfl) (by kernel_rfl) (fun _ _ _ h => h) (Or.inl ⟨by rfl, fun w' hw' => by go_simp⟩) hS ?_
   simp only [Act.put, lsA, lsZ, lsS]
   refine take_at (i := 16) 32 (v := .agg #[.int .i64 (x.f 0), .int .i64 (x.f 1), .int .i64 (x.f 2), .int .i64 (x.f 3), .int .i64 (x.f 4), .int .i64 (x.f 5), .int .i64 (x.f 6), .int .i64 (x.f 7), .slice x.a x.l.length x.cap]) rfl rfl (by kernel_rfl) (by kernel_rfl) (by kernel_rfl) (fun _ _ _ h => h) (Or.inl ⟨by rfl, fun w' hw' => by obtain ⟨k0, k1, k2, k3, k4, k5, k6, k7, k8, k9⟩ := ent10 (cells_off hw' HKA.out); go_simp⟩) hS ?_
   simp only [Act.put, lsA, lsZ, lsS]
   refine take_at (i := 17) 33 (v := .slice (some ⟨bb, ob, none⟩) ys.length cb) rfl rfl (by kernel_rfl) (by kernel_rfl) (by kernel_rfl) (fun _ _ _ h => h) (Or.inl ⟨by rfl, fun w' hw' => by go_simp⟩) hS ?_
   simp only [Act.put, lsA, lsZ, lsS]
   refine take_at (i := 18) 34 (v := .int .i64 (i : Int)) rfl rfl (by kernel_rfl) (by kernel_rfl) (by kernel_rfl) (fun _ _ _ h => h) (Or.inl ⟨by rfl, fun w' hw' => by go_simp⟩) hS ?_
   simp only [Act.put, lsA, lsZ, lsS]
   refine take_at (i := 19) 35 (v := .pointer (some ⟨bb, ob + i * 10, none⟩)) rfl rfl (by kernel_rfl) (by kernel_rfl) (by kernel_rfl) (fun _ _ _ h => h) (Or.inl ⟨by rfl, fun w' hw' => exec_idx10 rfl (idx_ents hil2 cb bb ob w')⟩) hS ?_
   simp only [Act.put, lsA, lsZ, lsS]
   refine take_at (i := 20) 36 (v := .pointer (some ⟨bb, ob + i * 10 + 1, none⟩)) rfl rfl (by kernel_rfl) (by kernel_rfl) (by kernel_rfl) (fun _ _ _ h => h) (Or.inl ⟨by rfl, fun w' hw' => by go_simp⟩) hS ?_
   simp only [Act.put, lsA, lsZ, lsS]
   refine take_at (i := 21) 37 (v := .agg #[.int .i64 (y.f 0), .int .i64 (y.f 1), .int .i64 (y.f 2), .int .i64 (y.f 3), .int .i64 (y.f 4), .int .i64 (y.f 5), .int .i64 (y.f 6), .int .i64 (y.f 7), .slice y.a y.l.length y.cap]) rfl rfl (by kernel_rfl) (by kernel_rfl) (by kernel_rfl) (fun _ _ _ h => h) (Or.inl ⟨by rfl, fun w' hw' => by obtain ⟨k0, k1, k2, k3, k4, k5, k6, k7, k8, k9⟩ := ent10 (cells_off hw' HKB.out); go_simp⟩) hS ?_
   simp only [Act.put, lsA, lsZ, lsS]
   refine wpAnyH_ready (rs := [22]) (by kernel_rfl) (by simp) ?_
   refine AllReadyH.cons rfl (fun K' hK' => ?_) AllReadyH.nil
   go_simp
   refine (gsame_any x.f y.f x.a y.a x.cap y.cap x.l y.l _ (HRX.out.off hS) (HRY.out.off hS)).mono ?_
   rw [HSM.out]
   rintro e v1 ⟨rfl, o1⟩
   have hS1 := hS.trans o1 (fun _ _ h => h)
   refine hK'.out _ _ hS1 (fun hS => ?_)
   clear hK' K' hS1 o1
   refine take_at (i := 23) 39 (v := .bool false) rfl rfl (by kernel_rfl) (by kernel_rfl) (by kernel_rfl) (fun _ _ _ h => h) (Or.inl ⟨by rfl, fun w' hw' => by go_simp⟩) hS ?_
   simp only [Act.put, lsA, lsZ, lsS]
   refine take_at (i := 24) 40 (v := .bool false) rfl rfl (by kernel_rfl) (by kernel_rfl) (by kernel_rfl) (fun _ _ _ h => h) (Or.inl ⟨by rfl, fun w' hw' => by go_simp⟩) hS ?_
   simp only [Act.put, lsA, lsZ, lsS]
   refine wpAnyH_done (by kernel_rfl) ?_ _
   go_wp2_with fail
   go_roundw
   case rel => exact ⟨i + 1, by go_num, by omega, hS⟩
   case measure => simp [intOf]; omega
  ·have i1 : decide ((i : Int) < (xs.length : Int)) = false := decide_eq_false (by omega)
   have i2 : decide (i < xs.length) = false := decide_eq_false hil
   go_wp2_with fail
   go_ret
   exact ⟨rfl, HO.out⟩
end Go.Proofs.Ytpnnpdfmoldiiaa
