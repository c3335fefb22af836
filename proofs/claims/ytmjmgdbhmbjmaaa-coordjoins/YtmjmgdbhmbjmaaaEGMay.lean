/- Items of several texts. -/
import Derived.Test.YtmjmgdbhmbjmaaaERefA
namespace Go.Proofs.Ytmjmgdbhmbjmaaa
open Go.RowKit
theorem ok_big {n : Nat} {d : Bool} (h : 200 < n) : okData n d = false := by
 cases d
 ·simp [okData]; omega
 ·simp [okData]; omega
theorem ok_dead {n : Nat} (h : ¬ n = 0) : okData n true = false := by simp [okData, h]
theorem ok_zero {n : Nat} (h : n = 0) : okData n true = true := by simp [okData, h]
theorem ok_small {n : Nat} (h : n ≤ 200) : okData n false = true := by simp [okData, h]
set_option maxRecDepth 100000 in
set_option maxHeartbeats 8000000 in
theorem gmay_any (f : Nat → Int) (a : Option Addr) (cap : Nat) (l : List V) (w : World) (hr : Row w a cap l) :
  Calls Try.prog 28 #[.agg #[.int .i64 (f 0), .int .i64 (f 1), .int .i64 (f 2), .int .i64 (f 3), .int .i64 (f 4), .int .i64 (f 5), .int .i64 (f 6), .int .i64 (f 7), .slice a l.length cap]] w fun e w' => e = .returned (.bool (mayS f (cont l))) ∧ Off (fun _ => False) w w' := by
 have hnot := not_any
 have B0 := Cel.new w 33 #[.int .i64 (f 0), .int .i64 (f 1), .int .i64 (f 2), .int .i64 (f 3), .int .i64 (f 4), .int .i64 (f 5), .int .i64 (f 6), .int .i64 (f 7), .slice a l.length cap]
 have O0 : Off (fun _ => False) w (w.alloc (.cells #[.int .i64 (f 0), .int .i64 (f 1), .int .i64 (f 2), .int .i64 (f 3), .int .i64 (f 4), .int .i64 (f 5), .int .i64 (f 6), .int .i64 (f 7), .slice a l.length cap] 33)) := (Off.refl _ w).alloc _
 cases hm : mayB f
 ·go_enter Try.func28, Try.ntmps28
  go_wp2_with fail
  refine (fmay_any f _).mono ?_
  rw [hm]
  rintro e w1 ⟨rfl, o1⟩
  go_wp2_with fail
  go_ret
  refine ⟨?_, O0.trans o1 (fun _ _ h => h)⟩
  rw [may_no (fun hM => by simp [mayB] at hm; obtain ⟨j, hj, h⟩ := hm; have := hM.seen j hj; have := h this.1; omega)]
  rfl
 have hseen : ∀ j, j < 8 → 0 ≤ f j ∧ f j ≤ 1099511627776 := by simpa [mayB] using hm
 have HSN : Hid _ := hseen
 clear hseen
 by_cases hl : l.length ≤ 16
 ·have d1 : decide ((16 : Int) < (l.length : Int)) = false := decide_eq_false (by omega)
  have d2 : decide (16 < l.length) = false := decide_eq_false (by omega)
  have R0 := hr.off O0
  have HB0 : Hid _ := B0
  have HO0 : Hid _ := O0
  have HR0 : Hid _ := R0
  have HHL : Hid _ := hl
  clear B0 O0 R0 hr
  go_enter Try.func28, Try.ntmps28
  go_wp2_with fail
  refine (fmay_any f _).mono ?_
  rw [hm]
  rintro e w1 ⟨rfl, o1⟩
  have B1 := HB0.out.off o1 (fun h => h)
  have O1 := HO0.out.trans o1 (fun _ _ h => h)
  have R1 := HR0.out.off o1
  have c8 : w1.cell? ⟨w.heap.size, 8, none⟩ = some (.slice a l.length cap) := B1.cell 8
  have HB1 : Hid _ := B1
  have HO1 : Hid _ := O1
  have HR1 : Hid _ := R1
  clear B1 O1 R1 o1
  go_wp2_with fail
  go_loopw [18] (fun y wr => ∃ n : Nat, y = .int .i64 (n : Int) ∧ n ≤ l.length ∧ Upto f l n ∧ Off (fun _ => False) w wr ∧ Cel w.heap.size 33 #[.int .i64 (f 0), .int .i64 (f 1), .int .i64 (f 2), .int .i64 (f 3), .int .i64 (f 4), .int .i64 (f 5), .int .i64 (f 6), .int .i64 (f 7), .slice a l.length cap] wr ∧ Row wr a cap l) (fun y _ => (l.length - intOf y).toNat)
  case atStart => exact ⟨0, rfl, by omega, Upto.zero f l, HO1.out, HB1.out, HR1.out⟩
  case round =>
   clear HB1 HO1 HR1 HB0 HO0 HR0 c8
   obtain ⟨n, rfl, hn, hg, O, cb, hr1⟩ := hrel
   have HG : Hid _ := hg
   clear hg
   by_cases hlt : n < l.length
   ·have e1 : decide ((n : Int) < (l.length : Int)) = true := decide_eq_true (by omega)
    have e2 : decide (n < l.length) = true := decide_eq_true hlt
    obtain ⟨v, hv⟩ : ∃ v, l[n]? = some v := ⟨_, List.getElem?_eq_getElem hlt⟩
    obtain ⟨b, off, rfl, k, -⟩ := hr1.at_ n v hv
    obtain ⟨k0, k1, k2, k3⟩ := k
    have k : At4 wr b (off + n * 4) v := ⟨k0, k1, k2, k3⟩
    rcases Nat.eq_zero_or_pos n with hn0 | hn0
    ·have e5 : decide ((0 : Int) < (n : Int)) = false := decide_eq_false (by omega)
     have e6 : decide (0 < n) = false := decide_eq_false (by omega)
     have HN0 : Hid _ := hn0
     clear hn0
     go_wp2_with fail
     have C1 := Cel.new wr 92 #[.int .i64 v.node, .int .i64 v.num, .slice v.ad v.data.length v.cap, .bool v.dead]
     have CB1 := cb.alloc (.cells #[.int .i64 v.node, .int .i64 v.num, .slice v.ad v.data.length v.cap, .bool v.dead] 92)
     have R1 := hr1.off ((Off.refl _ wr).alloc (.cells #[.int .i64 v.node, .int .i64 v.num, .slice v.ad v.data.length v.cap, .bool v.dead] 92))
     have O1 := O.alloc (.cells #[.int .i64 v.node, .int .i64 v.num, .slice v.ad v.data.length v.cap, .bool v.dead] 92)
     have := k.off ((Off.refl (fun _ => False) wr).alloc (.cells #[.int .i64 v.node, .int .i64 v.num, .slice v.ad v.data.length v.cap, .bool v.dead] 92)) (fun _ h => h)
     generalize hZ : wr.heap.size = Z at C1 ⊢
     generalize hW : wr.alloc (.cells #[.int .i64 v.node, .int .i64 v.num, .slice v.ad v.data.length v.cap, .bool v.dead] 92) = W at C1 CB1 R1 O1 ⊢
     have CV : Hid _ := C1
     have CB : Hid _ := CB1
     have HR : Hid _ := R1
     have HO : Hid _ := O1
     clear C1 CB1 R1 O1 cb hr1 O hZ hW k0 k1 k2 k3 k
     cases hcov : coversB f v.node v.num
     ·refine wp_region_held_drew (S := fun w' => Off (fun _ => False) W w') (by kernel_rfl) ((Off.refl _ W).drew) (fun hS => ?_)
      refine take_at (i := 0) 23 (v := .pointer (some ⟨w.heap.size, 0, none⟩)) rfl rfl (by kernel_rfl) (by kernel_rfl) (by kernel_rfl) (fun _ _ _ h => h) (Or.inl ⟨by rfl, fun w' hw' => by go_simp⟩) hS ?_
      simp only [Act.put, lsA, lsZ, lsS]
      refine take_at (i := 1) 24 (v := .agg #[.int .i64 (f 0), .int .i64 (f 1), .int .i64 (f 2), .int .i64 (f 3), .int .i64 (f 4), .int .i64 (f 5), .int .i64 (f 6), .int .i64 (f 7)]) rfl rfl (by kernel_rfl) (by kernel_rfl) (by kernel_rfl) (fun _ _ _ h => h) (Or.inl ⟨by rfl, fun w' hw' => by obtain ⟨x0, x1, x2, x3, x4, x5, x6, x7, x8⟩ := cel9 (CB.out.off hw' (fun h => h)); go_simp⟩) hS ?_
      simp only [Act.put, lsA, lsZ, lsS]
      refine take_at (i := 2) 25 (v := .pointer (some ⟨Z, 0, none⟩)) rfl rfl (by kernel_rfl) (by kernel_rfl) (by kernel_rfl) (fun _ _ _ h => h) (Or.inl ⟨by rfl, fun w' hw' => by go_simp⟩) hS ?_
      simp only [Act.put, lsA, lsZ, lsS]
      refine take_at (i := 3) 26 (v := .agg #[.int .i64 v.node, .int .i64 v.num]) rfl rfl (by kernel_rfl) (by kernel_rfl) (by kernel_rfl) (fun _ _ _ h => h) (Or.inl ⟨by rfl, fun w' hw' => by obtain ⟨x0, x1, x2, x3⟩ := cel4 (CV.out.off hw' (fun h => h)); go_simp⟩) hS ?_
      simp only [Act.put, lsA, lsZ, lsS]
      refine wpAnyH_ready (rs := [4]) (by kernel_rfl) (by simp) ?_
      refine AllReadyH.cons rfl (fun K' hK' => ?_) AllReadyH.nil
      go_simp
      refine (fcovers_any f _ _ _).mono ?_
      rw [hcov]
      rintro e v1 ⟨rfl, o1⟩
      refine hK'.out _ _ (hS.trans o1 (fun _ _ h => h)) (fun hS => ?_)
      clear hK' K' o1
      refine take_at (i := 5) 28 (v := .bool true) rfl rfl (by kernel_rfl) (by kernel_rfl) (by kernel_rfl) (fun _ _ _ h => h) (Or.inl ⟨by rfl, fun w' hw' => by go_simp⟩) hS ?_
      simp only [Act.put, lsA, lsZ, lsS]
      refine take_at (i := 6) 29 (v := .bool true) rfl rfl (by kernel_rfl) (by kernel_rfl) (by kernel_rfl) (fun _ _ _ h => h) (Or.inl ⟨by rfl, fun w' hw' => by go_simp⟩) hS ?_
      simp only [Act.put, lsA, lsZ, lsS]
      refine take_at (i := 7) 30 (v := undef) rfl rfl (by kernel_rfl) (by kernel_rfl) (by kernel_rfl) (fun _ _ _ h => h) (Or.inr ⟨by rfl, rfl⟩) hS ?_
      simp only [Act.put, lsA, lsZ, lsS]
      refine take_at (i := 8) 31 (v := undef) rfl rfl (by kernel_rfl) (by kernel_rfl) (by kernel_rfl) (fun _ _ _ h => h) (Or.inr ⟨by rfl, rfl⟩) hS ?_
      simp only [Act.put, lsA, lsZ, lsS]
      refine take_at (i := 9) 32 (v := undef) rfl rfl (by kernel_rfl) (by kernel_rfl) (by kernel_rfl) (fun _ _ _ h => h) (Or.inr ⟨by rfl, rfl⟩) hS ?_
      simp only [Act.put, lsA, lsZ, lsS]
      refine take_at (i := 10) 33 (v := undef) rfl rfl (by kernel_rfl) (by kernel_rfl) (by kernel_rfl) (fun _ _ _ h => h) (Or.inr ⟨by rfl, rfl⟩) hS ?_
      simp only [Act.put, lsA, lsZ, lsS]
      refine take_at (i := 11) 34 (v := undef) rfl rfl (by kernel_rfl) (by kernel_rfl) (by kernel_rfl) (fun _ _ _ h => h) (Or.inr ⟨by rfl, rfl⟩) hS ?_
      simp only [Act.put, lsA, lsZ, lsS]
      refine take_at (i := 12) 35 (v := undef) rfl rfl (by kernel_rfl) (by kernel_rfl) (by kernel_rfl) (fun _ _ _ h => h) (Or.inr ⟨by rfl, rfl⟩) hS ?_
      simp only [Act.put, lsA, lsZ, lsS]
      refine take_at (i := 13) 36 (v := undef) rfl rfl (by kernel_rfl) (by kernel_rfl) (by kernel_rfl) (fun _ _ _ h => h) (Or.inr ⟨by rfl, rfl⟩) hS ?_
      simp only [Act.put, lsA, lsZ, lsS]
      refine take_at (i := 14) 37 (v := undef) rfl rfl (by kernel_rfl) (by kernel_rfl) (by kernel_rfl) (fun _ _ _ h => h) (Or.inr ⟨by rfl, rfl⟩) hS ?_
      simp only [Act.put, lsA, lsZ, lsS]
      refine take_at (i := 15) 38 (v := undef) rfl rfl (by kernel_rfl) (by kernel_rfl) (by kernel_rfl) (fun _ _ _ h => h) (Or.inr ⟨by rfl, rfl⟩) hS ?_
      simp only [Act.put, lsA, lsZ, lsS]
      refine take_at (i := 16) 39 (v := undef) rfl rfl (by kernel_rfl) (by kernel_rfl) (by kernel_rfl) (fun _ _ _ h => h) (Or.inr ⟨by rfl, rfl⟩) hS ?_
      simp only [Act.put, lsA, lsZ, lsS]
      refine take_at (i := 17) 40 (v := undef) rfl rfl (by kernel_rfl) (by kernel_rfl) (by kernel_rfl) (fun _ _ _ h => h) (Or.inr ⟨by rfl, rfl⟩) hS ?_
      simp only [Act.put, lsA, lsZ, lsS]
      refine take_at (i := 18) 41 (v := undef) rfl rfl (by kernel_rfl) (by kernel_rfl) (by kernel_rfl) (fun _ _ _ h => h) (Or.inr ⟨by rfl, rfl⟩) hS ?_
      simp only [Act.put, lsA, lsZ, lsS]
      refine take_at (i := 19) 42 (v := undef) rfl rfl (by kernel_rfl) (by kernel_rfl) (by kernel_rfl) (fun _ _ _ h => h) (Or.inr ⟨by rfl, rfl⟩) hS ?_
      simp only [Act.put, lsA, lsZ, lsS]
      refine take_at (i := 20) 43 (v := undef) rfl rfl (by kernel_rfl) (by kernel_rfl) (by kernel_rfl) (fun _ _ _ h => h) (Or.inr ⟨by rfl, rfl⟩) hS ?_
      simp only [Act.put, lsA, lsZ, lsS]
      refine take_at (i := 21) 44 (v := undef) rfl rfl (by kernel_rfl) (by kernel_rfl) (by kernel_rfl) (fun _ _ _ h => h) (Or.inr ⟨by rfl, rfl⟩) hS ?_
      simp only [Act.put, lsA, lsZ, lsS]
      refine take_at (i := 22) 45 (v := .bool true) rfl rfl (by kernel_rfl) (by kernel_rfl) (by kernel_rfl) (fun _ _ _ h => h) (Or.inl ⟨by rfl, fun w' hw' => by go_simp⟩) hS ?_
      simp only [Act.put, lsA, lsZ, lsS]
      refine take_at (i := 23) 46 (v := .bool true) rfl rfl (by kernel_rfl) (by kernel_rfl) (by kernel_rfl) (fun _ _ _ h => h) (Or.inl ⟨by rfl, fun w' hw' => by go_simp⟩) hS ?_
      simp only [Act.put, lsA, lsZ, lsS]
      refine take_at (i := 24) 47 (v := undef) rfl rfl (by kernel_rfl) (by kernel_rfl) (by kernel_rfl) (fun _ _ _ h => h) (Or.inr ⟨by rfl, rfl⟩) hS ?_
      simp only [Act.put, lsA, lsZ, lsS]
      refine take_at (i := 25) 48 (v := undef) rfl rfl (by kernel_rfl) (by kernel_rfl) (by kernel_rfl) (fun _ _ _ h => h) (Or.inr ⟨by rfl, rfl⟩) hS ?_
      simp only [Act.put, lsA, lsZ, lsS]
      refine take_at (i := 26) 49 (v := undef) rfl rfl (by kernel_rfl) (by kernel_rfl) (by kernel_rfl) (fun _ _ _ h => h) (Or.inr ⟨by rfl, rfl⟩) hS ?_
      simp only [Act.put, lsA, lsZ, lsS]
      refine take_at (i := 27) 50 (v := undef) rfl rfl (by kernel_rfl) (by kernel_rfl) (by kernel_rfl) (fun _ _ _ h => h) (Or.inr ⟨by rfl, rfl⟩) hS ?_
      simp only [Act.put, lsA, lsZ, lsS]
      refine take_at (i := 28) 51 (v := .bool true) rfl rfl (by kernel_rfl) (by kernel_rfl) (by kernel_rfl) (fun _ _ _ h => h) (Or.inl ⟨by rfl, fun w' hw' => by go_simp⟩) hS ?_
      simp only [Act.put, lsA, lsZ, lsS]
      refine take_at (i := 29) 52 (v := .bool true) rfl rfl (by kernel_rfl) (by kernel_rfl) (by kernel_rfl) (fun _ _ _ h => h) (Or.inl ⟨by rfl, fun w' hw' => by go_simp⟩) hS ?_
      simp only [Act.put, lsA, lsZ, lsS]
      refine take_at (i := 30) 53 (v := undef) rfl rfl (by kernel_rfl) (by kernel_rfl) (by kernel_rfl) (fun _ _ _ h => h) (Or.inr ⟨by rfl, rfl⟩) hS ?_
      simp only [Act.put, lsA, lsZ, lsS]
      refine take_at (i := 31) 54 (v := undef) rfl rfl (by kernel_rfl) (by kernel_rfl) (by kernel_rfl) (fun _ _ _ h => h) (Or.inr ⟨by rfl, rfl⟩) hS ?_
      simp only [Act.put, lsA, lsZ, lsS]
      refine take_at (i := 32) 55 (v := undef) rfl rfl (by kernel_rfl) (by kernel_rfl) (by kernel_rfl) (fun _ _ _ h => h) (Or.inr ⟨by rfl, rfl⟩) hS ?_
      simp only [Act.put, lsA, lsZ, lsS]
      refine take_at (i := 33) 56 (v := undef) rfl rfl (by kernel_rfl) (by kernel_rfl) (by kernel_rfl) (fun _ _ _ h => h) (Or.inr ⟨by rfl, rfl⟩) hS ?_
      simp only [Act.put, lsA, lsZ, lsS]
      refine take_at (i := 34) 57 (v := undef) rfl rfl (by kernel_rfl) (by kernel_rfl) (by kernel_rfl) (fun _ _ _ h => h) (Or.inr ⟨by rfl, rfl⟩) hS ?_
      simp only [Act.put, lsA, lsZ, lsS]
      refine take_at (i := 35) 58 (v := undef) rfl rfl (by kernel_rfl) (by kernel_rfl) (by kernel_rfl) (fun _ _ _ h => h) (Or.inr ⟨by rfl, rfl⟩) hS ?_
      simp only [Act.put, lsA, lsZ, lsS]
      refine take_at (i := 36) 59 (v := undef) rfl rfl (by kernel_rfl) (by kernel_rfl) (by kernel_rfl) (fun _ _ _ h => h) (Or.inr ⟨by rfl, rfl⟩) hS ?_
      simp only [Act.put, lsA, lsZ, lsS]
      refine take_at (i := 37) 60 (v := undef) rfl rfl (by kernel_rfl) (by kernel_rfl) (by kernel_rfl) (fun _ _ _ h => h) (Or.inr ⟨by rfl, rfl⟩) hS ?_
      simp only [Act.put, lsA, lsZ, lsS]
      refine take_at (i := 38) 61 (v := .bool true) rfl rfl (by kernel_rfl) (by kernel_rfl) (by kernel_rfl) (fun _ _ _ h => h) (Or.inl ⟨by rfl, fun w' hw' => by go_simp⟩) hS ?_
      simp only [Act.put, lsA, lsZ, lsS]
      refine wpAnyH_done (by kernel_rfl) ?_ _
      go_wp2_with fail
      go_ret
      refine ⟨?_, HO.out.trans hS (fun _ _ h => h)⟩
      rw [may_no (fun hM => by have := hM.cov v.abs (mem_cont hv); simp only [V.abs] at this; rw [hcov] at this; simp at this)]
      rfl
     ·refine wp_region_held_drew (S := fun w' => Off (fun _ => False) W w') (by kernel_rfl) ((Off.refl _ W).drew) (fun hS => ?_)
      by_cases hbig : 200 < v.data.length
      ·have d1 : decide ((200 : Int) < (v.data.length : Int)) = true := decide_eq_true (by omega)
       have d2 : decide (200 < v.data.length) = true := decide_eq_true (by omega)
       refine take_at (i := 0) 23 (v := .pointer (some ⟨w.heap.size, 0, none⟩)) rfl rfl (by kernel_rfl) (by kernel_rfl) (by kernel_rfl) (fun _ _ _ h => h) (Or.inl ⟨by rfl, fun w' hw' => by go_simp⟩) hS ?_
       simp only [Act.put, lsA, lsZ, lsS]
       refine take_at (i := 1) 24 (v := .agg #[.int .i64 (f 0), .int .i64 (f 1), .int .i64 (f 2), .int .i64 (f 3), .int .i64 (f 4), .int .i64 (f 5), .int .i64 (f 6), .int .i64 (f 7)]) rfl rfl (by kernel_rfl) (by kernel_rfl) (by kernel_rfl) (fun _ _ _ h => h) (Or.inl ⟨by rfl, fun w' hw' => by obtain ⟨x0, x1, x2, x3, x4, x5, x6, x7, x8⟩ := cel9 (CB.out.off hw' (fun h => h)); go_simp⟩) hS ?_
       simp only [Act.put, lsA, lsZ, lsS]
       refine take_at (i := 2) 25 (v := .pointer (some ⟨Z, 0, none⟩)) rfl rfl (by kernel_rfl) (by kernel_rfl) (by kernel_rfl) (fun _ _ _ h => h) (Or.inl ⟨by rfl, fun w' hw' => by go_simp⟩) hS ?_
       simp only [Act.put, lsA, lsZ, lsS]
       refine take_at (i := 3) 26 (v := .agg #[.int .i64 v.node, .int .i64 v.num]) rfl rfl (by kernel_rfl) (by kernel_rfl) (by kernel_rfl) (fun _ _ _ h => h) (Or.inl ⟨by rfl, fun w' hw' => by obtain ⟨x0, x1, x2, x3⟩ := cel4 (CV.out.off hw' (fun h => h)); go_simp⟩) hS ?_
       simp only [Act.put, lsA, lsZ, lsS]
       refine wpAnyH_ready (rs := [4]) (by kernel_rfl) (by simp) ?_
       refine AllReadyH.cons rfl (fun K' hK' => ?_) AllReadyH.nil
       go_simp
       refine (fcovers_any f _ _ _).mono ?_
       rw [hcov]
       rintro e v1 ⟨rfl, o1⟩
       refine hK'.out _ _ (hS.trans o1 (fun _ _ h => h)) (fun hS => ?_)
       clear hK' K' o1
       refine take_at (i := 5) 28 (v := .bool false) rfl rfl (by kernel_rfl) (by kernel_rfl) (by kernel_rfl) (fun _ _ _ h => h) (Or.inl ⟨by rfl, fun w' hw' => by go_simp⟩) hS ?_
       simp only [Act.put, lsA, lsZ, lsS]
       refine take_at (i := 6) 29 (v := .bool false) rfl rfl (by kernel_rfl) (by kernel_rfl) (by kernel_rfl) (fun _ _ _ h => h) (Or.inl ⟨by rfl, fun w' hw' => by go_simp⟩) hS ?_
       simp only [Act.put, lsA, lsZ, lsS]
       refine take_at (i := 7) 30 (v := .int .i64 (n : Int)) rfl rfl (by kernel_rfl) (by kernel_rfl) (by kernel_rfl) (fun _ _ _ h => h) (Or.inl ⟨by rfl, fun w' hw' => by go_simp⟩) hS ?_
       simp only [Act.put, lsA, lsZ, lsS]
       refine take_at (i := 8) 31 (v := .bool false) rfl rfl (by kernel_rfl) (by kernel_rfl) (by kernel_rfl) (fun _ _ _ h => h) (Or.inl ⟨by rfl, fun w' hw' => by go_simp⟩) hS ?_
       simp only [Act.put, lsA, lsZ, lsS]
       refine take_at (i := 9) 32 (v := .bool false) rfl rfl (by kernel_rfl) (by kernel_rfl) (by kernel_rfl) (fun _ _ _ h => h) (Or.inl ⟨by rfl, fun w' hw' => by go_simp⟩) hS ?_
       simp only [Act.put, lsA, lsZ, lsS]
       refine take_at (i := 10) 33 (v := undef) rfl rfl (by kernel_rfl) (by kernel_rfl) (by kernel_rfl) (fun _ _ _ h => h) (Or.inr ⟨by rfl, rfl⟩) hS ?_
       simp only [Act.put, lsA, lsZ, lsS]
       refine take_at (i := 11) 34 (v := undef) rfl rfl (by kernel_rfl) (by kernel_rfl) (by kernel_rfl) (fun _ _ _ h => h) (Or.inr ⟨by rfl, rfl⟩) hS ?_
       simp only [Act.put, lsA, lsZ, lsS]
       refine take_at (i := 12) 35 (v := undef) rfl rfl (by kernel_rfl) (by kernel_rfl) (by kernel_rfl) (fun _ _ _ h => h) (Or.inr ⟨by rfl, rfl⟩) hS ?_
       simp only [Act.put, lsA, lsZ, lsS]
       refine take_at (i := 13) 36 (v := undef) rfl rfl (by kernel_rfl) (by kernel_rfl) (by kernel_rfl) (fun _ _ _ h => h) (Or.inr ⟨by rfl, rfl⟩) hS ?_
       simp only [Act.put, lsA, lsZ, lsS]
       refine take_at (i := 14) 37 (v := undef) rfl rfl (by kernel_rfl) (by kernel_rfl) (by kernel_rfl) (fun _ _ _ h => h) (Or.inr ⟨by rfl, rfl⟩) hS ?_
       simp only [Act.put, lsA, lsZ, lsS]
       refine take_at (i := 15) 38 (v := undef) rfl rfl (by kernel_rfl) (by kernel_rfl) (by kernel_rfl) (fun _ _ _ h => h) (Or.inr ⟨by rfl, rfl⟩) hS ?_
       simp only [Act.put, lsA, lsZ, lsS]
       refine take_at (i := 16) 39 (v := undef) rfl rfl (by kernel_rfl) (by kernel_rfl) (by kernel_rfl) (fun _ _ _ h => h) (Or.inr ⟨by rfl, rfl⟩) hS ?_
       simp only [Act.put, lsA, lsZ, lsS]
       refine take_at (i := 17) 40 (v := undef) rfl rfl (by kernel_rfl) (by kernel_rfl) (by kernel_rfl) (fun _ _ _ h => h) (Or.inr ⟨by rfl, rfl⟩) hS ?_
       simp only [Act.put, lsA, lsZ, lsS]
       refine take_at (i := 18) 41 (v := undef) rfl rfl (by kernel_rfl) (by kernel_rfl) (by kernel_rfl) (fun _ _ _ h => h) (Or.inr ⟨by rfl, rfl⟩) hS ?_
       simp only [Act.put, lsA, lsZ, lsS]
       refine take_at (i := 19) 42 (v := undef) rfl rfl (by kernel_rfl) (by kernel_rfl) (by kernel_rfl) (fun _ _ _ h => h) (Or.inr ⟨by rfl, rfl⟩) hS ?_
       simp only [Act.put, lsA, lsZ, lsS]
       refine take_at (i := 20) 43 (v := undef) rfl rfl (by kernel_rfl) (by kernel_rfl) (by kernel_rfl) (fun _ _ _ h => h) (Or.inr ⟨by rfl, rfl⟩) hS ?_
       simp only [Act.put, lsA, lsZ, lsS]
       refine take_at (i := 21) 44 (v := .bool false) rfl rfl (by kernel_rfl) (by kernel_rfl) (by kernel_rfl) (fun _ _ _ h => h) (Or.inl ⟨by rfl, fun w' hw' => by go_simp⟩) hS ?_
       simp only [Act.put, lsA, lsZ, lsS]
       refine take_at (i := 22) 45 (v := .bool false) rfl rfl (by kernel_rfl) (by kernel_rfl) (by kernel_rfl) (fun _ _ _ h => h) (Or.inl ⟨by rfl, fun w' hw' => by go_simp⟩) hS ?_
       simp only [Act.put, lsA, lsZ, lsS]
       refine take_at (i := 23) 46 (v := .bool false) rfl rfl (by kernel_rfl) (by kernel_rfl) (by kernel_rfl) (fun _ _ _ h => h) (Or.inl ⟨by rfl, fun w' hw' => by go_simp⟩) hS ?_
       simp only [Act.put, lsA, lsZ, lsS]
       refine take_at (i := 24) 47 (v := .pointer (some ⟨Z, 2, none⟩)) rfl rfl (by kernel_rfl) (by kernel_rfl) (by kernel_rfl) (fun _ _ _ h => h) (Or.inl ⟨by rfl, fun w' hw' => by go_simp⟩) hS ?_
       simp only [Act.put, lsA, lsZ, lsS]
       refine take_at (i := 25) 48 (v := .slice v.ad v.data.length v.cap) rfl rfl (by kernel_rfl) (by kernel_rfl) (by kernel_rfl) (fun _ _ _ h => h) (Or.inl ⟨by rfl, fun w' hw' => by obtain ⟨x0, x1, x2, x3⟩ := cel4 (CV.out.off hw' (fun h => h)); go_simp⟩) hS ?_
       simp only [Act.put, lsA, lsZ, lsS]
       refine take_at (i := 26) 49 (v := .int .i64 (v.data.length : Int)) rfl rfl (by kernel_rfl) (by kernel_rfl) (by kernel_rfl) (fun _ _ _ h => h) (Or.inl ⟨by rfl, fun w' hw' => by go_simp⟩) hS ?_
       simp only [Act.put, lsA, lsZ, lsS]
       refine take_at (i := 27) 50 (v := .bool true) rfl rfl (by kernel_rfl) (by kernel_rfl) (by kernel_rfl) (fun _ _ _ h => h) (Or.inl ⟨by rfl, fun w' hw' => by go_simp⟩) hS ?_
       simp only [Act.put, lsA, lsZ, lsS]
       refine take_at (i := 28) 51 (v := .bool true) rfl rfl (by kernel_rfl) (by kernel_rfl) (by kernel_rfl) (fun _ _ _ h => h) (Or.inl ⟨by rfl, fun w' hw' => by go_simp⟩) hS ?_
       simp only [Act.put, lsA, lsZ, lsS]
       refine take_at (i := 29) 52 (v := .bool true) rfl rfl (by kernel_rfl) (by kernel_rfl) (by kernel_rfl) (fun _ _ _ h => h) (Or.inl ⟨by rfl, fun w' hw' => by go_simp⟩) hS ?_
       simp only [Act.put, lsA, lsZ, lsS]
       refine take_at (i := 30) 53 (v := undef) rfl rfl (by kernel_rfl) (by kernel_rfl) (by kernel_rfl) (fun _ _ _ h => h) (Or.inr ⟨by rfl, rfl⟩) hS ?_
       simp only [Act.put, lsA, lsZ, lsS]
       refine take_at (i := 31) 54 (v := undef) rfl rfl (by kernel_rfl) (by kernel_rfl) (by kernel_rfl) (fun _ _ _ h => h) (Or.inr ⟨by rfl, rfl⟩) hS ?_
       simp only [Act.put, lsA, lsZ, lsS]
       refine take_at (i := 32) 55 (v := undef) rfl rfl (by kernel_rfl) (by kernel_rfl) (by kernel_rfl) (fun _ _ _ h => h) (Or.inr ⟨by rfl, rfl⟩) hS ?_
       simp only [Act.put, lsA, lsZ, lsS]
       refine take_at (i := 33) 56 (v := undef) rfl rfl (by kernel_rfl) (by kernel_rfl) (by kernel_rfl) (fun _ _ _ h => h) (Or.inr ⟨by rfl, rfl⟩) hS ?_
       simp only [Act.put, lsA, lsZ, lsS]
       refine take_at (i := 34) 57 (v := undef) rfl rfl (by kernel_rfl) (by kernel_rfl) (by kernel_rfl) (fun _ _ _ h => h) (Or.inr ⟨by rfl, rfl⟩) hS ?_
       simp only [Act.put, lsA, lsZ, lsS]
       refine take_at (i := 35) 58 (v := undef) rfl rfl (by kernel_rfl) (by kernel_rfl) (by kernel_rfl) (fun _ _ _ h => h) (Or.inr ⟨by rfl, rfl⟩) hS ?_
       simp only [Act.put, lsA, lsZ, lsS]
       refine take_at (i := 36) 59 (v := undef) rfl rfl (by kernel_rfl) (by kernel_rfl) (by kernel_rfl) (fun _ _ _ h => h) (Or.inr ⟨by rfl, rfl⟩) hS ?_
       simp only [Act.put, lsA, lsZ, lsS]
       refine take_at (i := 37) 60 (v := undef) rfl rfl (by kernel_rfl) (by kernel_rfl) (by kernel_rfl) (fun _ _ _ h => h) (Or.inr ⟨by rfl, rfl⟩) hS ?_
       simp only [Act.put, lsA, lsZ, lsS]
       refine take_at (i := 38) 61 (v := .bool true) rfl rfl (by kernel_rfl) (by kernel_rfl) (by kernel_rfl) (fun _ _ _ h => h) (Or.inl ⟨by rfl, fun w' hw' => by go_simp⟩) hS ?_
       simp only [Act.put, lsA, lsZ, lsS]
       refine wpAnyH_done (by kernel_rfl) ?_ _
       go_wp2_with fail
       go_ret
       refine ⟨?_, HO.out.trans hS (fun _ _ h => h)⟩
       rw [may_no (fun hM => by have := (hM.cov v.abs (mem_cont hv)).2; simp only [V.abs, ok_big hbig] at this; cases this)]
       rfl
      ·have d1 : decide ((200 : Int) < (v.data.length : Int)) = false := decide_eq_false (by omega)
       have d2 : decide (200 < v.data.length) = false := decide_eq_false (by omega)
       cases hdd : v.dead
       ·refine take_at (i := 0) 23 (v := .pointer (some ⟨w.heap.size, 0, none⟩)) rfl rfl (by kernel_rfl) (by kernel_rfl) (by kernel_rfl) (fun _ _ _ h => h) (Or.inl ⟨by rfl, fun w' hw' => by go_simp⟩) hS ?_
        simp only [Act.put, lsA, lsZ, lsS]
        refine take_at (i := 1) 24 (v := .agg #[.int .i64 (f 0), .int .i64 (f 1), .int .i64 (f 2), .int .i64 (f 3), .int .i64 (f 4), .int .i64 (f 5), .int .i64 (f 6), .int .i64 (f 7)]) rfl rfl (by kernel_rfl) (by kernel_rfl) (by kernel_rfl) (fun _ _ _ h => h) (Or.inl ⟨by rfl, fun w' hw' => by obtain ⟨x0, x1, x2, x3, x4, x5, x6, x7, x8⟩ := cel9 (CB.out.off hw' (fun h => h)); go_simp⟩) hS ?_
        simp only [Act.put, lsA, lsZ, lsS]
        refine take_at (i := 2) 25 (v := .pointer (some ⟨Z, 0, none⟩)) rfl rfl (by kernel_rfl) (by kernel_rfl) (by kernel_rfl) (fun _ _ _ h => h) (Or.inl ⟨by rfl, fun w' hw' => by go_simp⟩) hS ?_
        simp only [Act.put, lsA, lsZ, lsS]
        refine take_at (i := 3) 26 (v := .agg #[.int .i64 v.node, .int .i64 v.num]) rfl rfl (by kernel_rfl) (by kernel_rfl) (by kernel_rfl) (fun _ _ _ h => h) (Or.inl ⟨by rfl, fun w' hw' => by obtain ⟨x0, x1, x2, x3⟩ := cel4 (CV.out.off hw' (fun h => h)); go_simp⟩) hS ?_
        simp only [Act.put, lsA, lsZ, lsS]
        refine wpAnyH_ready (rs := [4]) (by kernel_rfl) (by simp) ?_
        refine AllReadyH.cons rfl (fun K' hK' => ?_) AllReadyH.nil
        go_simp
        refine (fcovers_any f _ _ _).mono ?_
        rw [hcov]
        rintro e v1 ⟨rfl, o1⟩
        refine hK'.out _ _ (hS.trans o1 (fun _ _ h => h)) (fun hS => ?_)
        clear hK' K' o1
        refine take_at (i := 5) 28 (v := .bool false) rfl rfl (by kernel_rfl) (by kernel_rfl) (by kernel_rfl) (fun _ _ _ h => h) (Or.inl ⟨by rfl, fun w' hw' => by go_simp⟩) hS ?_
        simp only [Act.put, lsA, lsZ, lsS]
        refine take_at (i := 6) 29 (v := .bool false) rfl rfl (by kernel_rfl) (by kernel_rfl) (by kernel_rfl) (fun _ _ _ h => h) (Or.inl ⟨by rfl, fun w' hw' => by go_simp⟩) hS ?_
        simp only [Act.put, lsA, lsZ, lsS]
        refine take_at (i := 7) 30 (v := .int .i64 (n : Int)) rfl rfl (by kernel_rfl) (by kernel_rfl) (by kernel_rfl) (fun _ _ _ h => h) (Or.inl ⟨by rfl, fun w' hw' => by go_simp⟩) hS ?_
        simp only [Act.put, lsA, lsZ, lsS]
        refine take_at (i := 8) 31 (v := .bool false) rfl rfl (by kernel_rfl) (by kernel_rfl) (by kernel_rfl) (fun _ _ _ h => h) (Or.inl ⟨by rfl, fun w' hw' => by go_simp⟩) hS ?_
        simp only [Act.put, lsA, lsZ, lsS]
        refine take_at (i := 9) 32 (v := .bool false) rfl rfl (by kernel_rfl) (by kernel_rfl) (by kernel_rfl) (fun _ _ _ h => h) (Or.inl ⟨by rfl, fun w' hw' => by go_simp⟩) hS ?_
        simp only [Act.put, lsA, lsZ, lsS]
        refine take_at (i := 10) 33 (v := undef) rfl rfl (by kernel_rfl) (by kernel_rfl) (by kernel_rfl) (fun _ _ _ h => h) (Or.inr ⟨by rfl, rfl⟩) hS ?_
        simp only [Act.put, lsA, lsZ, lsS]
        refine take_at (i := 11) 34 (v := undef) rfl rfl (by kernel_rfl) (by kernel_rfl) (by kernel_rfl) (fun _ _ _ h => h) (Or.inr ⟨by rfl, rfl⟩) hS ?_
        simp only [Act.put, lsA, lsZ, lsS]
        refine take_at (i := 12) 35 (v := undef) rfl rfl (by kernel_rfl) (by kernel_rfl) (by kernel_rfl) (fun _ _ _ h => h) (Or.inr ⟨by rfl, rfl⟩) hS ?_
        simp only [Act.put, lsA, lsZ, lsS]
        refine take_at (i := 13) 36 (v := undef) rfl rfl (by kernel_rfl) (by kernel_rfl) (by kernel_rfl) (fun _ _ _ h => h) (Or.inr ⟨by rfl, rfl⟩) hS ?_
        simp only [Act.put, lsA, lsZ, lsS]
        refine take_at (i := 14) 37 (v := undef) rfl rfl (by kernel_rfl) (by kernel_rfl) (by kernel_rfl) (fun _ _ _ h => h) (Or.inr ⟨by rfl, rfl⟩) hS ?_
        simp only [Act.put, lsA, lsZ, lsS]
        refine take_at (i := 15) 38 (v := undef) rfl rfl (by kernel_rfl) (by kernel_rfl) (by kernel_rfl) (fun _ _ _ h => h) (Or.inr ⟨by rfl, rfl⟩) hS ?_
        simp only [Act.put, lsA, lsZ, lsS]
        refine take_at (i := 16) 39 (v := undef) rfl rfl (by kernel_rfl) (by kernel_rfl) (by kernel_rfl) (fun _ _ _ h => h) (Or.inr ⟨by rfl, rfl⟩) hS ?_
        simp only [Act.put, lsA, lsZ, lsS]
        refine take_at (i := 17) 40 (v := undef) rfl rfl (by kernel_rfl) (by kernel_rfl) (by kernel_rfl) (fun _ _ _ h => h) (Or.inr ⟨by rfl, rfl⟩) hS ?_
        simp only [Act.put, lsA, lsZ, lsS]
        refine take_at (i := 18) 41 (v := undef) rfl rfl (by kernel_rfl) (by kernel_rfl) (by kernel_rfl) (fun _ _ _ h => h) (Or.inr ⟨by rfl, rfl⟩) hS ?_
        simp only [Act.put, lsA, lsZ, lsS]
        refine take_at (i := 19) 42 (v := undef) rfl rfl (by kernel_rfl) (by kernel_rfl) (by kernel_rfl) (fun _ _ _ h => h) (Or.inr ⟨by rfl, rfl⟩) hS ?_
        simp only [Act.put, lsA, lsZ, lsS]
        refine take_at (i := 20) 43 (v := undef) rfl rfl (by kernel_rfl) (by kernel_rfl) (by kernel_rfl) (fun _ _ _ h => h) (Or.inr ⟨by rfl, rfl⟩) hS ?_
        simp only [Act.put, lsA, lsZ, lsS]
        refine take_at (i := 21) 44 (v := .bool false) rfl rfl (by kernel_rfl) (by kernel_rfl) (by kernel_rfl) (fun _ _ _ h => h) (Or.inl ⟨by rfl, fun w' hw' => by go_simp⟩) hS ?_
        simp only [Act.put, lsA, lsZ, lsS]
        refine take_at (i := 22) 45 (v := .bool false) rfl rfl (by kernel_rfl) (by kernel_rfl) (by kernel_rfl) (fun _ _ _ h => h) (Or.inl ⟨by rfl, fun w' hw' => by go_simp⟩) hS ?_
        simp only [Act.put, lsA, lsZ, lsS]
        refine take_at (i := 23) 46 (v := .bool false) rfl rfl (by kernel_rfl) (by kernel_rfl) (by kernel_rfl) (fun _ _ _ h => h) (Or.inl ⟨by rfl, fun w' hw' => by go_simp⟩) hS ?_
        simp only [Act.put, lsA, lsZ, lsS]
        refine take_at (i := 24) 47 (v := .pointer (some ⟨Z, 2, none⟩)) rfl rfl (by kernel_rfl) (by kernel_rfl) (by kernel_rfl) (fun _ _ _ h => h) (Or.inl ⟨by rfl, fun w' hw' => by go_simp⟩) hS ?_
        simp only [Act.put, lsA, lsZ, lsS]
        refine take_at (i := 25) 48 (v := .slice v.ad v.data.length v.cap) rfl rfl (by kernel_rfl) (by kernel_rfl) (by kernel_rfl) (fun _ _ _ h => h) (Or.inl ⟨by rfl, fun w' hw' => by obtain ⟨x0, x1, x2, x3⟩ := cel4 (CV.out.off hw' (fun h => h)); go_simp⟩) hS ?_
        simp only [Act.put, lsA, lsZ, lsS]
        refine take_at (i := 26) 49 (v := .int .i64 (v.data.length : Int)) rfl rfl (by kernel_rfl) (by kernel_rfl) (by kernel_rfl) (fun _ _ _ h => h) (Or.inl ⟨by rfl, fun w' hw' => by go_simp⟩) hS ?_
        simp only [Act.put, lsA, lsZ, lsS]
        refine take_at (i := 27) 50 (v := .bool false) rfl rfl (by kernel_rfl) (by kernel_rfl) (by kernel_rfl) (fun _ _ _ h => h) (Or.inl ⟨by rfl, fun w' hw' => by go_simp⟩) hS ?_
        simp only [Act.put, lsA, lsZ, lsS]
        refine take_at (i := 28) 51 (v := .bool false) rfl rfl (by kernel_rfl) (by kernel_rfl) (by kernel_rfl) (fun _ _ _ h => h) (Or.inl ⟨by rfl, fun w' hw' => by go_simp⟩) hS ?_
        simp only [Act.put, lsA, lsZ, lsS]
        refine take_at (i := 29) 52 (v := .bool false) rfl rfl (by kernel_rfl) (by kernel_rfl) (by kernel_rfl) (fun _ _ _ h => h) (Or.inl ⟨by rfl, fun w' hw' => by go_simp⟩) hS ?_
        simp only [Act.put, lsA, lsZ, lsS]
        refine take_at (i := 30) 53 (v := .pointer (some ⟨Z, 3, none⟩)) rfl rfl (by kernel_rfl) (by kernel_rfl) (by kernel_rfl) (fun _ _ _ h => h) (Or.inl ⟨by rfl, fun w' hw' => by go_simp⟩) hS ?_
        simp only [Act.put, lsA, lsZ, lsS]
        refine take_at (i := 31) 54 (v := .bool false) rfl rfl (by kernel_rfl) (by kernel_rfl) (by kernel_rfl) (fun _ _ _ h => h) (Or.inl ⟨by rfl, fun w' hw' => by obtain ⟨x0, x1, x2, x3⟩ := cel4 (CV.out.off hw' (fun h => h)); rw [hdd] at x3; go_simp⟩) hS ?_
        simp only [Act.put, lsA, lsZ, lsS]
        refine take_at (i := 32) 55 (v := .bool false) rfl rfl (by kernel_rfl) (by kernel_rfl) (by kernel_rfl) (fun _ _ _ h => h) (Or.inl ⟨by rfl, fun w' hw' => by go_simp⟩) hS ?_
        simp only [Act.put, lsA, lsZ, lsS]
        refine take_at (i := 33) 56 (v := undef) rfl rfl (by kernel_rfl) (by kernel_rfl) (by kernel_rfl) (fun _ _ _ h => h) (Or.inr ⟨by rfl, rfl⟩) hS ?_
        simp only [Act.put, lsA, lsZ, lsS]
        refine take_at (i := 34) 57 (v := undef) rfl rfl (by kernel_rfl) (by kernel_rfl) (by kernel_rfl) (fun _ _ _ h => h) (Or.inr ⟨by rfl, rfl⟩) hS ?_
        simp only [Act.put, lsA, lsZ, lsS]
        refine take_at (i := 35) 58 (v := undef) rfl rfl (by kernel_rfl) (by kernel_rfl) (by kernel_rfl) (fun _ _ _ h => h) (Or.inr ⟨by rfl, rfl⟩) hS ?_
        simp only [Act.put, lsA, lsZ, lsS]
        refine take_at (i := 36) 59 (v := undef) rfl rfl (by kernel_rfl) (by kernel_rfl) (by kernel_rfl) (fun _ _ _ h => h) (Or.inr ⟨by rfl, rfl⟩) hS ?_
        simp only [Act.put, lsA, lsZ, lsS]
        refine take_at (i := 37) 60 (v := .bool false) rfl rfl (by kernel_rfl) (by kernel_rfl) (by kernel_rfl) (fun _ _ _ h => h) (Or.inl ⟨by rfl, fun w' hw' => by go_simp⟩) hS ?_
        simp only [Act.put, lsA, lsZ, lsS]
        refine take_at (i := 38) 61 (v := .bool false) rfl rfl (by kernel_rfl) (by kernel_rfl) (by kernel_rfl) (fun _ _ _ h => h) (Or.inl ⟨by rfl, fun w' hw' => by go_simp⟩) hS ?_
        simp only [Act.put, lsA, lsZ, lsS]
        refine wpAnyH_done (by kernel_rfl) ?_ _
        have hok : okData v.data.length v.dead = true := by rw [hdd]; exact ok_small (by omega)
        go_wp2_with fail
        go_roundw
        case rel =>
         refine ⟨n + 1, by go_num, by omega, ?_, HO.out.trans hS (fun _ _ h => h), CB.out.off hS (fun h => h), HR.out.off hS⟩
         exact HG.out.step hv (by simp only [V.abs]; exact ⟨hcov, hok⟩) (fun i u h => by have := HN0.out; omega)
        case measure => simp [intOf]; omega
       ·by_cases hz : v.data.length = 0
        ·have d3 : decide ((0 : Int) < (v.data.length : Int)) = false := decide_eq_false (by omega)
         have d4 : decide (0 < v.data.length) = false := decide_eq_false (by omega)
         have HZ : Hid _ := hz
         clear hz
         refine take_at (i := 0) 23 (v := .pointer (some ⟨w.heap.size, 0, none⟩)) rfl rfl (by kernel_rfl) (by kernel_rfl) (by kernel_rfl) (fun _ _ _ h => h) (Or.inl ⟨by rfl, fun w' hw' => by go_simp⟩) hS ?_
         simp only [Act.put, lsA, lsZ, lsS]
         refine take_at (i := 1) 24 (v := .agg #[.int .i64 (f 0), .int .i64 (f 1), .int .i64 (f 2), .int .i64 (f 3), .int .i64 (f 4), .int .i64 (f 5), .int .i64 (f 6), .int .i64 (f 7)]) rfl rfl (by kernel_rfl) (by kernel_rfl) (by kernel_rfl) (fun _ _ _ h => h) (Or.inl ⟨by rfl, fun w' hw' => by obtain ⟨x0, x1, x2, x3, x4, x5, x6, x7, x8⟩ := cel9 (CB.out.off hw' (fun h => h)); go_simp⟩) hS ?_
         simp only [Act.put, lsA, lsZ, lsS]
         refine take_at (i := 2) 25 (v := .pointer (some ⟨Z, 0, none⟩)) rfl rfl (by kernel_rfl) (by kernel_rfl) (by kernel_rfl) (fun _ _ _ h => h) (Or.inl ⟨by rfl, fun w' hw' => by go_simp⟩) hS ?_
         simp only [Act.put, lsA, lsZ, lsS]
         refine take_at (i := 3) 26 (v := .agg #[.int .i64 v.node, .int .i64 v.num]) rfl rfl (by kernel_rfl) (by kernel_rfl) (by kernel_rfl) (fun _ _ _ h => h) (Or.inl ⟨by rfl, fun w' hw' => by obtain ⟨x0, x1, x2, x3⟩ := cel4 (CV.out.off hw' (fun h => h)); go_simp⟩) hS ?_
         simp only [Act.put, lsA, lsZ, lsS]
         refine wpAnyH_ready (rs := [4]) (by kernel_rfl) (by simp) ?_
         refine AllReadyH.cons rfl (fun K' hK' => ?_) AllReadyH.nil
         go_simp
         refine (fcovers_any f _ _ _).mono ?_
         rw [hcov]
         rintro e v1 ⟨rfl, o1⟩
         refine hK'.out _ _ (hS.trans o1 (fun _ _ h => h)) (fun hS => ?_)
         clear hK' K' o1
         refine take_at (i := 5) 28 (v := .bool false) rfl rfl (by kernel_rfl) (by kernel_rfl) (by kernel_rfl) (fun _ _ _ h => h) (Or.inl ⟨by rfl, fun w' hw' => by go_simp⟩) hS ?_
         simp only [Act.put, lsA, lsZ, lsS]
         refine take_at (i := 6) 29 (v := .bool false) rfl rfl (by kernel_rfl) (by kernel_rfl) (by kernel_rfl) (fun _ _ _ h => h) (Or.inl ⟨by rfl, fun w' hw' => by go_simp⟩) hS ?_
         simp only [Act.put, lsA, lsZ, lsS]
         refine take_at (i := 7) 30 (v := .int .i64 (n : Int)) rfl rfl (by kernel_rfl) (by kernel_rfl) (by kernel_rfl) (fun _ _ _ h => h) (Or.inl ⟨by rfl, fun w' hw' => by go_simp⟩) hS ?_
         simp only [Act.put, lsA, lsZ, lsS]
         refine take_at (i := 8) 31 (v := .bool false) rfl rfl (by kernel_rfl) (by kernel_rfl) (by kernel_rfl) (fun _ _ _ h => h) (Or.inl ⟨by rfl, fun w' hw' => by go_simp⟩) hS ?_
         simp only [Act.put, lsA, lsZ, lsS]
         refine take_at (i := 9) 32 (v := .bool false) rfl rfl (by kernel_rfl) (by kernel_rfl) (by kernel_rfl) (fun _ _ _ h => h) (Or.inl ⟨by rfl, fun w' hw' => by go_simp⟩) hS ?_
         simp only [Act.put, lsA, lsZ, lsS]
         refine take_at (i := 10) 33 (v := undef) rfl rfl (by kernel_rfl) (by kernel_rfl) (by kernel_rfl) (fun _ _ _ h => h) (Or.inr ⟨by rfl, rfl⟩) hS ?_
         simp only [Act.put, lsA, lsZ, lsS]
         refine take_at (i := 11) 34 (v := undef) rfl rfl (by kernel_rfl) (by kernel_rfl) (by kernel_rfl) (fun _ _ _ h => h) (Or.inr ⟨by rfl, rfl⟩) hS ?_
         simp only [Act.put, lsA, lsZ, lsS]
         refine take_at (i := 12) 35 (v := undef) rfl rfl (by kernel_rfl) (by kernel_rfl) (by kernel_rfl) (fun _ _ _ h => h) (Or.inr ⟨by rfl, rfl⟩) hS ?_
         simp only [Act.put, lsA, lsZ, lsS]
         refine take_at (i := 13) 36 (v := undef) rfl rfl (by kernel_rfl) (by kernel_rfl) (by kernel_rfl) (fun _ _ _ h => h) (Or.inr ⟨by rfl, rfl⟩) hS ?_
         simp only [Act.put, lsA, lsZ, lsS]
         refine take_at (i := 14) 37 (v := undef) rfl rfl (by kernel_rfl) (by kernel_rfl) (by kernel_rfl) (fun _ _ _ h => h) (Or.inr ⟨by rfl, rfl⟩) hS ?_
         simp only [Act.put, lsA, lsZ, lsS]
         refine take_at (i := 15) 38 (v := undef) rfl rfl (by kernel_rfl) (by kernel_rfl) (by kernel_rfl) (fun _ _ _ h => h) (Or.inr ⟨by rfl, rfl⟩) hS ?_
         simp only [Act.put, lsA, lsZ, lsS]
         refine take_at (i := 16) 39 (v := undef) rfl rfl (by kernel_rfl) (by kernel_rfl) (by kernel_rfl) (fun _ _ _ h => h) (Or.inr ⟨by rfl, rfl⟩) hS ?_
         simp only [Act.put, lsA, lsZ, lsS]
         refine take_at (i := 17) 40 (v := undef) rfl rfl (by kernel_rfl) (by kernel_rfl) (by kernel_rfl) (fun _ _ _ h => h) (Or.inr ⟨by rfl, rfl⟩) hS ?_
         simp only [Act.put, lsA, lsZ, lsS]
         refine take_at (i := 18) 41 (v := undef) rfl rfl (by kernel_rfl) (by kernel_rfl) (by kernel_rfl) (fun _ _ _ h => h) (Or.inr ⟨by rfl, rfl⟩) hS ?_
         simp only [Act.put, lsA, lsZ, lsS]
         refine take_at (i := 19) 42 (v := undef) rfl rfl (by kernel_rfl) (by kernel_rfl) (by kernel_rfl) (fun _ _ _ h => h) (Or.inr ⟨by rfl, rfl⟩) hS ?_
         simp only [Act.put, lsA, lsZ, lsS]
         refine take_at (i := 20) 43 (v := undef) rfl rfl (by kernel_rfl) (by kernel_rfl) (by kernel_rfl) (fun _ _ _ h => h) (Or.inr ⟨by rfl, rfl⟩) hS ?_
         simp only [Act.put, lsA, lsZ, lsS]
         refine take_at (i := 21) 44 (v := .bool false) rfl rfl (by kernel_rfl) (by kernel_rfl) (by kernel_rfl) (fun _ _ _ h => h) (Or.inl ⟨by rfl, fun w' hw' => by go_simp⟩) hS ?_
         simp only [Act.put, lsA, lsZ, lsS]
         refine take_at (i := 22) 45 (v := .bool false) rfl rfl (by kernel_rfl) (by kernel_rfl) (by kernel_rfl) (fun _ _ _ h => h) (Or.inl ⟨by rfl, fun w' hw' => by go_simp⟩) hS ?_
         simp only [Act.put, lsA, lsZ, lsS]
         refine take_at (i := 23) 46 (v := .bool false) rfl rfl (by kernel_rfl) (by kernel_rfl) (by kernel_rfl) (fun _ _ _ h => h) (Or.inl ⟨by rfl, fun w' hw' => by go_simp⟩) hS ?_
         simp only [Act.put, lsA, lsZ, lsS]
         refine take_at (i := 24) 47 (v := .pointer (some ⟨Z, 2, none⟩)) rfl rfl (by kernel_rfl) (by kernel_rfl) (by kernel_rfl) (fun _ _ _ h => h) (Or.inl ⟨by rfl, fun w' hw' => by go_simp⟩) hS ?_
         simp only [Act.put, lsA, lsZ, lsS]
         refine take_at (i := 25) 48 (v := .slice v.ad v.data.length v.cap) rfl rfl (by kernel_rfl) (by kernel_rfl) (by kernel_rfl) (fun _ _ _ h => h) (Or.inl ⟨by rfl, fun w' hw' => by obtain ⟨x0, x1, x2, x3⟩ := cel4 (CV.out.off hw' (fun h => h)); go_simp⟩) hS ?_
         simp only [Act.put, lsA, lsZ, lsS]
         refine take_at (i := 26) 49 (v := .int .i64 (v.data.length : Int)) rfl rfl (by kernel_rfl) (by kernel_rfl) (by kernel_rfl) (fun _ _ _ h => h) (Or.inl ⟨by rfl, fun w' hw' => by go_simp⟩) hS ?_
         simp only [Act.put, lsA, lsZ, lsS]
         refine take_at (i := 27) 50 (v := .bool false) rfl rfl (by kernel_rfl) (by kernel_rfl) (by kernel_rfl) (fun _ _ _ h => h) (Or.inl ⟨by rfl, fun w' hw' => by go_simp⟩) hS ?_
         simp only [Act.put, lsA, lsZ, lsS]
         refine take_at (i := 28) 51 (v := .bool false) rfl rfl (by kernel_rfl) (by kernel_rfl) (by kernel_rfl) (fun _ _ _ h => h) (Or.inl ⟨by rfl, fun w' hw' => by go_simp⟩) hS ?_
         simp only [Act.put, lsA, lsZ, lsS]
         refine take_at (i := 29) 52 (v := .bool false) rfl rfl (by kernel_rfl) (by kernel_rfl) (by kernel_rfl) (fun _ _ _ h => h) (Or.inl ⟨by rfl, fun w' hw' => by go_simp⟩) hS ?_
         simp only [Act.put, lsA, lsZ, lsS]
         refine take_at (i := 30) 53 (v := .pointer (some ⟨Z, 3, none⟩)) rfl rfl (by kernel_rfl) (by kernel_rfl) (by kernel_rfl) (fun _ _ _ h => h) (Or.inl ⟨by rfl, fun w' hw' => by go_simp⟩) hS ?_
         simp only [Act.put, lsA, lsZ, lsS]
         refine take_at (i := 31) 54 (v := .bool true) rfl rfl (by kernel_rfl) (by kernel_rfl) (by kernel_rfl) (fun _ _ _ h => h) (Or.inl ⟨by rfl, fun w' hw' => by obtain ⟨x0, x1, x2, x3⟩ := cel4 (CV.out.off hw' (fun h => h)); rw [hdd] at x3; go_simp⟩) hS ?_
         simp only [Act.put, lsA, lsZ, lsS]
         refine take_at (i := 32) 55 (v := .bool true) rfl rfl (by kernel_rfl) (by kernel_rfl) (by kernel_rfl) (fun _ _ _ h => h) (Or.inl ⟨by rfl, fun w' hw' => by go_simp⟩) hS ?_
         simp only [Act.put, lsA, lsZ, lsS]
         refine take_at (i := 33) 56 (v := .pointer (some ⟨Z, 2, none⟩)) rfl rfl (by kernel_rfl) (by kernel_rfl) (by kernel_rfl) (fun _ _ _ h => h) (Or.inl ⟨by rfl, fun w' hw' => by go_simp⟩) hS ?_
         simp only [Act.put, lsA, lsZ, lsS]
         refine take_at (i := 34) 57 (v := .slice v.ad v.data.length v.cap) rfl rfl (by kernel_rfl) (by kernel_rfl) (by kernel_rfl) (fun _ _ _ h => h) (Or.inl ⟨by rfl, fun w' hw' => by obtain ⟨x0, x1, x2, x3⟩ := cel4 (CV.out.off hw' (fun h => h)); go_simp⟩) hS ?_
         simp only [Act.put, lsA, lsZ, lsS]
         refine take_at (i := 35) 58 (v := .int .i64 (v.data.length : Int)) rfl rfl (by kernel_rfl) (by kernel_rfl) (by kernel_rfl) (fun _ _ _ h => h) (Or.inl ⟨by rfl, fun w' hw' => by go_simp⟩) hS ?_
         simp only [Act.put, lsA, lsZ, lsS]
         refine take_at (i := 36) 59 (v := .bool false) rfl rfl (by kernel_rfl) (by kernel_rfl) (by kernel_rfl) (fun _ _ _ h => h) (Or.inl ⟨by rfl, fun w' hw' => by go_simp⟩) hS ?_
         simp only [Act.put, lsA, lsZ, lsS]
         refine take_at (i := 37) 60 (v := .bool false) rfl rfl (by kernel_rfl) (by kernel_rfl) (by kernel_rfl) (fun _ _ _ h => h) (Or.inl ⟨by rfl, fun w' hw' => by go_simp⟩) hS ?_
         simp only [Act.put, lsA, lsZ, lsS]
         refine take_at (i := 38) 61 (v := .bool false) rfl rfl (by kernel_rfl) (by kernel_rfl) (by kernel_rfl) (fun _ _ _ h => h) (Or.inl ⟨by rfl, fun w' hw' => by go_simp⟩) hS ?_
         simp only [Act.put, lsA, lsZ, lsS]
         refine wpAnyH_done (by kernel_rfl) ?_ _
         have hok : okData v.data.length v.dead = true := by rw [hdd]; exact ok_zero HZ.out
         go_wp2_with fail
         go_roundw
         case rel =>
          refine ⟨n + 1, by go_num, by omega, ?_, HO.out.trans hS (fun _ _ h => h), CB.out.off hS (fun h => h), HR.out.off hS⟩
          exact HG.out.step hv (by simp only [V.abs]; exact ⟨hcov, hok⟩) (fun i u h => by have := HN0.out; omega)
         case measure => simp [intOf]; omega
        ·have d3 : decide ((0 : Int) < (v.data.length : Int)) = true := decide_eq_true (by omega)
         have d4 : decide (0 < v.data.length) = true := decide_eq_true (by omega)
         refine take_at (i := 0) 23 (v := .pointer (some ⟨w.heap.size, 0, none⟩)) rfl rfl (by kernel_rfl) (by kernel_rfl) (by kernel_rfl) (fun _ _ _ h => h) (Or.inl ⟨by rfl, fun w' hw' => by go_simp⟩) hS ?_
         simp only [Act.put, lsA, lsZ, lsS]
         refine take_at (i := 1) 24 (v := .agg #[.int .i64 (f 0), .int .i64 (f 1), .int .i64 (f 2), .int .i64 (f 3), .int .i64 (f 4), .int .i64 (f 5), .int .i64 (f 6), .int .i64 (f 7)]) rfl rfl (by kernel_rfl) (by kernel_rfl) (by kernel_rfl) (fun _ _ _ h => h) (Or.inl ⟨by rfl, fun w' hw' => by obtain ⟨x0, x1, x2, x3, x4, x5, x6, x7, x8⟩ := cel9 (CB.out.off hw' (fun h => h)); go_simp⟩) hS ?_
         simp only [Act.put, lsA, lsZ, lsS]
         refine take_at (i := 2) 25 (v := .pointer (some ⟨Z, 0, none⟩)) rfl rfl (by kernel_rfl) (by kernel_rfl) (by kernel_rfl) (fun _ _ _ h => h) (Or.inl ⟨by rfl, fun w' hw' => by go_simp⟩) hS ?_
         simp only [Act.put, lsA, lsZ, lsS]
         refine take_at (i := 3) 26 (v := .agg #[.int .i64 v.node, .int .i64 v.num]) rfl rfl (by kernel_rfl) (by kernel_rfl) (by kernel_rfl) (fun _ _ _ h => h) (Or.inl ⟨by rfl, fun w' hw' => by obtain ⟨x0, x1, x2, x3⟩ := cel4 (CV.out.off hw' (fun h => h)); go_simp⟩) hS ?_
         simp only [Act.put, lsA, lsZ, lsS]
         refine wpAnyH_ready (rs := [4]) (by kernel_rfl) (by simp) ?_
         refine AllReadyH.cons rfl (fun K' hK' => ?_) AllReadyH.nil
         go_simp
         refine (fcovers_any f _ _ _).mono ?_
         rw [hcov]
         rintro e v1 ⟨rfl, o1⟩
         refine hK'.out _ _ (hS.trans o1 (fun _ _ h => h)) (fun hS => ?_)
         clear hK' K' o1
         refine take_at (i := 5) 28 (v := .bool false) rfl rfl (by kernel_rfl) (by kernel_rfl) (by kernel_rfl) (fun _ _ _ h => h) (Or.inl ⟨by rfl, fun w' hw' => by go_simp⟩) hS ?_
         simp only [Act.put, lsA, lsZ, lsS]
         refine take_at (i := 6) 29 (v := .bool false) rfl rfl (by kernel_rfl) (by kernel_rfl) (by kernel_rfl) (fun _ _ _ h => h) (Or.inl ⟨by rfl, fun w' hw' => by go_simp⟩) hS ?_
         simp only [Act.put, lsA, lsZ, lsS]
         refine take_at (i := 7) 30 (v := .int .i64 (n : Int)) rfl rfl (by kernel_rfl) (by kernel_rfl) (by kernel_rfl) (fun _ _ _ h => h) (Or.inl ⟨by rfl, fun w' hw' => by go_simp⟩) hS ?_
         simp only [Act.put, lsA, lsZ, lsS]
         refine take_at (i := 8) 31 (v := .bool false) rfl rfl (by kernel_rfl) (by kernel_rfl) (by kernel_rfl) (fun _ _ _ h => h) (Or.inl ⟨by rfl, fun w' hw' => by go_simp⟩) hS ?_
         simp only [Act.put, lsA, lsZ, lsS]
         refine take_at (i := 9) 32 (v := .bool false) rfl rfl (by kernel_rfl) (by kernel_rfl) (by kernel_rfl) (fun _ _ _ h => h) (Or.inl ⟨by rfl, fun w' hw' => by go_simp⟩) hS ?_
         simp only [Act.put, lsA, lsZ, lsS]
         refine take_at (i := 10) 33 (v := undef) rfl rfl (by kernel_rfl) (by kernel_rfl) (by kernel_rfl) (fun _ _ _ h => h) (Or.inr ⟨by rfl, rfl⟩) hS ?_
         simp only [Act.put, lsA, lsZ, lsS]
         refine take_at (i := 11) 34 (v := undef) rfl rfl (by kernel_rfl) (by kernel_rfl) (by kernel_rfl) (fun _ _ _ h => h) (Or.inr ⟨by rfl, rfl⟩) hS ?_
         simp only [Act.put, lsA, lsZ, lsS]
         refine take_at (i := 12) 35 (v := undef) rfl rfl (by kernel_rfl) (by kernel_rfl) (by kernel_rfl) (fun _ _ _ h => h) (Or.inr ⟨by rfl, rfl⟩) hS ?_
         simp only [Act.put, lsA, lsZ, lsS]
         refine take_at (i := 13) 36 (v := undef) rfl rfl (by kernel_rfl) (by kernel_rfl) (by kernel_rfl) (fun _ _ _ h => h) (Or.inr ⟨by rfl, rfl⟩) hS ?_
         simp only [Act.put, lsA, lsZ, lsS]
         refine take_at (i := 14) 37 (v := undef) rfl rfl (by kernel_rfl) (by kernel_rfl) (by kernel_rfl) (fun _ _ _ h => h) (Or.inr ⟨by rfl, rfl⟩) hS ?_
         simp only [Act.put, lsA, lsZ, lsS]
         refine take_at (i := 15) 38 (v := undef) rfl rfl (by kernel_rfl) (by kernel_rfl) (by kernel_rfl) (fun _ _ _ h => h) (Or.inr ⟨by rfl, rfl⟩) hS ?_
         simp only [Act.put, lsA, lsZ, lsS]
         refine take_at (i := 16) 39 (v := undef) rfl rfl (by kernel_rfl) (by kernel_rfl) (by kernel_rfl) (fun _ _ _ h => h) (Or.inr ⟨by rfl, rfl⟩) hS ?_
         simp only [Act.put, lsA, lsZ, lsS]
         refine take_at (i := 17) 40 (v := undef) rfl rfl (by kernel_rfl) (by kernel_rfl) (by kernel_rfl) (fun _ _ _ h => h) (Or.inr ⟨by rfl, rfl⟩) hS ?_
         simp only [Act.put, lsA, lsZ, lsS]
         refine take_at (i := 18) 41 (v := undef) rfl rfl (by kernel_rfl) (by kernel_rfl) (by kernel_rfl) (fun _ _ _ h => h) (Or.inr ⟨by rfl, rfl⟩) hS ?_
         simp only [Act.put, lsA, lsZ, lsS]
         refine take_at (i := 19) 42 (v := undef) rfl rfl (by kernel_rfl) (by kernel_rfl) (by kernel_rfl) (fun _ _ _ h => h) (Or.inr ⟨by rfl, rfl⟩) hS ?_
         simp only [Act.put, lsA, lsZ, lsS]
         refine take_at (i := 20) 43 (v := undef) rfl rfl (by kernel_rfl) (by kernel_rfl) (by kernel_rfl) (fun _ _ _ h => h) (Or.inr ⟨by rfl, rfl⟩) hS ?_
         simp only [Act.put, lsA, lsZ, lsS]
         refine take_at (i := 21) 44 (v := .bool false) rfl rfl (by kernel_rfl) (by kernel_rfl) (by kernel_rfl) (fun _ _ _ h => h) (Or.inl ⟨by rfl, fun w' hw' => by go_simp⟩) hS ?_
         simp only [Act.put, lsA, lsZ, lsS]
         refine take_at (i := 22) 45 (v := .bool false) rfl rfl (by kernel_rfl) (by kernel_rfl) (by kernel_rfl) (fun _ _ _ h => h) (Or.inl ⟨by rfl, fun w' hw' => by go_simp⟩) hS ?_
         simp only [Act.put, lsA, lsZ, lsS]
         refine take_at (i := 23) 46 (v := .bool false) rfl rfl (by kernel_rfl) (by kernel_rfl) (by kernel_rfl) (fun _ _ _ h => h) (Or.inl ⟨by rfl, fun w' hw' => by go_simp⟩) hS ?_
         simp only [Act.put, lsA, lsZ, lsS]
         refine take_at (i := 24) 47 (v := .pointer (some ⟨Z, 2, none⟩)) rfl rfl (by kernel_rfl) (by kernel_rfl) (by kernel_rfl) (fun _ _ _ h => h) (Or.inl ⟨by rfl, fun w' hw' => by go_simp⟩) hS ?_
         simp only [Act.put, lsA, lsZ, lsS]
         refine take_at (i := 25) 48 (v := .slice v.ad v.data.length v.cap) rfl rfl (by kernel_rfl) (by kernel_rfl) (by kernel_rfl) (fun _ _ _ h => h) (Or.inl ⟨by rfl, fun w' hw' => by obtain ⟨x0, x1, x2, x3⟩ := cel4 (CV.out.off hw' (fun h => h)); go_simp⟩) hS ?_
         simp only [Act.put, lsA, lsZ, lsS]
         refine take_at (i := 26) 49 (v := .int .i64 (v.data.length : Int)) rfl rfl (by kernel_rfl) (by kernel_rfl) (by kernel_rfl) (fun _ _ _ h => h) (Or.inl ⟨by rfl, fun w' hw' => by go_simp⟩) hS ?_
         simp only [Act.put, lsA, lsZ, lsS]
         refine take_at (i := 27) 50 (v := .bool false) rfl rfl (by kernel_rfl) (by kernel_rfl) (by kernel_rfl) (fun _ _ _ h => h) (Or.inl ⟨by rfl, fun w' hw' => by go_simp⟩) hS ?_
         simp only [Act.put, lsA, lsZ, lsS]
         refine take_at (i := 28) 51 (v := .bool false) rfl rfl (by kernel_rfl) (by kernel_rfl) (by kernel_rfl) (fun _ _ _ h => h) (Or.inl ⟨by rfl, fun w' hw' => by go_simp⟩) hS ?_
         simp only [Act.put, lsA, lsZ, lsS]
         refine take_at (i := 29) 52 (v := .bool false) rfl rfl (by kernel_rfl) (by kernel_rfl) (by kernel_rfl) (fun _ _ _ h => h) (Or.inl ⟨by rfl, fun w' hw' => by go_simp⟩) hS ?_
         simp only [Act.put, lsA, lsZ, lsS]
         refine take_at (i := 30) 53 (v := .pointer (some ⟨Z, 3, none⟩)) rfl rfl (by kernel_rfl) (by kernel_rfl) (by kernel_rfl) (fun _ _ _ h => h) (Or.inl ⟨by rfl, fun w' hw' => by go_simp⟩) hS ?_
         simp only [Act.put, lsA, lsZ, lsS]
         refine take_at (i := 31) 54 (v := .bool true) rfl rfl (by kernel_rfl) (by kernel_rfl) (by kernel_rfl) (fun _ _ _ h => h) (Or.inl ⟨by rfl, fun w' hw' => by obtain ⟨x0, x1, x2, x3⟩ := cel4 (CV.out.off hw' (fun h => h)); rw [hdd] at x3; go_simp⟩) hS ?_
         simp only [Act.put, lsA, lsZ, lsS]
         refine take_at (i := 32) 55 (v := .bool true) rfl rfl (by kernel_rfl) (by kernel_rfl) (by kernel_rfl) (fun _ _ _ h => h) (Or.inl ⟨by rfl, fun w' hw' => by go_simp⟩) hS ?_
         simp only [Act.put, lsA, lsZ, lsS]
         refine take_at (i := 33) 56 (v := .pointer (some ⟨Z, 2, none⟩)) rfl rfl (by kernel_rfl) (by kernel_rfl) (by kernel_rfl) (fun _ _ _ h => h) (Or.inl ⟨by rfl, fun w' hw' => by go_simp⟩) hS ?_
         simp only [Act.put, lsA, lsZ, lsS]
         refine take_at (i := 34) 57 (v := .slice v.ad v.data.length v.cap) rfl rfl (by kernel_rfl) (by kernel_rfl) (by kernel_rfl) (fun _ _ _ h => h) (Or.inl ⟨by rfl, fun w' hw' => by obtain ⟨x0, x1, x2, x3⟩ := cel4 (CV.out.off hw' (fun h => h)); go_simp⟩) hS ?_
         simp only [Act.put, lsA, lsZ, lsS]
         refine take_at (i := 35) 58 (v := .int .i64 (v.data.length : Int)) rfl rfl (by kernel_rfl) (by kernel_rfl) (by kernel_rfl) (fun _ _ _ h => h) (Or.inl ⟨by rfl, fun w' hw' => by go_simp⟩) hS ?_
         simp only [Act.put, lsA, lsZ, lsS]
         refine take_at (i := 36) 59 (v := .bool true) rfl rfl (by kernel_rfl) (by kernel_rfl) (by kernel_rfl) (fun _ _ _ h => h) (Or.inl ⟨by rfl, fun w' hw' => by go_simp⟩) hS ?_
         simp only [Act.put, lsA, lsZ, lsS]
         refine take_at (i := 37) 60 (v := .bool true) rfl rfl (by kernel_rfl) (by kernel_rfl) (by kernel_rfl) (fun _ _ _ h => h) (Or.inl ⟨by rfl, fun w' hw' => by go_simp⟩) hS ?_
         simp only [Act.put, lsA, lsZ, lsS]
         refine take_at (i := 38) 61 (v := .bool true) rfl rfl (by kernel_rfl) (by kernel_rfl) (by kernel_rfl) (fun _ _ _ h => h) (Or.inl ⟨by rfl, fun w' hw' => by go_simp⟩) hS ?_
         simp only [Act.put, lsA, lsZ, lsS]
         refine wpAnyH_done (by kernel_rfl) ?_ _
         go_wp2_with fail
         go_ret
         refine ⟨?_, HO.out.trans hS (fun _ _ h => h)⟩
         rw [may_no (fun hM => by have := (hM.cov v.abs (mem_cont hv)).2; simp only [V.abs, hdd, ok_dead hz] at this; cases this)]
         rfl
    ·obtain ⟨m, hm1⟩ : ∃ m, n = m + 1 := ⟨n - 1, by omega⟩
     have e5 : decide ((0 : Int) < (n : Int)) = true := decide_eq_true (by omega)
     have e6 : decide (0 < n) = true := decide_eq_true (by omega)
     obtain ⟨u, hu⟩ : ∃ u, l[m]? = some u := ⟨_, List.getElem?_eq_getElem (by omega)⟩
     obtain ⟨b', off', eb, p, -⟩ := hr1.at_ m u hu
     simp only [Option.some.injEq, Addr.mk.injEq, and_true] at eb
     obtain ⟨rfl, rfl⟩ := eb
     have hw2 : IntKind.i64.wrap ((n : Int) - 1) = (m : Int) := by
      rw [show (n : Int) - 1 = (m : Int) by omega]
      have := hr1.bound
      have := hr1.len
      exact wrap64 (by omega) (by omega)
     have hpp := p.off ((Off.refl (fun _ => False) wr).alloc (.cells #[.int .i64 v.node, .int .i64 v.num, .slice v.ad v.data.length v.cap, .bool v.dead] 92)) (fun _ h => h)
     have e3 : decide ((m : Int) < (l.length : Int)) = true := decide_eq_true (by omega)
     have e4 : decide (m < l.length) = true := decide_eq_true (by omega)
     have HM1 : Hid _ := hm1
     have hml : m < l.length := by omega
     clear p hm1 hn0
     go_wp2_with fail
     have C1 := Cel.new wr 92 #[.int .i64 v.node, .int .i64 v.num, .slice v.ad v.data.length v.cap, .bool v.dead]
     have CB1 := cb.alloc (.cells #[.int .i64 v.node, .int .i64 v.num, .slice v.ad v.data.length v.cap, .bool v.dead] 92)
     have R1 := hr1.off ((Off.refl _ wr).alloc (.cells #[.int .i64 v.node, .int .i64 v.num, .slice v.ad v.data.length v.cap, .bool v.dead] 92))
     have O1 := O.alloc (.cells #[.int .i64 v.node, .int .i64 v.num, .slice v.ad v.data.length v.cap, .bool v.dead] 92)
     have := k.off ((Off.refl (fun _ => False) wr).alloc (.cells #[.int .i64 v.node, .int .i64 v.num, .slice v.ad v.data.length v.cap, .bool v.dead] 92)) (fun _ h => h)
     generalize hZ : wr.heap.size = Z at C1 ⊢
     generalize hW : wr.alloc (.cells #[.int .i64 v.node, .int .i64 v.num, .slice v.ad v.data.length v.cap, .bool v.dead] 92) = W at C1 CB1 R1 O1 hpp ⊢
     have CV : Hid _ := C1
     have CB : Hid _ := CB1
     have HR : Hid _ := R1
     have HO : Hid _ := O1
     clear C1 CB1 R1 O1 cb hr1 O hZ hW k0 k1 k2 k3 k
     have HP : Hid (At4 W b (off + m * 4) u) := hpp
     clear hpp
     cases hcov : coversB f v.node v.num
     ·refine wp_region_held_drew (S := fun w' => Off (fun _ => False) W w') (by kernel_rfl) ((Off.refl _ W).drew) (fun hS => ?_)
      refine take_at (i := 0) 23 (v := .pointer (some ⟨w.heap.size, 0, none⟩)) rfl rfl (by kernel_rfl) (by kernel_rfl) (by kernel_rfl) (fun _ _ _ h => h) (Or.inl ⟨by rfl, fun w' hw' => by go_simp⟩) hS ?_
      simp only [Act.put, lsA, lsZ, lsS]
      refine take_at (i := 1) 24 (v := .agg #[.int .i64 (f 0), .int .i64 (f 1), .int .i64 (f 2), .int .i64 (f 3), .int .i64 (f 4), .int .i64 (f 5), .int .i64 (f 6), .int .i64 (f 7)]) rfl rfl (by kernel_rfl) (by kernel_rfl) (by kernel_rfl) (fun _ _ _ h => h) (Or.inl ⟨by rfl, fun w' hw' => by obtain ⟨x0, x1, x2, x3, x4, x5, x6, x7, x8⟩ := cel9 (CB.out.off hw' (fun h => h)); go_simp⟩) hS ?_
      simp only [Act.put, lsA, lsZ, lsS]
      refine take_at (i := 2) 25 (v := .pointer (some ⟨Z, 0, none⟩)) rfl rfl (by kernel_rfl) (by kernel_rfl) (by kernel_rfl) (fun _ _ _ h => h) (Or.inl ⟨by rfl, fun w' hw' => by go_simp⟩) hS ?_
      simp only [Act.put, lsA, lsZ, lsS]
      refine take_at (i := 3) 26 (v := .agg #[.int .i64 v.node, .int .i64 v.num]) rfl rfl (by kernel_rfl) (by kernel_rfl) (by kernel_rfl) (fun _ _ _ h => h) (Or.inl ⟨by rfl, fun w' hw' => by obtain ⟨x0, x1, x2, x3⟩ := cel4 (CV.out.off hw' (fun h => h)); go_simp⟩) hS ?_
      simp only [Act.put, lsA, lsZ, lsS]
      refine wpAnyH_ready (rs := [4]) (by kernel_rfl) (by simp) ?_
      refine AllReadyH.cons rfl (fun K' hK' => ?_) AllReadyH.nil
      go_simp
      refine (fcovers_any f _ _ _).mono ?_
      rw [hcov]
      rintro e v1 ⟨rfl, o1⟩
      refine hK'.out _ _ (hS.trans o1 (fun _ _ h => h)) (fun hS => ?_)
      clear hK' K' o1
      refine take_at (i := 5) 28 (v := .bool true) rfl rfl (by kernel_rfl) (by kernel_rfl) (by kernel_rfl) (fun _ _ _ h => h) (Or.inl ⟨by rfl, fun w' hw' => by go_simp⟩) hS ?_
      simp only [Act.put, lsA, lsZ, lsS]
      refine take_at (i := 6) 29 (v := .bool true) rfl rfl (by kernel_rfl) (by kernel_rfl) (by kernel_rfl) (fun _ _ _ h => h) (Or.inl ⟨by rfl, fun w' hw' => by go_simp⟩) hS ?_
      simp only [Act.put, lsA, lsZ, lsS]
      refine take_at (i := 7) 30 (v := undef) rfl rfl (by kernel_rfl) (by kernel_rfl) (by kernel_rfl) (fun _ _ _ h => h) (Or.inr ⟨by rfl, rfl⟩) hS ?_
      simp only [Act.put, lsA, lsZ, lsS]
      refine take_at (i := 8) 31 (v := undef) rfl rfl (by kernel_rfl) (by kernel_rfl) (by kernel_rfl) (fun _ _ _ h => h) (Or.inr ⟨by rfl, rfl⟩) hS ?_
      simp only [Act.put, lsA, lsZ, lsS]
      refine take_at (i := 9) 32 (v := undef) rfl rfl (by kernel_rfl) (by kernel_rfl) (by kernel_rfl) (fun _ _ _ h => h) (Or.inr ⟨by rfl, rfl⟩) hS ?_
      simp only [Act.put, lsA, lsZ, lsS]
      refine take_at (i := 10) 33 (v := undef) rfl rfl (by kernel_rfl) (by kernel_rfl) (by kernel_rfl) (fun _ _ _ h => h) (Or.inr ⟨by rfl, rfl⟩) hS ?_
      simp only [Act.put, lsA, lsZ, lsS]
      refine take_at (i := 11) 34 (v := undef) rfl rfl (by kernel_rfl) (by kernel_rfl) (by kernel_rfl) (fun _ _ _ h => h) (Or.inr ⟨by rfl, rfl⟩) hS ?_
      simp only [Act.put, lsA, lsZ, lsS]
      refine take_at (i := 12) 35 (v := undef) rfl rfl (by kernel_rfl) (by kernel_rfl) (by kernel_rfl) (fun _ _ _ h => h) (Or.inr ⟨by rfl, rfl⟩) hS ?_
      simp only [Act.put, lsA, lsZ, lsS]
      refine take_at (i := 13) 36 (v := undef) rfl rfl (by kernel_rfl) (by kernel_rfl) (by kernel_rfl) (fun _ _ _ h => h) (Or.inr ⟨by rfl, rfl⟩) hS ?_
      simp only [Act.put, lsA, lsZ, lsS]
      refine take_at (i := 14) 37 (v := undef) rfl rfl (by kernel_rfl) (by kernel_rfl) (by kernel_rfl) (fun _ _ _ h => h) (Or.inr ⟨by rfl, rfl⟩) hS ?_
      simp only [Act.put, lsA, lsZ, lsS]
      refine take_at (i := 15) 38 (v := undef) rfl rfl (by kernel_rfl) (by kernel_rfl) (by kernel_rfl) (fun _ _ _ h => h) (Or.inr ⟨by rfl, rfl⟩) hS ?_
      simp only [Act.put, lsA, lsZ, lsS]
      refine take_at (i := 16) 39 (v := undef) rfl rfl (by kernel_rfl) (by kernel_rfl) (by kernel_rfl) (fun _ _ _ h => h) (Or.inr ⟨by rfl, rfl⟩) hS ?_
      simp only [Act.put, lsA, lsZ, lsS]
      refine take_at (i := 17) 40 (v := undef) rfl rfl (by kernel_rfl) (by kernel_rfl) (by kernel_rfl) (fun _ _ _ h => h) (Or.inr ⟨by rfl, rfl⟩) hS ?_
      simp only [Act.put, lsA, lsZ, lsS]
      refine take_at (i := 18) 41 (v := undef) rfl rfl (by kernel_rfl) (by kernel_rfl) (by kernel_rfl) (fun _ _ _ h => h) (Or.inr ⟨by rfl, rfl⟩) hS ?_
      simp only [Act.put, lsA, lsZ, lsS]
      refine take_at (i := 19) 42 (v := undef) rfl rfl (by kernel_rfl) (by kernel_rfl) (by kernel_rfl) (fun _ _ _ h => h) (Or.inr ⟨by rfl, rfl⟩) hS ?_
      simp only [Act.put, lsA, lsZ, lsS]
      refine take_at (i := 20) 43 (v := undef) rfl rfl (by kernel_rfl) (by kernel_rfl) (by kernel_rfl) (fun _ _ _ h => h) (Or.inr ⟨by rfl, rfl⟩) hS ?_
      simp only [Act.put, lsA, lsZ, lsS]
      refine take_at (i := 21) 44 (v := undef) rfl rfl (by kernel_rfl) (by kernel_rfl) (by kernel_rfl) (fun _ _ _ h => h) (Or.inr ⟨by rfl, rfl⟩) hS ?_
      simp only [Act.put, lsA, lsZ, lsS]
      refine take_at (i := 22) 45 (v := .bool true) rfl rfl (by kernel_rfl) (by kernel_rfl) (by kernel_rfl) (fun _ _ _ h => h) (Or.inl ⟨by rfl, fun w' hw' => by go_simp⟩) hS ?_
      simp only [Act.put, lsA, lsZ, lsS]
      refine take_at (i := 23) 46 (v := .bool true) rfl rfl (by kernel_rfl) (by kernel_rfl) (by kernel_rfl) (fun _ _ _ h => h) (Or.inl ⟨by rfl, fun w' hw' => by go_simp⟩) hS ?_
      simp only [Act.put, lsA, lsZ, lsS]
      refine take_at (i := 24) 47 (v := undef) rfl rfl (by kernel_rfl) (by kernel_rfl) (by kernel_rfl) (fun _ _ _ h => h) (Or.inr ⟨by rfl, rfl⟩) hS ?_
      simp only [Act.put, lsA, lsZ, lsS]
      refine take_at (i := 25) 48 (v := undef) rfl rfl (by kernel_rfl) (by kernel_rfl) (by kernel_rfl) (fun _ _ _ h => h) (Or.inr ⟨by rfl, rfl⟩) hS ?_
      simp only [Act.put, lsA, lsZ, lsS]
      refine take_at (i := 26) 49 (v := undef) rfl rfl (by kernel_rfl) (by kernel_rfl) (by kernel_rfl) (fun _ _ _ h => h) (Or.inr ⟨by rfl, rfl⟩) hS ?_
      simp only [Act.put, lsA, lsZ, lsS]
      refine take_at (i := 27) 50 (v := undef) rfl rfl (by kernel_rfl) (by kernel_rfl) (by kernel_rfl) (fun _ _ _ h => h) (Or.inr ⟨by rfl, rfl⟩) hS ?_
      simp only [Act.put, lsA, lsZ, lsS]
      refine take_at (i := 28) 51 (v := .bool true) rfl rfl (by kernel_rfl) (by kernel_rfl) (by kernel_rfl) (fun _ _ _ h => h) (Or.inl ⟨by rfl, fun w' hw' => by go_simp⟩) hS ?_
      simp only [Act.put, lsA, lsZ, lsS]
      refine take_at (i := 29) 52 (v := .bool true) rfl rfl (by kernel_rfl) (by kernel_rfl) (by kernel_rfl) (fun _ _ _ h => h) (Or.inl ⟨by rfl, fun w' hw' => by go_simp⟩) hS ?_
      simp only [Act.put, lsA, lsZ, lsS]
      refine take_at (i := 30) 53 (v := undef) rfl rfl (by kernel_rfl) (by kernel_rfl) (by kernel_rfl) (fun _ _ _ h => h) (Or.inr ⟨by rfl, rfl⟩) hS ?_
      simp only [Act.put, lsA, lsZ, lsS]
      refine take_at (i := 31) 54 (v := undef) rfl rfl (by kernel_rfl) (by kernel_rfl) (by kernel_rfl) (fun _ _ _ h => h) (Or.inr ⟨by rfl, rfl⟩) hS ?_
      simp only [Act.put, lsA, lsZ, lsS]
      refine take_at (i := 32) 55 (v := undef) rfl rfl (by kernel_rfl) (by kernel_rfl) (by kernel_rfl) (fun _ _ _ h => h) (Or.inr ⟨by rfl, rfl⟩) hS ?_
      simp only [Act.put, lsA, lsZ, lsS]
      refine take_at (i := 33) 56 (v := undef) rfl rfl (by kernel_rfl) (by kernel_rfl) (by kernel_rfl) (fun _ _ _ h => h) (Or.inr ⟨by rfl, rfl⟩) hS ?_
      simp only [Act.put, lsA, lsZ, lsS]
      refine take_at (i := 34) 57 (v := undef) rfl rfl (by kernel_rfl) (by kernel_rfl) (by kernel_rfl) (fun _ _ _ h => h) (Or.inr ⟨by rfl, rfl⟩) hS ?_
      simp only [Act.put, lsA, lsZ, lsS]
      refine take_at (i := 35) 58 (v := undef) rfl rfl (by kernel_rfl) (by kernel_rfl) (by kernel_rfl) (fun _ _ _ h => h) (Or.inr ⟨by rfl, rfl⟩) hS ?_
      simp only [Act.put, lsA, lsZ, lsS]
      refine take_at (i := 36) 59 (v := undef) rfl rfl (by kernel_rfl) (by kernel_rfl) (by kernel_rfl) (fun _ _ _ h => h) (Or.inr ⟨by rfl, rfl⟩) hS ?_
      simp only [Act.put, lsA, lsZ, lsS]
      refine take_at (i := 37) 60 (v := undef) rfl rfl (by kernel_rfl) (by kernel_rfl) (by kernel_rfl) (fun _ _ _ h => h) (Or.inr ⟨by rfl, rfl⟩) hS ?_
      simp only [Act.put, lsA, lsZ, lsS]
      refine take_at (i := 38) 61 (v := .bool true) rfl rfl (by kernel_rfl) (by kernel_rfl) (by kernel_rfl) (fun _ _ _ h => h) (Or.inl ⟨by rfl, fun w' hw' => by go_simp⟩) hS ?_
      simp only [Act.put, lsA, lsZ, lsS]
      refine wpAnyH_done (by kernel_rfl) ?_ _
      go_wp2_with fail
      go_ret
      refine ⟨?_, HO.out.trans hS (fun _ _ h => h)⟩
      rw [may_no (fun hM => by have := hM.cov v.abs (mem_cont hv); simp only [V.abs] at this; rw [hcov] at this; simp at this)]
      rfl
     ·cases hls : lessB u.node u.num v.node v.num
      ·refine wp_region_held_drew (S := fun w' => Off (fun _ => False) W w') (by kernel_rfl) ((Off.refl _ W).drew) (fun hS => ?_)
       refine take_at (i := 0) 23 (v := .pointer (some ⟨w.heap.size, 0, none⟩)) rfl rfl (by kernel_rfl) (by kernel_rfl) (by kernel_rfl) (fun _ _ _ h => h) (Or.inl ⟨by rfl, fun w' hw' => by go_simp⟩) hS ?_
       simp only [Act.put, lsA, lsZ, lsS]
       refine take_at (i := 1) 24 (v := .agg #[.int .i64 (f 0), .int .i64 (f 1), .int .i64 (f 2), .int .i64 (f 3), .int .i64 (f 4), .int .i64 (f 5), .int .i64 (f 6), .int .i64 (f 7)]) rfl rfl (by kernel_rfl) (by kernel_rfl) (by kernel_rfl) (fun _ _ _ h => h) (Or.inl ⟨by rfl, fun w' hw' => by obtain ⟨x0, x1, x2, x3, x4, x5, x6, x7, x8⟩ := cel9 (CB.out.off hw' (fun h => h)); go_simp⟩) hS ?_
       simp only [Act.put, lsA, lsZ, lsS]
       refine take_at (i := 2) 25 (v := .pointer (some ⟨Z, 0, none⟩)) rfl rfl (by kernel_rfl) (by kernel_rfl) (by kernel_rfl) (fun _ _ _ h => h) (Or.inl ⟨by rfl, fun w' hw' => by go_simp⟩) hS ?_
       simp only [Act.put, lsA, lsZ, lsS]
       refine take_at (i := 3) 26 (v := .agg #[.int .i64 v.node, .int .i64 v.num]) rfl rfl (by kernel_rfl) (by kernel_rfl) (by kernel_rfl) (fun _ _ _ h => h) (Or.inl ⟨by rfl, fun w' hw' => by obtain ⟨x0, x1, x2, x3⟩ := cel4 (CV.out.off hw' (fun h => h)); go_simp⟩) hS ?_
       simp only [Act.put, lsA, lsZ, lsS]
       refine wpAnyH_ready (rs := [4]) (by kernel_rfl) (by simp) ?_
       refine AllReadyH.cons rfl (fun K' hK' => ?_) AllReadyH.nil
       go_simp
       refine (fcovers_any f _ _ _).mono ?_
       rw [hcov]
       rintro e v1 ⟨rfl, o1⟩
       refine hK'.out _ _ (hS.trans o1 (fun _ _ h => h)) (fun hS => ?_)
       clear hK' K' o1
       refine take_at (i := 5) 28 (v := .bool false) rfl rfl (by kernel_rfl) (by kernel_rfl) (by kernel_rfl) (fun _ _ _ h => h) (Or.inl ⟨by rfl, fun w' hw' => by go_simp⟩) hS ?_
       simp only [Act.put, lsA, lsZ, lsS]
       refine take_at (i := 6) 29 (v := .bool false) rfl rfl (by kernel_rfl) (by kernel_rfl) (by kernel_rfl) (fun _ _ _ h => h) (Or.inl ⟨by rfl, fun w' hw' => by go_simp⟩) hS ?_
       simp only [Act.put, lsA, lsZ, lsS]
       refine take_at (i := 7) 30 (v := .int .i64 (n : Int)) rfl rfl (by kernel_rfl) (by kernel_rfl) (by kernel_rfl) (fun _ _ _ h => h) (Or.inl ⟨by rfl, fun w' hw' => by go_simp⟩) hS ?_
       simp only [Act.put, lsA, lsZ, lsS]
       refine take_at (i := 8) 31 (v := .bool true) rfl rfl (by kernel_rfl) (by kernel_rfl) (by kernel_rfl) (fun _ _ _ h => h) (Or.inl ⟨by rfl, fun w' hw' => by go_simp⟩) hS ?_
       simp only [Act.put, lsA, lsZ, lsS]
       refine take_at (i := 9) 32 (v := .bool true) rfl rfl (by kernel_rfl) (by kernel_rfl) (by kernel_rfl) (fun _ _ _ h => h) (Or.inl ⟨by rfl, fun w' hw' => by go_simp⟩) hS ?_
       simp only [Act.put, lsA, lsZ, lsS]
       refine take_at (i := 10) 33 (v := .pointer (some ⟨w.heap.size, 8, none⟩)) rfl rfl (by kernel_rfl) (by kernel_rfl) (by kernel_rfl) (fun _ _ _ h => h) (Or.inl ⟨by rfl, fun w' hw' => by go_simp⟩) hS ?_
       simp only [Act.put, lsA, lsZ, lsS]
       refine take_at (i := 11) 34 (v := .slice (some ⟨b, off, none⟩) l.length cap) rfl rfl (by kernel_rfl) (by kernel_rfl) (by kernel_rfl) (fun _ _ _ h => h) (Or.inl ⟨by rfl, fun w' hw' => by have x8 := (CB.out.off hw' (fun h => h)).cell 8; simp at x8; go_simp⟩) hS ?_
       simp only [Act.put, lsA, lsZ, lsS]
       refine take_at (i := 12) 35 (v := .int .i64 (n : Int)) rfl rfl (by kernel_rfl) (by kernel_rfl) (by kernel_rfl) (fun _ _ _ h => h) (Or.inl ⟨by rfl, fun w' hw' => by go_simp⟩) hS ?_
       simp only [Act.put, lsA, lsZ, lsS]
       refine take_at (i := 13) 36 (v := .int .i64 (m : Int)) rfl rfl (by kernel_rfl) (by kernel_rfl) (by kernel_rfl) (fun _ _ _ h => h) (Or.inl ⟨by rfl, fun w' hw' => by go_simp⟩) hS ?_
       simp only [Act.put, lsA, lsZ, lsS]
       refine take_at (i := 14) 37 (v := .pointer (some ⟨b, off + m * 4, none⟩)) rfl rfl (by kernel_rfl) (by kernel_rfl) (by kernel_rfl) (fun _ _ _ h => h) (Or.inl ⟨by rfl, fun w' hw' => by go_simp⟩) hS ?_
       simp only [Act.put, lsA, lsZ, lsS]
       refine take_at (i := 15) 38 (v := .pointer (some ⟨b, off + m * 4, none⟩)) rfl rfl (by kernel_rfl) (by kernel_rfl) (by kernel_rfl) (fun _ _ _ h => h) (Or.inl ⟨by rfl, fun w' hw' => by go_simp⟩) hS ?_
       simp only [Act.put, lsA, lsZ, lsS]
       refine take_at (i := 16) 39 (v := .agg #[.int .i64 u.node, .int .i64 u.num]) rfl rfl (by kernel_rfl) (by kernel_rfl) (by kernel_rfl) (fun _ _ _ h => h) (Or.inl ⟨by rfl, fun w' hw' => by obtain ⟨x0, x1, x2, x3⟩ := HP.out.off hw' (fun _ h => h); go_simp⟩) hS ?_
       simp only [Act.put, lsA, lsZ, lsS]
       refine take_at (i := 17) 40 (v := .pointer (some ⟨Z, 0, none⟩)) rfl rfl (by kernel_rfl) (by kernel_rfl) (by kernel_rfl) (fun _ _ _ h => h) (Or.inl ⟨by rfl, fun w' hw' => by go_simp⟩) hS ?_
       simp only [Act.put, lsA, lsZ, lsS]
       refine take_at (i := 18) 41 (v := .agg #[.int .i64 v.node, .int .i64 v.num]) rfl rfl (by kernel_rfl) (by kernel_rfl) (by kernel_rfl) (fun _ _ _ h => h) (Or.inl ⟨by rfl, fun w' hw' => by obtain ⟨x0, x1, x2, x3⟩ := cel4 (CV.out.off hw' (fun h => h)); go_simp⟩) hS ?_
       simp only [Act.put, lsA, lsZ, lsS]
       refine wpAnyH_ready (rs := [19]) (by kernel_rfl) (by simp) ?_
       refine AllReadyH.cons rfl (fun K' hK' => ?_) AllReadyH.nil
       go_simp
       refine (fless_any _ _ _ _ _).mono ?_
       rw [hls]
       rintro e v1 ⟨rfl, o1⟩
       refine hK'.out _ _ (hS.trans o1 (fun _ _ h => h)) (fun hS => ?_)
       clear hK' K' o1
       refine take_at (i := 20) 43 (v := .bool true) rfl rfl (by kernel_rfl) (by kernel_rfl) (by kernel_rfl) (fun _ _ _ h => h) (Or.inl ⟨by rfl, fun w' hw' => by go_simp⟩) hS ?_
       simp only [Act.put, lsA, lsZ, lsS]
       refine take_at (i := 21) 44 (v := .bool true) rfl rfl (by kernel_rfl) (by kernel_rfl) (by kernel_rfl) (fun _ _ _ h => h) (Or.inl ⟨by rfl, fun w' hw' => by go_simp⟩) hS ?_
       simp only [Act.put, lsA, lsZ, lsS]
       refine take_at (i := 22) 45 (v := .bool true) rfl rfl (by kernel_rfl) (by kernel_rfl) (by kernel_rfl) (fun _ _ _ h => h) (Or.inl ⟨by rfl, fun w' hw' => by go_simp⟩) hS ?_
       simp only [Act.put, lsA, lsZ, lsS]
       refine take_at (i := 23) 46 (v := .bool true) rfl rfl (by kernel_rfl) (by kernel_rfl) (by kernel_rfl) (fun _ _ _ h => h) (Or.inl ⟨by rfl, fun w' hw' => by go_simp⟩) hS ?_
       simp only [Act.put, lsA, lsZ, lsS]
       refine take_at (i := 24) 47 (v := undef) rfl rfl (by kernel_rfl) (by kernel_rfl) (by kernel_rfl) (fun _ _ _ h => h) (Or.inr ⟨by rfl, rfl⟩) hS ?_
       simp only [Act.put, lsA, lsZ, lsS]
       refine take_at (i := 25) 48 (v := undef) rfl rfl (by kernel_rfl) (by kernel_rfl) (by kernel_rfl) (fun _ _ _ h => h) (Or.inr ⟨by rfl, rfl⟩) hS ?_
       simp only [Act.put, lsA, lsZ, lsS]
       refine take_at (i := 26) 49 (v := undef) rfl rfl (by kernel_rfl) (by kernel_rfl) (by kernel_rfl) (fun _ _ _ h => h) (Or.inr ⟨by rfl, rfl⟩) hS ?_
       simp only [Act.put, lsA, lsZ, lsS]
       refine take_at (i := 27) 50 (v := undef) rfl rfl (by kernel_rfl) (by kernel_rfl) (by kernel_rfl) (fun _ _ _ h => h) (Or.inr ⟨by rfl, rfl⟩) hS ?_
       simp only [Act.put, lsA, lsZ, lsS]
       refine take_at (i := 28) 51 (v := .bool true) rfl rfl (by kernel_rfl) (by kernel_rfl) (by kernel_rfl) (fun _ _ _ h => h) (Or.inl ⟨by rfl, fun w' hw' => by go_simp⟩) hS ?_
       simp only [Act.put, lsA, lsZ, lsS]
       refine take_at (i := 29) 52 (v := .bool true) rfl rfl (by kernel_rfl) (by kernel_rfl) (by kernel_rfl) (fun _ _ _ h => h) (Or.inl ⟨by rfl, fun w' hw' => by go_simp⟩) hS ?_
       simp only [Act.put, lsA, lsZ, lsS]
       refine take_at (i := 30) 53 (v := undef) rfl rfl (by kernel_rfl) (by kernel_rfl) (by kernel_rfl) (fun _ _ _ h => h) (Or.inr ⟨by rfl, rfl⟩) hS ?_
       simp only [Act.put, lsA, lsZ, lsS]
       refine take_at (i := 31) 54 (v := undef) rfl rfl (by kernel_rfl) (by kernel_rfl) (by kernel_rfl) (fun _ _ _ h => h) (Or.inr ⟨by rfl, rfl⟩) hS ?_
       simp only [Act.put, lsA, lsZ, lsS]
       refine take_at (i := 32) 55 (v := undef) rfl rfl (by kernel_rfl) (by kernel_rfl) (by kernel_rfl) (fun _ _ _ h => h) (Or.inr ⟨by rfl, rfl⟩) hS ?_
       simp only [Act.put, lsA, lsZ, lsS]
       refine take_at (i := 33) 56 (v := undef) rfl rfl (by kernel_rfl) (by kernel_rfl) (by kernel_rfl) (fun _ _ _ h => h) (Or.inr ⟨by rfl, rfl⟩) hS ?_
       simp only [Act.put, lsA, lsZ, lsS]
       refine take_at (i := 34) 57 (v := undef) rfl rfl (by kernel_rfl) (by kernel_rfl) (by kernel_rfl) (fun _ _ _ h => h) (Or.inr ⟨by rfl, rfl⟩) hS ?_
       simp only [Act.put, lsA, lsZ, lsS]
       refine take_at (i := 35) 58 (v := undef) rfl rfl (by kernel_rfl) (by kernel_rfl) (by kernel_rfl) (fun _ _ _ h => h) (Or.inr ⟨by rfl, rfl⟩) hS ?_
       simp only [Act.put, lsA, lsZ, lsS]
       refine take_at (i := 36) 59 (v := undef) rfl rfl (by kernel_rfl) (by kernel_rfl) (by kernel_rfl) (fun _ _ _ h => h) (Or.inr ⟨by rfl, rfl⟩) hS ?_
       simp only [Act.put, lsA, lsZ, lsS]
       refine take_at (i := 37) 60 (v := undef) rfl rfl (by kernel_rfl) (by kernel_rfl) (by kernel_rfl) (fun _ _ _ h => h) (Or.inr ⟨by rfl, rfl⟩) hS ?_
       simp only [Act.put, lsA, lsZ, lsS]
       refine take_at (i := 38) 61 (v := .bool true) rfl rfl (by kernel_rfl) (by kernel_rfl) (by kernel_rfl) (fun _ _ _ h => h) (Or.inl ⟨by rfl, fun w' hw' => by go_simp⟩) hS ?_
       simp only [Act.put, lsA, lsZ, lsS]
       refine wpAnyH_done (by kernel_rfl) ?_ _
       go_wp2_with fail
       go_ret
       refine ⟨?_, HO.out.trans hS (fun _ _ h => h)⟩
       rw [may_no (fun hM => by have := hM.less m u.abs v.abs (get_cont hu) (get_cont (HM1.out ▸ hv)); simp [V.abs, hls] at this)]
       rfl
      ·refine wp_region_held_drew (S := fun w' => Off (fun _ => False) W w') (by kernel_rfl) ((Off.refl _ W).drew) (fun hS => ?_)
       by_cases hbig : 200 < v.data.length
       ·have d1 : decide ((200 : Int) < (v.data.length : Int)) = true := decide_eq_true (by omega)
        have d2 : decide (200 < v.data.length) = true := decide_eq_true (by omega)
        refine take_at (i := 0) 23 (v := .pointer (some ⟨w.heap.size, 0, none⟩)) rfl rfl (by kernel_rfl) (by kernel_rfl) (by kernel_rfl) (fun _ _ _ h => h) (Or.inl ⟨by rfl, fun w' hw' => by go_simp⟩) hS ?_
        simp only [Act.put, lsA, lsZ, lsS]
        refine take_at (i := 1) 24 (v := .agg #[.int .i64 (f 0), .int .i64 (f 1), .int .i64 (f 2), .int .i64 (f 3), .int .i64 (f 4), .int .i64 (f 5), .int .i64 (f 6), .int .i64 (f 7)]) rfl rfl (by kernel_rfl) (by kernel_rfl) (by kernel_rfl) (fun _ _ _ h => h) (Or.inl ⟨by rfl, fun w' hw' => by obtain ⟨x0, x1, x2, x3, x4, x5, x6, x7, x8⟩ := cel9 (CB.out.off hw' (fun h => h)); go_simp⟩) hS ?_
        simp only [Act.put, lsA, lsZ, lsS]
        refine take_at (i := 2) 25 (v := .pointer (some ⟨Z, 0, none⟩)) rfl rfl (by kernel_rfl) (by kernel_rfl) (by kernel_rfl) (fun _ _ _ h => h) (Or.inl ⟨by rfl, fun w' hw' => by go_simp⟩) hS ?_
        simp only [Act.put, lsA, lsZ, lsS]
        refine take_at (i := 3) 26 (v := .agg #[.int .i64 v.node, .int .i64 v.num]) rfl rfl (by kernel_rfl) (by kernel_rfl) (by kernel_rfl) (fun _ _ _ h => h) (Or.inl ⟨by rfl, fun w' hw' => by obtain ⟨x0, x1, x2, x3⟩ := cel4 (CV.out.off hw' (fun h => h)); go_simp⟩) hS ?_
        simp only [Act.put, lsA, lsZ, lsS]
        refine wpAnyH_ready (rs := [4]) (by kernel_rfl) (by simp) ?_
        refine AllReadyH.cons rfl (fun K' hK' => ?_) AllReadyH.nil
        go_simp
        refine (fcovers_any f _ _ _).mono ?_
        rw [hcov]
        rintro e v1 ⟨rfl, o1⟩
        refine hK'.out _ _ (hS.trans o1 (fun _ _ h => h)) (fun hS => ?_)
        clear hK' K' o1
        refine take_at (i := 5) 28 (v := .bool false) rfl rfl (by kernel_rfl) (by kernel_rfl) (by kernel_rfl) (fun _ _ _ h => h) (Or.inl ⟨by rfl, fun w' hw' => by go_simp⟩) hS ?_
        simp only [Act.put, lsA, lsZ, lsS]
        refine take_at (i := 6) 29 (v := .bool false) rfl rfl (by kernel_rfl) (by kernel_rfl) (by kernel_rfl) (fun _ _ _ h => h) (Or.inl ⟨by rfl, fun w' hw' => by go_simp⟩) hS ?_
        simp only [Act.put, lsA, lsZ, lsS]
        refine take_at (i := 7) 30 (v := .int .i64 (n : Int)) rfl rfl (by kernel_rfl) (by kernel_rfl) (by kernel_rfl) (fun _ _ _ h => h) (Or.inl ⟨by rfl, fun w' hw' => by go_simp⟩) hS ?_
        simp only [Act.put, lsA, lsZ, lsS]
        refine take_at (i := 8) 31 (v := .bool true) rfl rfl (by kernel_rfl) (by kernel_rfl) (by kernel_rfl) (fun _ _ _ h => h) (Or.inl ⟨by rfl, fun w' hw' => by go_simp⟩) hS ?_
        simp only [Act.put, lsA, lsZ, lsS]
        refine take_at (i := 9) 32 (v := .bool true) rfl rfl (by kernel_rfl) (by kernel_rfl) (by kernel_rfl) (fun _ _ _ h => h) (Or.inl ⟨by rfl, fun w' hw' => by go_simp⟩) hS ?_
        simp only [Act.put, lsA, lsZ, lsS]
        refine take_at (i := 10) 33 (v := .pointer (some ⟨w.heap.size, 8, none⟩)) rfl rfl (by kernel_rfl) (by kernel_rfl) (by kernel_rfl) (fun _ _ _ h => h) (Or.inl ⟨by rfl, fun w' hw' => by go_simp⟩) hS ?_
        simp only [Act.put, lsA, lsZ, lsS]
        refine take_at (i := 11) 34 (v := .slice (some ⟨b, off, none⟩) l.length cap) rfl rfl (by kernel_rfl) (by kernel_rfl) (by kernel_rfl) (fun _ _ _ h => h) (Or.inl ⟨by rfl, fun w' hw' => by have x8 := (CB.out.off hw' (fun h => h)).cell 8; simp at x8; go_simp⟩) hS ?_
        simp only [Act.put, lsA, lsZ, lsS]
        refine take_at (i := 12) 35 (v := .int .i64 (n : Int)) rfl rfl (by kernel_rfl) (by kernel_rfl) (by kernel_rfl) (fun _ _ _ h => h) (Or.inl ⟨by rfl, fun w' hw' => by go_simp⟩) hS ?_
        simp only [Act.put, lsA, lsZ, lsS]
        refine take_at (i := 13) 36 (v := .int .i64 (m : Int)) rfl rfl (by kernel_rfl) (by kernel_rfl) (by kernel_rfl) (fun _ _ _ h => h) (Or.inl ⟨by rfl, fun w' hw' => by go_simp⟩) hS ?_
        simp only [Act.put, lsA, lsZ, lsS]
        refine take_at (i := 14) 37 (v := .pointer (some ⟨b, off + m * 4, none⟩)) rfl rfl (by kernel_rfl) (by kernel_rfl) (by kernel_rfl) (fun _ _ _ h => h) (Or.inl ⟨by rfl, fun w' hw' => by go_simp⟩) hS ?_
        simp only [Act.put, lsA, lsZ, lsS]
        refine take_at (i := 15) 38 (v := .pointer (some ⟨b, off + m * 4, none⟩)) rfl rfl (by kernel_rfl) (by kernel_rfl) (by kernel_rfl) (fun _ _ _ h => h) (Or.inl ⟨by rfl, fun w' hw' => by go_simp⟩) hS ?_
        simp only [Act.put, lsA, lsZ, lsS]
        refine take_at (i := 16) 39 (v := .agg #[.int .i64 u.node, .int .i64 u.num]) rfl rfl (by kernel_rfl) (by kernel_rfl) (by kernel_rfl) (fun _ _ _ h => h) (Or.inl ⟨by rfl, fun w' hw' => by obtain ⟨x0, x1, x2, x3⟩ := HP.out.off hw' (fun _ h => h); go_simp⟩) hS ?_
        simp only [Act.put, lsA, lsZ, lsS]
        refine take_at (i := 17) 40 (v := .pointer (some ⟨Z, 0, none⟩)) rfl rfl (by kernel_rfl) (by kernel_rfl) (by kernel_rfl) (fun _ _ _ h => h) (Or.inl ⟨by rfl, fun w' hw' => by go_simp⟩) hS ?_
        simp only [Act.put, lsA, lsZ, lsS]
        refine take_at (i := 18) 41 (v := .agg #[.int .i64 v.node, .int .i64 v.num]) rfl rfl (by kernel_rfl) (by kernel_rfl) (by kernel_rfl) (fun _ _ _ h => h) (Or.inl ⟨by rfl, fun w' hw' => by obtain ⟨x0, x1, x2, x3⟩ := cel4 (CV.out.off hw' (fun h => h)); go_simp⟩) hS ?_
        simp only [Act.put, lsA, lsZ, lsS]
        refine wpAnyH_ready (rs := [19]) (by kernel_rfl) (by simp) ?_
        refine AllReadyH.cons rfl (fun K' hK' => ?_) AllReadyH.nil
        go_simp
        refine (fless_any _ _ _ _ _).mono ?_
        rw [hls]
        rintro e v1 ⟨rfl, o1⟩
        refine hK'.out _ _ (hS.trans o1 (fun _ _ h => h)) (fun hS => ?_)
        clear hK' K' o1
        refine take_at (i := 20) 43 (v := .bool false) rfl rfl (by kernel_rfl) (by kernel_rfl) (by kernel_rfl) (fun _ _ _ h => h) (Or.inl ⟨by rfl, fun w' hw' => by go_simp⟩) hS ?_
        simp only [Act.put, lsA, lsZ, lsS]
        refine take_at (i := 21) 44 (v := .bool false) rfl rfl (by kernel_rfl) (by kernel_rfl) (by kernel_rfl) (fun _ _ _ h => h) (Or.inl ⟨by rfl, fun w' hw' => by go_simp⟩) hS ?_
        simp only [Act.put, lsA, lsZ, lsS]
        refine take_at (i := 22) 45 (v := .bool false) rfl rfl (by kernel_rfl) (by kernel_rfl) (by kernel_rfl) (fun _ _ _ h => h) (Or.inl ⟨by rfl, fun w' hw' => by go_simp⟩) hS ?_
        simp only [Act.put, lsA, lsZ, lsS]
        refine take_at (i := 23) 46 (v := .bool false) rfl rfl (by kernel_rfl) (by kernel_rfl) (by kernel_rfl) (fun _ _ _ h => h) (Or.inl ⟨by rfl, fun w' hw' => by go_simp⟩) hS ?_
        simp only [Act.put, lsA, lsZ, lsS]
        refine take_at (i := 24) 47 (v := .pointer (some ⟨Z, 2, none⟩)) rfl rfl (by kernel_rfl) (by kernel_rfl) (by kernel_rfl) (fun _ _ _ h => h) (Or.inl ⟨by rfl, fun w' hw' => by go_simp⟩) hS ?_
        simp only [Act.put, lsA, lsZ, lsS]
        refine take_at (i := 25) 48 (v := .slice v.ad v.data.length v.cap) rfl rfl (by kernel_rfl) (by kernel_rfl) (by kernel_rfl) (fun _ _ _ h => h) (Or.inl ⟨by rfl, fun w' hw' => by obtain ⟨x0, x1, x2, x3⟩ := cel4 (CV.out.off hw' (fun h => h)); go_simp⟩) hS ?_
        simp only [Act.put, lsA, lsZ, lsS]
        refine take_at (i := 26) 49 (v := .int .i64 (v.data.length : Int)) rfl rfl (by kernel_rfl) (by kernel_rfl) (by kernel_rfl) (fun _ _ _ h => h) (Or.inl ⟨by rfl, fun w' hw' => by go_simp⟩) hS ?_
        simp only [Act.put, lsA, lsZ, lsS]
        refine take_at (i := 27) 50 (v := .bool true) rfl rfl (by kernel_rfl) (by kernel_rfl) (by kernel_rfl) (fun _ _ _ h => h) (Or.inl ⟨by rfl, fun w' hw' => by go_simp⟩) hS ?_
        simp only [Act.put, lsA, lsZ, lsS]
        refine take_at (i := 28) 51 (v := .bool true) rfl rfl (by kernel_rfl) (by kernel_rfl) (by kernel_rfl) (fun _ _ _ h => h) (Or.inl ⟨by rfl, fun w' hw' => by go_simp⟩) hS ?_
        simp only [Act.put, lsA, lsZ, lsS]
        refine take_at (i := 29) 52 (v := .bool true) rfl rfl (by kernel_rfl) (by kernel_rfl) (by kernel_rfl) (fun _ _ _ h => h) (Or.inl ⟨by rfl, fun w' hw' => by go_simp⟩) hS ?_
        simp only [Act.put, lsA, lsZ, lsS]
        refine take_at (i := 30) 53 (v := undef) rfl rfl (by kernel_rfl) (by kernel_rfl) (by kernel_rfl) (fun _ _ _ h => h) (Or.inr ⟨by rfl, rfl⟩) hS ?_
        simp only [Act.put, lsA, lsZ, lsS]
        refine take_at (i := 31) 54 (v := undef) rfl rfl (by kernel_rfl) (by kernel_rfl) (by kernel_rfl) (fun _ _ _ h => h) (Or.inr ⟨by rfl, rfl⟩) hS ?_
        simp only [Act.put, lsA, lsZ, lsS]
        refine take_at (i := 32) 55 (v := undef) rfl rfl (by kernel_rfl) (by kernel_rfl) (by kernel_rfl) (fun _ _ _ h => h) (Or.inr ⟨by rfl, rfl⟩) hS ?_
        simp only [Act.put, lsA, lsZ, lsS]
        refine take_at (i := 33) 56 (v := undef) rfl rfl (by kernel_rfl) (by kernel_rfl) (by kernel_rfl) (fun _ _ _ h => h) (Or.inr ⟨by rfl, rfl⟩) hS ?_
        simp only [Act.put, lsA, lsZ, lsS]
        refine take_at (i := 34) 57 (v := undef) rfl rfl (by kernel_rfl) (by kernel_rfl) (by kernel_rfl) (fun _ _ _ h => h) (Or.inr ⟨by rfl, rfl⟩) hS ?_
        simp only [Act.put, lsA, lsZ, lsS]
        refine take_at (i := 35) 58 (v := undef) rfl rfl (by kernel_rfl) (by kernel_rfl) (by kernel_rfl) (fun _ _ _ h => h) (Or.inr ⟨by rfl, rfl⟩) hS ?_
        simp only [Act.put, lsA, lsZ, lsS]
        refine take_at (i := 36) 59 (v := undef) rfl rfl (by kernel_rfl) (by kernel_rfl) (by kernel_rfl) (fun _ _ _ h => h) (Or.inr ⟨by rfl, rfl⟩) hS ?_
        simp only [Act.put, lsA, lsZ, lsS]
        refine take_at (i := 37) 60 (v := undef) rfl rfl (by kernel_rfl) (by kernel_rfl) (by kernel_rfl) (fun _ _ _ h => h) (Or.inr ⟨by rfl, rfl⟩) hS ?_
        simp only [Act.put, lsA, lsZ, lsS]
        refine take_at (i := 38) 61 (v := .bool true) rfl rfl (by kernel_rfl) (by kernel_rfl) (by kernel_rfl) (fun _ _ _ h => h) (Or.inl ⟨by rfl, fun w' hw' => by go_simp⟩) hS ?_
        simp only [Act.put, lsA, lsZ, lsS]
        refine wpAnyH_done (by kernel_rfl) ?_ _
        go_wp2_with fail
        go_ret
        refine ⟨?_, HO.out.trans hS (fun _ _ h => h)⟩
        rw [may_no (fun hM => by have := (hM.cov v.abs (mem_cont hv)).2; simp only [V.abs, ok_big hbig] at this; cases this)]
        rfl
       ·have d1 : decide ((200 : Int) < (v.data.length : Int)) = false := decide_eq_false (by omega)
        have d2 : decide (200 < v.data.length) = false := decide_eq_false (by omega)
        cases hdd : v.dead
        ·refine take_at (i := 0) 23 (v := .pointer (some ⟨w.heap.size, 0, none⟩)) rfl rfl (by kernel_rfl) (by kernel_rfl) (by kernel_rfl) (fun _ _ _ h => h) (Or.inl ⟨by rfl, fun w' hw' => by go_simp⟩) hS ?_
         simp only [Act.put, lsA, lsZ, lsS]
         refine take_at (i := 1) 24 (v := .agg #[.int .i64 (f 0), .int .i64 (f 1), .int .i64 (f 2), .int .i64 (f 3), .int .i64 (f 4), .int .i64 (f 5), .int .i64 (f 6), .int .i64 (f 7)]) rfl rfl (by kernel_rfl) (by kernel_rfl) (by kernel_rfl) (fun _ _ _ h => h) (Or.inl ⟨by rfl, fun w' hw' => by obtain ⟨x0, x1, x2, x3, x4, x5, x6, x7, x8⟩ := cel9 (CB.out.off hw' (fun h => h)); go_simp⟩) hS ?_
         simp only [Act.put, lsA, lsZ, lsS]
         refine take_at (i := 2) 25 (v := .pointer (some ⟨Z, 0, none⟩)) rfl rfl (by kernel_rfl) (by kernel_rfl) (by kernel_rfl) (fun _ _ _ h => h) (Or.inl ⟨by rfl, fun w' hw' => by go_simp⟩) hS ?_
         simp only [Act.put, lsA, lsZ, lsS]
         refine take_at (i := 3) 26 (v := .agg #[.int .i64 v.node, .int .i64 v.num]) rfl rfl (by kernel_rfl) (by kernel_rfl) (by kernel_rfl) (fun _ _ _ h => h) (Or.inl ⟨by rfl, fun w' hw' => by obtain ⟨x0, x1, x2, x3⟩ := cel4 (CV.out.off hw' (fun h => h)); go_simp⟩) hS ?_
         simp only [Act.put, lsA, lsZ, lsS]
         refine wpAnyH_ready (rs := [4]) (by kernel_rfl) (by simp) ?_
         refine AllReadyH.cons rfl (fun K' hK' => ?_) AllReadyH.nil
         go_simp
         refine (fcovers_any f _ _ _).mono ?_
         rw [hcov]
         rintro e v1 ⟨rfl, o1⟩
         refine hK'.out _ _ (hS.trans o1 (fun _ _ h => h)) (fun hS => ?_)
         clear hK' K' o1
         refine take_at (i := 5) 28 (v := .bool false) rfl rfl (by kernel_rfl) (by kernel_rfl) (by kernel_rfl) (fun _ _ _ h => h) (Or.inl ⟨by rfl, fun w' hw' => by go_simp⟩) hS ?_
         simp only [Act.put, lsA, lsZ, lsS]
         refine take_at (i := 6) 29 (v := .bool false) rfl rfl (by kernel_rfl) (by kernel_rfl) (by kernel_rfl) (fun _ _ _ h => h) (Or.inl ⟨by rfl, fun w' hw' => by go_simp⟩) hS ?_
         simp only [Act.put, lsA, lsZ, lsS]
         refine take_at (i := 7) 30 (v := .int .i64 (n : Int)) rfl rfl (by kernel_rfl) (by kernel_rfl) (by kernel_rfl) (fun _ _ _ h => h) (Or.inl ⟨by rfl, fun w' hw' => by go_simp⟩) hS ?_
         simp only [Act.put, lsA, lsZ, lsS]
         refine take_at (i := 8) 31 (v := .bool true) rfl rfl (by kernel_rfl) (by kernel_rfl) (by kernel_rfl) (fun _ _ _ h => h) (Or.inl ⟨by rfl, fun w' hw' => by go_simp⟩) hS ?_
         simp only [Act.put, lsA, lsZ, lsS]
         refine take_at (i := 9) 32 (v := .bool true) rfl rfl (by kernel_rfl) (by kernel_rfl) (by kernel_rfl) (fun _ _ _ h => h) (Or.inl ⟨by rfl, fun w' hw' => by go_simp⟩) hS ?_
         simp only [Act.put, lsA, lsZ, lsS]
         refine take_at (i := 10) 33 (v := .pointer (some ⟨w.heap.size, 8, none⟩)) rfl rfl (by kernel_rfl) (by kernel_rfl) (by kernel_rfl) (fun _ _ _ h => h) (Or.inl ⟨by rfl, fun w' hw' => by go_simp⟩) hS ?_
         simp only [Act.put, lsA, lsZ, lsS]
         refine take_at (i := 11) 34 (v := .slice (some ⟨b, off, none⟩) l.length cap) rfl rfl (by kernel_rfl) (by kernel_rfl) (by kernel_rfl) (fun _ _ _ h => h) (Or.inl ⟨by rfl, fun w' hw' => by have x8 := (CB.out.off hw' (fun h => h)).cell 8; simp at x8; go_simp⟩) hS ?_
         simp only [Act.put, lsA, lsZ, lsS]
         refine take_at (i := 12) 35 (v := .int .i64 (n : Int)) rfl rfl (by kernel_rfl) (by kernel_rfl) (by kernel_rfl) (fun _ _ _ h => h) (Or.inl ⟨by rfl, fun w' hw' => by go_simp⟩) hS ?_
         simp only [Act.put, lsA, lsZ, lsS]
         refine take_at (i := 13) 36 (v := .int .i64 (m : Int)) rfl rfl (by kernel_rfl) (by kernel_rfl) (by kernel_rfl) (fun _ _ _ h => h) (Or.inl ⟨by rfl, fun w' hw' => by go_simp⟩) hS ?_
         simp only [Act.put, lsA, lsZ, lsS]
         refine take_at (i := 14) 37 (v := .pointer (some ⟨b, off + m * 4, none⟩)) rfl rfl (by kernel_rfl) (by kernel_rfl) (by kernel_rfl) (fun _ _ _ h => h) (Or.inl ⟨by rfl, fun w' hw' => by go_simp⟩) hS ?_
         simp only [Act.put, lsA, lsZ, lsS]
         refine take_at (i := 15) 38 (v := .pointer (some ⟨b, off + m * 4, none⟩)) rfl rfl (by kernel_rfl) (by kernel_rfl) (by kernel_rfl) (fun _ _ _ h => h) (Or.inl ⟨by rfl, fun w' hw' => by go_simp⟩) hS ?_
         simp only [Act.put, lsA, lsZ, lsS]
         refine take_at (i := 16) 39 (v := .agg #[.int .i64 u.node, .int .i64 u.num]) rfl rfl (by kernel_rfl) (by kernel_rfl) (by kernel_rfl) (fun _ _ _ h => h) (Or.inl ⟨by rfl, fun w' hw' => by obtain ⟨x0, x1, x2, x3⟩ := HP.out.off hw' (fun _ h => h); go_simp⟩) hS ?_
         simp only [Act.put, lsA, lsZ, lsS]
         refine take_at (i := 17) 40 (v := .pointer (some ⟨Z, 0, none⟩)) rfl rfl (by kernel_rfl) (by kernel_rfl) (by kernel_rfl) (fun _ _ _ h => h) (Or.inl ⟨by rfl, fun w' hw' => by go_simp⟩) hS ?_
         simp only [Act.put, lsA, lsZ, lsS]
         refine take_at (i := 18) 41 (v := .agg #[.int .i64 v.node, .int .i64 v.num]) rfl rfl (by kernel_rfl) (by kernel_rfl) (by kernel_rfl) (fun _ _ _ h => h) (Or.inl ⟨by rfl, fun w' hw' => by obtain ⟨x0, x1, x2, x3⟩ := cel4 (CV.out.off hw' (fun h => h)); go_simp⟩) hS ?_
         simp only [Act.put, lsA, lsZ, lsS]
         refine wpAnyH_ready (rs := [19]) (by kernel_rfl) (by simp) ?_
         refine AllReadyH.cons rfl (fun K' hK' => ?_) AllReadyH.nil
         go_simp
         refine (fless_any _ _ _ _ _).mono ?_
         rw [hls]
         rintro e v1 ⟨rfl, o1⟩
         refine hK'.out _ _ (hS.trans o1 (fun _ _ h => h)) (fun hS => ?_)
         clear hK' K' o1
         refine take_at (i := 20) 43 (v := .bool false) rfl rfl (by kernel_rfl) (by kernel_rfl) (by kernel_rfl) (fun _ _ _ h => h) (Or.inl ⟨by rfl, fun w' hw' => by go_simp⟩) hS ?_
         simp only [Act.put, lsA, lsZ, lsS]
         refine take_at (i := 21) 44 (v := .bool false) rfl rfl (by kernel_rfl) (by kernel_rfl) (by kernel_rfl) (fun _ _ _ h => h) (Or.inl ⟨by rfl, fun w' hw' => by go_simp⟩) hS ?_
         simp only [Act.put, lsA, lsZ, lsS]
         refine take_at (i := 22) 45 (v := .bool false) rfl rfl (by kernel_rfl) (by kernel_rfl) (by kernel_rfl) (fun _ _ _ h => h) (Or.inl ⟨by rfl, fun w' hw' => by go_simp⟩) hS ?_
         simp only [Act.put, lsA, lsZ, lsS]
         refine take_at (i := 23) 46 (v := .bool false) rfl rfl (by kernel_rfl) (by kernel_rfl) (by kernel_rfl) (fun _ _ _ h => h) (Or.inl ⟨by rfl, fun w' hw' => by go_simp⟩) hS ?_
         simp only [Act.put, lsA, lsZ, lsS]
         refine take_at (i := 24) 47 (v := .pointer (some ⟨Z, 2, none⟩)) rfl rfl (by kernel_rfl) (by kernel_rfl) (by kernel_rfl) (fun _ _ _ h => h) (Or.inl ⟨by rfl, fun w' hw' => by go_simp⟩) hS ?_
         simp only [Act.put, lsA, lsZ, lsS]
         refine take_at (i := 25) 48 (v := .slice v.ad v.data.length v.cap) rfl rfl (by kernel_rfl) (by kernel_rfl) (by kernel_rfl) (fun _ _ _ h => h) (Or.inl ⟨by rfl, fun w' hw' => by obtain ⟨x0, x1, x2, x3⟩ := cel4 (CV.out.off hw' (fun h => h)); go_simp⟩) hS ?_
         simp only [Act.put, lsA, lsZ, lsS]
         refine take_at (i := 26) 49 (v := .int .i64 (v.data.length : Int)) rfl rfl (by kernel_rfl) (by kernel_rfl) (by kernel_rfl) (fun _ _ _ h => h) (Or.inl ⟨by rfl, fun w' hw' => by go_simp⟩) hS ?_
         simp only [Act.put, lsA, lsZ, lsS]
         refine take_at (i := 27) 50 (v := .bool false) rfl rfl (by kernel_rfl) (by kernel_rfl) (by kernel_rfl) (fun _ _ _ h => h) (Or.inl ⟨by rfl, fun w' hw' => by go_simp⟩) hS ?_
         simp only [Act.put, lsA, lsZ, lsS]
         refine take_at (i := 28) 51 (v := .bool false) rfl rfl (by kernel_rfl) (by kernel_rfl) (by kernel_rfl) (fun _ _ _ h => h) (Or.inl ⟨by rfl, fun w' hw' => by go_simp⟩) hS ?_
         simp only [Act.put, lsA, lsZ, lsS]
         refine take_at (i := 29) 52 (v := .bool false) rfl rfl (by kernel_rfl) (by kernel_rfl) (by kernel_rfl) (fun _ _ _ h => h) (Or.inl ⟨by rfl, fun w' hw' => by go_simp⟩) hS ?_
         simp only [Act.put, lsA, lsZ, lsS]
         refine take_at (i := 30) 53 (v := .pointer (some ⟨Z, 3, none⟩)) rfl rfl (by kernel_rfl) (by kernel_rfl) (by kernel_rfl) (fun _ _ _ h => h) (Or.inl ⟨by rfl, fun w' hw' => by go_simp⟩) hS ?_
         simp only [Act.put, lsA, lsZ, lsS]
         refine take_at (i := 31) 54 (v := .bool false) rfl rfl (by kernel_rfl) (by kernel_rfl) (by kernel_rfl) (fun _ _ _ h => h) (Or.inl ⟨by rfl, fun w' hw' => by obtain ⟨x0, x1, x2, x3⟩ := cel4 (CV.out.off hw' (fun h => h)); rw [hdd] at x3; go_simp⟩) hS ?_
         simp only [Act.put, lsA, lsZ, lsS]
         refine take_at (i := 32) 55 (v := .bool false) rfl rfl (by kernel_rfl) (by kernel_rfl) (by kernel_rfl) (fun _ _ _ h => h) (Or.inl ⟨by rfl, fun w' hw' => by go_simp⟩) hS ?_
         simp only [Act.put, lsA, lsZ, lsS]
         refine take_at (i := 33) 56 (v := undef) rfl rfl (by kernel_rfl) (by kernel_rfl) (by kernel_rfl) (fun _ _ _ h => h) (Or.inr ⟨by rfl, rfl⟩) hS ?_
         simp only [Act.put, lsA, lsZ, lsS]
         refine take_at (i := 34) 57 (v := undef) rfl rfl (by kernel_rfl) (by kernel_rfl) (by kernel_rfl) (fun _ _ _ h => h) (Or.inr ⟨by rfl, rfl⟩) hS ?_
         simp only [Act.put, lsA, lsZ, lsS]
         refine take_at (i := 35) 58 (v := undef) rfl rfl (by kernel_rfl) (by kernel_rfl) (by kernel_rfl) (fun _ _ _ h => h) (Or.inr ⟨by rfl, rfl⟩) hS ?_
         simp only [Act.put, lsA, lsZ, lsS]
         refine take_at (i := 36) 59 (v := undef) rfl rfl (by kernel_rfl) (by kernel_rfl) (by kernel_rfl) (fun _ _ _ h => h) (Or.inr ⟨by rfl, rfl⟩) hS ?_
         simp only [Act.put, lsA, lsZ, lsS]
         refine take_at (i := 37) 60 (v := .bool false) rfl rfl (by kernel_rfl) (by kernel_rfl) (by kernel_rfl) (fun _ _ _ h => h) (Or.inl ⟨by rfl, fun w' hw' => by go_simp⟩) hS ?_
         simp only [Act.put, lsA, lsZ, lsS]
         refine take_at (i := 38) 61 (v := .bool false) rfl rfl (by kernel_rfl) (by kernel_rfl) (by kernel_rfl) (fun _ _ _ h => h) (Or.inl ⟨by rfl, fun w' hw' => by go_simp⟩) hS ?_
         simp only [Act.put, lsA, lsZ, lsS]
         refine wpAnyH_done (by kernel_rfl) ?_ _
         have hok : okData v.data.length v.dead = true := by rw [hdd]; exact ok_small (by omega)
         go_wp2_with fail
         go_roundw
         case rel =>
          refine ⟨n + 1, by go_num, by omega, ?_, HO.out.trans hS (fun _ _ h => h), CB.out.off hS (fun h => h), HR.out.off hS⟩
          exact HG.out.step hv (by simp only [V.abs]; exact ⟨hcov, hok⟩) (less_at HM1.out hu hls)
         case measure => simp [intOf]; omega
        ·by_cases hz : v.data.length = 0
         ·have d3 : decide ((0 : Int) < (v.data.length : Int)) = false := decide_eq_false (by omega)
          have d4 : decide (0 < v.data.length) = false := decide_eq_false (by omega)
          have HZ : Hid _ := hz
          clear hz
          refine take_at (i := 0) 23 (v := .pointer (some ⟨w.heap.size, 0, none⟩)) rfl rfl (by kernel_rfl) (by kernel_rfl) (by kernel_rfl) (fun _ _ _ h => h) (Or.inl ⟨by rfl, fun w' hw' => by go_simp⟩) hS ?_
          simp only [Act.put, lsA, lsZ, lsS]
          refine take_at (i := 1) 24 (v := .agg #[.int .i64 (f 0), .int .i64 (f 1), .int .i64 (f 2), .int .i64 (f 3), .int .i64 (f 4), .int .i64 (f 5), .int .i64 (f 6), .int .i64 (f 7)]) rfl rfl (by kernel_rfl) (by kernel_rfl) (by kernel_rfl) (fun _ _ _ h => h) (Or.inl ⟨by rfl, fun w' hw' => by obtain ⟨x0, x1, x2, x3, x4, x5, x6, x7, x8⟩ := cel9 (CB.out.off hw' (fun h => h)); go_simp⟩) hS ?_
          simp only [Act.put, lsA, lsZ, lsS]
          refine take_at (i := 2) 25 (v := .pointer (some ⟨Z, 0, none⟩)) rfl rfl (by kernel_rfl) (by kernel_rfl) (by kernel_rfl) (fun _ _ _ h => h) (Or.inl ⟨by rfl, fun w' hw' => by go_simp⟩) hS ?_
          simp only [Act.put, lsA, lsZ, lsS]
          refine take_at (i := 3) 26 (v := .agg #[.int .i64 v.node, .int .i64 v.num]) rfl rfl (by kernel_rfl) (by kernel_rfl) (by kernel_rfl) (fun _ _ _ h => h) (Or.inl ⟨by rfl, fun w' hw' => by obtain ⟨x0, x1, x2, x3⟩ := cel4 (CV.out.off hw' (fun h => h)); go_simp⟩) hS ?_
          simp only [Act.put, lsA, lsZ, lsS]
          refine wpAnyH_ready (rs := [4]) (by kernel_rfl) (by simp) ?_
          refine AllReadyH.cons rfl (fun K' hK' => ?_) AllReadyH.nil
          go_simp
          refine (fcovers_any f _ _ _).mono ?_
          rw [hcov]
          rintro e v1 ⟨rfl, o1⟩
          refine hK'.out _ _ (hS.trans o1 (fun _ _ h => h)) (fun hS => ?_)
          clear hK' K' o1
          refine take_at (i := 5) 28 (v := .bool false) rfl rfl (by kernel_rfl) (by kernel_rfl) (by kernel_rfl) (fun _ _ _ h => h) (Or.inl ⟨by rfl, fun w' hw' => by go_simp⟩) hS ?_
          simp only [Act.put, lsA, lsZ, lsS]
          refine take_at (i := 6) 29 (v := .bool false) rfl rfl (by kernel_rfl) (by kernel_rfl) (by kernel_rfl) (fun _ _ _ h => h) (Or.inl ⟨by rfl, fun w' hw' => by go_simp⟩) hS ?_
          simp only [Act.put, lsA, lsZ, lsS]
          refine take_at (i := 7) 30 (v := .int .i64 (n : Int)) rfl rfl (by kernel_rfl) (by kernel_rfl) (by kernel_rfl) (fun _ _ _ h => h) (Or.inl ⟨by rfl, fun w' hw' => by go_simp⟩) hS ?_
          simp only [Act.put, lsA, lsZ, lsS]
          refine take_at (i := 8) 31 (v := .bool true) rfl rfl (by kernel_rfl) (by kernel_rfl) (by kernel_rfl) (fun _ _ _ h => h) (Or.inl ⟨by rfl, fun w' hw' => by go_simp⟩) hS ?_
          simp only [Act.put, lsA, lsZ, lsS]
          refine take_at (i := 9) 32 (v := .bool true) rfl rfl (by kernel_rfl) (by kernel_rfl) (by kernel_rfl) (fun _ _ _ h => h) (Or.inl ⟨by rfl, fun w' hw' => by go_simp⟩) hS ?_
          simp only [Act.put, lsA, lsZ, lsS]
          refine take_at (i := 10) 33 (v := .pointer (some ⟨w.heap.size, 8, none⟩)) rfl rfl (by kernel_rfl) (by kernel_rfl) (by kernel_rfl) (fun _ _ _ h => h) (Or.inl ⟨by rfl, fun w' hw' => by go_simp⟩) hS ?_
          simp only [Act.put, lsA, lsZ, lsS]
          refine take_at (i := 11) 34 (v := .slice (some ⟨b, off, none⟩) l.length cap) rfl rfl (by kernel_rfl) (by kernel_rfl) (by kernel_rfl) (fun _ _ _ h => h) (Or.inl ⟨by rfl, fun w' hw' => by have x8 := (CB.out.off hw' (fun h => h)).cell 8; simp at x8; go_simp⟩) hS ?_
          simp only [Act.put, lsA, lsZ, lsS]
          refine take_at (i := 12) 35 (v := .int .i64 (n : Int)) rfl rfl (by kernel_rfl) (by kernel_rfl) (by kernel_rfl) (fun _ _ _ h => h) (Or.inl ⟨by rfl, fun w' hw' => by go_simp⟩) hS ?_
          simp only [Act.put, lsA, lsZ, lsS]
          refine take_at (i := 13) 36 (v := .int .i64 (m : Int)) rfl rfl (by kernel_rfl) (by kernel_rfl) (by kernel_rfl) (fun _ _ _ h => h) (Or.inl ⟨by rfl, fun w' hw' => by go_simp⟩) hS ?_
          simp only [Act.put, lsA, lsZ, lsS]
          refine take_at (i := 14) 37 (v := .pointer (some ⟨b, off + m * 4, none⟩)) rfl rfl (by kernel_rfl) (by kernel_rfl) (by kernel_rfl) (fun _ _ _ h => h) (Or.inl ⟨by rfl, fun w' hw' => by go_simp⟩) hS ?_
          simp only [Act.put, lsA, lsZ, lsS]
          refine take_at (i := 15) 38 (v := .pointer (some ⟨b, off + m * 4, none⟩)) rfl rfl (by kernel_rfl) (by kernel_rfl) (by kernel_rfl) (fun _ _ _ h => h) (Or.inl ⟨by rfl, fun w' hw' => by go_simp⟩) hS ?_
          simp only [Act.put, lsA, lsZ, lsS]
          refine take_at (i := 16) 39 (v := .agg #[.int .i64 u.node, .int .i64 u.num]) rfl rfl (by kernel_rfl) (by kernel_rfl) (by kernel_rfl) (fun _ _ _ h => h) (Or.inl ⟨by rfl, fun w' hw' => by obtain ⟨x0, x1, x2, x3⟩ := HP.out.off hw' (fun _ h => h); go_simp⟩) hS ?_
          simp only [Act.put, lsA, lsZ, lsS]
          refine take_at (i := 17) 40 (v := .pointer (some ⟨Z, 0, none⟩)) rfl rfl (by kernel_rfl) (by kernel_rfl) (by kernel_rfl) (fun _ _ _ h => h) (Or.inl ⟨by rfl, fun w' hw' => by go_simp⟩) hS ?_
          simp only [Act.put, lsA, lsZ, lsS]
          refine take_at (i := 18) 41 (v := .agg #[.int .i64 v.node, .int .i64 v.num]) rfl rfl (by kernel_rfl) (by kernel_rfl) (by kernel_rfl) (fun _ _ _ h => h) (Or.inl ⟨by rfl, fun w' hw' => by obtain ⟨x0, x1, x2, x3⟩ := cel4 (CV.out.off hw' (fun h => h)); go_simp⟩) hS ?_
          simp only [Act.put, lsA, lsZ, lsS]
          refine wpAnyH_ready (rs := [19]) (by kernel_rfl) (by simp) ?_
          refine AllReadyH.cons rfl (fun K' hK' => ?_) AllReadyH.nil
          go_simp
          refine (fless_any _ _ _ _ _).mono ?_
          rw [hls]
          rintro e v1 ⟨rfl, o1⟩
          refine hK'.out _ _ (hS.trans o1 (fun _ _ h => h)) (fun hS => ?_)
          clear hK' K' o1
          refine take_at (i := 20) 43 (v := .bool false) rfl rfl (by kernel_rfl) (by kernel_rfl) (by kernel_rfl) (fun _ _ _ h => h) (Or.inl ⟨by rfl, fun w' hw' => by go_simp⟩) hS ?_
          simp only [Act.put, lsA, lsZ, lsS]
          refine take_at (i := 21) 44 (v := .bool false) rfl rfl (by kernel_rfl) (by kernel_rfl) (by kernel_rfl) (fun _ _ _ h => h) (Or.inl ⟨by rfl, fun w' hw' => by go_simp⟩) hS ?_
          simp only [Act.put, lsA, lsZ, lsS]
          refine take_at (i := 22) 45 (v := .bool false) rfl rfl (by kernel_rfl) (by kernel_rfl) (by kernel_rfl) (fun _ _ _ h => h) (Or.inl ⟨by rfl, fun w' hw' => by go_simp⟩) hS ?_
          simp only [Act.put, lsA, lsZ, lsS]
          refine take_at (i := 23) 46 (v := .bool false) rfl rfl (by kernel_rfl) (by kernel_rfl) (by kernel_rfl) (fun _ _ _ h => h) (Or.inl ⟨by rfl, fun w' hw' => by go_simp⟩) hS ?_
          simp only [Act.put, lsA, lsZ, lsS]
          refine take_at (i := 24) 47 (v := .pointer (some ⟨Z, 2, none⟩)) rfl rfl (by kernel_rfl) (by kernel_rfl) (by kernel_rfl) (fun _ _ _ h => h) (Or.inl ⟨by rfl, fun w' hw' => by go_simp⟩) hS ?_
          simp only [Act.put, lsA, lsZ, lsS]
          refine take_at (i := 25) 48 (v := .slice v.ad v.data.length v.cap) rfl rfl (by kernel_rfl) (by kernel_rfl) (by kernel_rfl) (fun _ _ _ h => h) (Or.inl ⟨by rfl, fun w' hw' => by obtain ⟨x0, x1, x2, x3⟩ := cel4 (CV.out.off hw' (fun h => h)); go_simp⟩) hS ?_
          simp only [Act.put, lsA, lsZ, lsS]
          refine take_at (i := 26) 49 (v := .int .i64 (v.data.length : Int)) rfl rfl (by kernel_rfl) (by kernel_rfl) (by kernel_rfl) (fun _ _ _ h => h) (Or.inl ⟨by rfl, fun w' hw' => by go_simp⟩) hS ?_
          simp only [Act.put, lsA, lsZ, lsS]
          refine take_at (i := 27) 50 (v := .bool false) rfl rfl (by kernel_rfl) (by kernel_rfl) (by kernel_rfl) (fun _ _ _ h => h) (Or.inl ⟨by rfl, fun w' hw' => by go_simp⟩) hS ?_
          simp only [Act.put, lsA, lsZ, lsS]
          refine take_at (i := 28) 51 (v := .bool false) rfl rfl (by kernel_rfl) (by kernel_rfl) (by kernel_rfl) (fun _ _ _ h => h) (Or.inl ⟨by rfl, fun w' hw' => by go_simp⟩) hS ?_
          simp only [Act.put, lsA, lsZ, lsS]
          refine take_at (i := 29) 52 (v := .bool false) rfl rfl (by kernel_rfl) (by kernel_rfl) (by kernel_rfl) (fun _ _ _ h => h) (Or.inl ⟨by rfl, fun w' hw' => by go_simp⟩) hS ?_
          simp only [Act.put, lsA, lsZ, lsS]
          refine take_at (i := 30) 53 (v := .pointer (some ⟨Z, 3, none⟩)) rfl rfl (by kernel_rfl) (by kernel_rfl) (by kernel_rfl) (fun _ _ _ h => h) (Or.inl ⟨by rfl, fun w' hw' => by go_simp⟩) hS ?_
          simp only [Act.put, lsA, lsZ, lsS]
          refine take_at (i := 31) 54 (v := .bool true) rfl rfl (by kernel_rfl) (by kernel_rfl) (by kernel_rfl) (fun _ _ _ h => h) (Or.inl ⟨by rfl, fun w' hw' => by obtain ⟨x0, x1, x2, x3⟩ := cel4 (CV.out.off hw' (fun h => h)); rw [hdd] at x3; go_simp⟩) hS ?_
          simp only [Act.put, lsA, lsZ, lsS]
          refine take_at (i := 32) 55 (v := .bool true) rfl rfl (by kernel_rfl) (by kernel_rfl) (by kernel_rfl) (fun _ _ _ h => h) (Or.inl ⟨by rfl, fun w' hw' => by go_simp⟩) hS ?_
          simp only [Act.put, lsA, lsZ, lsS]
          refine take_at (i := 33) 56 (v := .pointer (some ⟨Z, 2, none⟩)) rfl rfl (by kernel_rfl) (by kernel_rfl) (by kernel_rfl) (fun _ _ _ h => h) (Or.inl ⟨by rfl, fun w' hw' => by go_simp⟩) hS ?_
          simp only [Act.put, lsA, lsZ, lsS]
          refine take_at (i := 34) 57 (v := .slice v.ad v.data.length v.cap) rfl rfl (by kernel_rfl) (by kernel_rfl) (by kernel_rfl) (fun _ _ _ h => h) (Or.inl ⟨by rfl, fun w' hw' => by obtain ⟨x0, x1, x2, x3⟩ := cel4 (CV.out.off hw' (fun h => h)); go_simp⟩) hS ?_
          simp only [Act.put, lsA, lsZ, lsS]
          refine take_at (i := 35) 58 (v := .int .i64 (v.data.length : Int)) rfl rfl (by kernel_rfl) (by kernel_rfl) (by kernel_rfl) (fun _ _ _ h => h) (Or.inl ⟨by rfl, fun w' hw' => by go_simp⟩) hS ?_
          simp only [Act.put, lsA, lsZ, lsS]
          refine take_at (i := 36) 59 (v := .bool false) rfl rfl (by kernel_rfl) (by kernel_rfl) (by kernel_rfl) (fun _ _ _ h => h) (Or.inl ⟨by rfl, fun w' hw' => by go_simp⟩) hS ?_
          simp only [Act.put, lsA, lsZ, lsS]
          refine take_at (i := 37) 60 (v := .bool false) rfl rfl (by kernel_rfl) (by kernel_rfl) (by kernel_rfl) (fun _ _ _ h => h) (Or.inl ⟨by rfl, fun w' hw' => by go_simp⟩) hS ?_
          simp only [Act.put, lsA, lsZ, lsS]
          refine take_at (i := 38) 61 (v := .bool false) rfl rfl (by kernel_rfl) (by kernel_rfl) (by kernel_rfl) (fun _ _ _ h => h) (Or.inl ⟨by rfl, fun w' hw' => by go_simp⟩) hS ?_
          simp only [Act.put, lsA, lsZ, lsS]
          refine wpAnyH_done (by kernel_rfl) ?_ _
          have hok : okData v.data.length v.dead = true := by rw [hdd]; exact ok_zero HZ.out
          go_wp2_with fail
          go_roundw
          case rel =>
           refine ⟨n + 1, by go_num, by omega, ?_, HO.out.trans hS (fun _ _ h => h), CB.out.off hS (fun h => h), HR.out.off hS⟩
           exact HG.out.step hv (by simp only [V.abs]; exact ⟨hcov, hok⟩) (less_at HM1.out hu hls)
          case measure => simp [intOf]; omega
         ·have d3 : decide ((0 : Int) < (v.data.length : Int)) = true := decide_eq_true (by omega)
          have d4 : decide (0 < v.data.length) = true := decide_eq_true (by omega)
          refine take_at (i := 0) 23 (v := .pointer (some ⟨w.heap.size, 0, none⟩)) rfl rfl (by kernel_rfl) (by kernel_rfl) (by kernel_rfl) (fun _ _ _ h => h) (Or.inl ⟨by rfl, fun w' hw' => by go_simp⟩) hS ?_
          simp only [Act.put, lsA, lsZ, lsS]
          refine take_at (i := 1) 24 (v := .agg #[.int .i64 (f 0), .int .i64 (f 1), .int .i64 (f 2), .int .i64 (f 3), .int .i64 (f 4), .int .i64 (f 5), .int .i64 (f 6), .int .i64 (f 7)]) rfl rfl (by kernel_rfl) (by kernel_rfl) (by kernel_rfl) (fun _ _ _ h => h) (Or.inl ⟨by rfl, fun w' hw' => by obtain ⟨x0, x1, x2, x3, x4, x5, x6, x7, x8⟩ := cel9 (CB.out.off hw' (fun h => h)); go_simp⟩) hS ?_
          simp only [Act.put, lsA, lsZ, lsS]
          refine take_at (i := 2) 25 (v := .pointer (some ⟨Z, 0, none⟩)) rfl rfl (by kernel_rfl) (by kernel_rfl) (by kernel_rfl) (fun _ _ _ h => h) (Or.inl ⟨by rfl, fun w' hw' => by go_simp⟩) hS ?_
          simp only [Act.put, lsA, lsZ, lsS]
          refine take_at (i := 3) 26 (v := .agg #[.int .i64 v.node, .int .i64 v.num]) rfl rfl (by kernel_rfl) (by kernel_rfl) (by kernel_rfl) (fun _ _ _ h => h) (Or.inl ⟨by rfl, fun w' hw' => by obtain ⟨x0, x1, x2, x3⟩ := cel4 (CV.out.off hw' (fun h => h)); go_simp⟩) hS ?_
          simp only [Act.put, lsA, lsZ, lsS]
          refine wpAnyH_ready (rs := [4]) (by kernel_rfl) (by simp) ?_
          refine AllReadyH.cons rfl (fun K' hK' => ?_) AllReadyH.nil
          go_simp
          refine (fcovers_any f _ _ _).mono ?_
          rw [hcov]
          rintro e v1 ⟨rfl, o1⟩
          refine hK'.out _ _ (hS.trans o1 (fun _ _ h => h)) (fun hS => ?_)
          clear hK' K' o1
          refine take_at (i := 5) 28 (v := .bool false) rfl rfl (by kernel_rfl) (by kernel_rfl) (by kernel_rfl) (fun _ _ _ h => h) (Or.inl ⟨by rfl, fun w' hw' => by go_simp⟩) hS ?_
          simp only [Act.put, lsA, lsZ, lsS]
          refine take_at (i := 6) 29 (v := .bool false) rfl rfl (by kernel_rfl) (by kernel_rfl) (by kernel_rfl) (fun _ _ _ h => h) (Or.inl ⟨by rfl, fun w' hw' => by go_simp⟩) hS ?_
          simp only [Act.put, lsA, lsZ, lsS]
          refine take_at (i := 7) 30 (v := .int .i64 (n : Int)) rfl rfl (by kernel_rfl) (by kernel_rfl) (by kernel_rfl) (fun _ _ _ h => h) (Or.inl ⟨by rfl, fun w' hw' => by go_simp⟩) hS ?_
          simp only [Act.put, lsA, lsZ, lsS]
          refine take_at (i := 8) 31 (v := .bool true) rfl rfl (by kernel_rfl) (by kernel_rfl) (by kernel_rfl) (fun _ _ _ h => h) (Or.inl ⟨by rfl, fun w' hw' => by go_simp⟩) hS ?_
          simp only [Act.put, lsA, lsZ, lsS]
          refine take_at (i := 9) 32 (v := .bool true) rfl rfl (by kernel_rfl) (by kernel_rfl) (by kernel_rfl) (fun _ _ _ h => h) (Or.inl ⟨by rfl, fun w' hw' => by go_simp⟩) hS ?_
          simp only [Act.put, lsA, lsZ, lsS]
          refine take_at (i := 10) 33 (v := .pointer (some ⟨w.heap.size, 8, none⟩)) rfl rfl (by kernel_rfl) (by kernel_rfl) (by kernel_rfl) (fun _ _ _ h => h) (Or.inl ⟨by rfl, fun w' hw' => by go_simp⟩) hS ?_
          simp only [Act.put, lsA, lsZ, lsS]
          refine take_at (i := 11) 34 (v := .slice (some ⟨b, off, none⟩) l.length cap) rfl rfl (by kernel_rfl) (by kernel_rfl) (by kernel_rfl) (fun _ _ _ h => h) (Or.inl ⟨by rfl, fun w' hw' => by have x8 := (CB.out.off hw' (fun h => h)).cell 8; simp at x8; go_simp⟩) hS ?_
          simp only [Act.put, lsA, lsZ, lsS]
          refine take_at (i := 12) 35 (v := .int .i64 (n : Int)) rfl rfl (by kernel_rfl) (by kernel_rfl) (by kernel_rfl) (fun _ _ _ h => h) (Or.inl ⟨by rfl, fun w' hw' => by go_simp⟩) hS ?_
          simp only [Act.put, lsA, lsZ, lsS]
          refine take_at (i := 13) 36 (v := .int .i64 (m : Int)) rfl rfl (by kernel_rfl) (by kernel_rfl) (by kernel_rfl) (fun _ _ _ h => h) (Or.inl ⟨by rfl, fun w' hw' => by go_simp⟩) hS ?_
          simp only [Act.put, lsA, lsZ, lsS]
          refine take_at (i := 14) 37 (v := .pointer (some ⟨b, off + m * 4, none⟩)) rfl rfl (by kernel_rfl) (by kernel_rfl) (by kernel_rfl) (fun _ _ _ h => h) (Or.inl ⟨by rfl, fun w' hw' => by go_simp⟩) hS ?_
          simp only [Act.put, lsA, lsZ, lsS]
          refine take_at (i := 15) 38 (v := .pointer (some ⟨b, off + m * 4, none⟩)) rfl rfl (by kernel_rfl) (by kernel_rfl) (by kernel_rfl) (fun _ _ _ h => h) (Or.inl ⟨by rfl, fun w' hw' => by go_simp⟩) hS ?_
          simp only [Act.put, lsA, lsZ, lsS]
          refine take_at (i := 16) 39 (v := .agg #[.int .i64 u.node, .int .i64 u.num]) rfl rfl (by kernel_rfl) (by kernel_rfl) (by kernel_rfl) (fun _ _ _ h => h) (Or.inl ⟨by rfl, fun w' hw' => by obtain ⟨x0, x1, x2, x3⟩ := HP.out.off hw' (fun _ h => h); go_simp⟩) hS ?_
          simp only [Act.put, lsA, lsZ, lsS]
          refine take_at (i := 17) 40 (v := .pointer (some ⟨Z, 0, none⟩)) rfl rfl (by kernel_rfl) (by kernel_rfl) (by kernel_rfl) (fun _ _ _ h => h) (Or.inl ⟨by rfl, fun w' hw' => by go_simp⟩) hS ?_
          simp only [Act.put, lsA, lsZ, lsS]
          refine take_at (i := 18) 41 (v := .agg #[.int .i64 v.node, .int .i64 v.num]) rfl rfl (by kernel_rfl) (by kernel_rfl) (by kernel_rfl) (fun _ _ _ h => h) (Or.inl ⟨by rfl, fun w' hw' => by obtain ⟨x0, x1, x2, x3⟩ := cel4 (CV.out.off hw' (fun h => h)); go_simp⟩) hS ?_
          simp only [Act.put, lsA, lsZ, lsS]
          refine wpAnyH_ready (rs := [19]) (by kernel_rfl) (by simp) ?_
          refine AllReadyH.cons rfl (fun K' hK' => ?_) AllReadyH.nil
          go_simp
          refine (fless_any _ _ _ _ _).mono ?_
          rw [hls]
          rintro e v1 ⟨rfl, o1⟩
          refine hK'.out _ _ (hS.trans o1 (fun _ _ h => h)) (fun hS => ?_)
          clear hK' K' o1
          refine take_at (i := 20) 43 (v := .bool false) rfl rfl (by kernel_rfl) (by kernel_rfl) (by kernel_rfl) (fun _ _ _ h => h) (Or.inl ⟨by rfl, fun w' hw' => by go_simp⟩) hS ?_
          simp only [Act.put, lsA, lsZ, lsS]
          refine take_at (i := 21) 44 (v := .bool false) rfl rfl (by kernel_rfl) (by kernel_rfl) (by kernel_rfl) (fun _ _ _ h => h) (Or.inl ⟨by rfl, fun w' hw' => by go_simp⟩) hS ?_
          simp only [Act.put, lsA, lsZ, lsS]
          refine take_at (i := 22) 45 (v := .bool false) rfl rfl (by kernel_rfl) (by kernel_rfl) (by kernel_rfl) (fun _ _ _ h => h) (Or.inl ⟨by rfl, fun w' hw' => by go_simp⟩) hS ?_
          simp only [Act.put, lsA, lsZ, lsS]
          refine take_at (i := 23) 46 (v := .bool false) rfl rfl (by kernel_rfl) (by kernel_rfl) (by kernel_rfl) (fun _ _ _ h => h) (Or.inl ⟨by rfl, fun w' hw' => by go_simp⟩) hS ?_
          simp only [Act.put, lsA, lsZ, lsS]
          refine take_at (i := 24) 47 (v := .pointer (some ⟨Z, 2, none⟩)) rfl rfl (by kernel_rfl) (by kernel_rfl) (by kernel_rfl) (fun _ _ _ h => h) (Or.inl ⟨by rfl, fun w' hw' => by go_simp⟩) hS ?_
          simp only [Act.put, lsA, lsZ, lsS]
          refine take_at (i := 25) 48 (v := .slice v.ad v.data.length v.cap) rfl rfl (by kernel_rfl) (by kernel_rfl) (by kernel_rfl) (fun _ _ _ h => h) (Or.inl ⟨by rfl, fun w' hw' => by obtain ⟨x0, x1, x2, x3⟩ := cel4 (CV.out.off hw' (fun h => h)); go_simp⟩) hS ?_
          simp only [Act.put, lsA, lsZ, lsS]
          refine take_at (i := 26) 49 (v := .int .i64 (v.data.length : Int)) rfl rfl (by kernel_rfl) (by kernel_rfl) (by kernel_rfl) (fun _ _ _ h => h) (Or.inl ⟨by rfl, fun w' hw' => by go_simp⟩) hS ?_
          simp only [Act.put, lsA, lsZ, lsS]
          refine take_at (i := 27) 50 (v := .bool false) rfl rfl (by kernel_rfl) (by kernel_rfl) (by kernel_rfl) (fun _ _ _ h => h) (Or.inl ⟨by rfl, fun w' hw' => by go_simp⟩) hS ?_
          simp only [Act.put, lsA, lsZ, lsS]
          refine take_at (i := 28) 51 (v := .bool false) rfl rfl (by kernel_rfl) (by kernel_rfl) (by kernel_rfl) (fun _ _ _ h => h) (Or.inl ⟨by rfl, fun w' hw' => by go_simp⟩) hS ?_
          simp only [Act.put, lsA, lsZ, lsS]
          refine take_at (i := 29) 52 (v := .bool false) rfl rfl (by kernel_rfl) (by kernel_rfl) (by kernel_rfl) (fun _ _ _ h => h) (Or.inl ⟨by rfl, fun w' hw' => by go_simp⟩) hS ?_
          simp only [Act.put, lsA, lsZ, lsS]
          refine take_at (i := 30) 53 (v := .pointer (some ⟨Z, 3, none⟩)) rfl rfl (by kernel_rfl) (by kernel_rfl) (by kernel_rfl) (fun _ _ _ h => h) (Or.inl ⟨by rfl, fun w' hw' => by go_simp⟩) hS ?_
          simp only [Act.put, lsA, lsZ, lsS]
          refine take_at (i := 31) 54 (v := .bool true) rfl rfl (by kernel_rfl) (by kernel_rfl) (by kernel_rfl) (fun _ _ _ h => h) (Or.inl ⟨by rfl, fun w' hw' => by obtain ⟨x0, x1, x2, x3⟩ := cel4 (CV.out.off hw' (fun h => h)); rw [hdd] at x3; go_simp⟩) hS ?_
          simp only [Act.put, lsA, lsZ, lsS]
          refine take_at (i := 32) 55 (v := .bool true) rfl rfl (by kernel_rfl) (by kernel_rfl) (by kernel_rfl) (fun _ _ _ h => h) (Or.inl ⟨by rfl, fun w' hw' => by go_simp⟩) hS ?_
          simp only [Act.put, lsA, lsZ, lsS]
          refine take_at (i := 33) 56 (v := .pointer (some ⟨Z, 2, none⟩)) rfl rfl (by kernel_rfl) (by kernel_rfl) (by kernel_rfl) (fun _ _ _ h => h) (Or.inl ⟨by rfl, fun w' hw' => by go_simp⟩) hS ?_
          simp only [Act.put, lsA, lsZ, lsS]
          refine take_at (i := 34) 57 (v := .slice v.ad v.data.length v.cap) rfl rfl (by kernel_rfl) (by kernel_rfl) (by kernel_rfl) (fun _ _ _ h => h) (Or.inl ⟨by rfl, fun w' hw' => by obtain ⟨x0, x1, x2, x3⟩ := cel4 (CV.out.off hw' (fun h => h)); go_simp⟩) hS ?_
          simp only [Act.put, lsA, lsZ, lsS]
          refine take_at (i := 35) 58 (v := .int .i64 (v.data.length : Int)) rfl rfl (by kernel_rfl) (by kernel_rfl) (by kernel_rfl) (fun _ _ _ h => h) (Or.inl ⟨by rfl, fun w' hw' => by go_simp⟩) hS ?_
          simp only [Act.put, lsA, lsZ, lsS]
          refine take_at (i := 36) 59 (v := .bool true) rfl rfl (by kernel_rfl) (by kernel_rfl) (by kernel_rfl) (fun _ _ _ h => h) (Or.inl ⟨by rfl, fun w' hw' => by go_simp⟩) hS ?_
          simp only [Act.put, lsA, lsZ, lsS]
          refine take_at (i := 37) 60 (v := .bool true) rfl rfl (by kernel_rfl) (by kernel_rfl) (by kernel_rfl) (fun _ _ _ h => h) (Or.inl ⟨by rfl, fun w' hw' => by go_simp⟩) hS ?_
          simp only [Act.put, lsA, lsZ, lsS]
          refine take_at (i := 38) 61 (v := .bool true) rfl rfl (by kernel_rfl) (by kernel_rfl) (by kernel_rfl) (fun _ _ _ h => h) (Or.inl ⟨by rfl, fun w' hw' => by go_simp⟩) hS ?_
          simp only [Act.put, lsA, lsZ, lsS]
          refine wpAnyH_done (by kernel_rfl) ?_ _
          go_wp2_with fail
          go_ret
          refine ⟨?_, HO.out.trans hS (fun _ _ h => h)⟩
          rw [may_no (fun hM => by have := (hM.cov v.abs (mem_cont hv)).2; simp only [V.abs, hdd, ok_dead hz] at this; cases this)]
          rfl
   ·obtain rfl : n = l.length := by omega
    have e1 : decide ((l.length : Int) < (l.length : Int)) = false := decide_eq_false (by omega)
    have e2 : decide (l.length < l.length) = false := decide_eq_false (by omega)
    go_wp2_with fail
    go_ret
    refine ⟨?_, O⟩
    rw [may_yes (HG.out.may HSN.out HHL.out)]
    rfl
 ·have d1 : decide ((16 : Int) < (l.length : Int)) = true := decide_eq_true (by omega)
  have d2 : decide (16 < l.length) = true := decide_eq_true (by omega)
  go_enter Try.func28, Try.ntmps28
  go_wp2_with fail
  refine (fmay_any f _).mono ?_
  rw [hm]
  rintro e w1 ⟨rfl, o1⟩
  have c8 : w1.cell? ⟨w.heap.size, 8, none⟩ = some (.slice a l.length cap) := (B0.off o1 (fun h => h)).cell 8
  go_wp2_with fail
  go_ret
  refine ⟨?_, O0.trans o1 (fun _ _ h => h)⟩
  rw [may_no (fun hM => by have := hM.few; rw [cont_len] at this; omega)]
  rfl
end Go.Proofs.Ytmjmgdbhmbjmaaa
