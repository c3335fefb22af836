/- The reference's MayKey, MayEntry, SameBytes, SameDots; MayEntry of sibs. -/
import Derived.Test.YtbagahlphnafdabDot5
import Derived.Test.YtbagahlphnafdabGMay
import Derived.Test.YtbagahlphnafdabGSame
import Derived.Deep.Cut
namespace Go.Proofs.Ytbagahlphnafdab
open Go.RowKit

def keyB (s : ByteArray) : Bool := decide (1 ≤ s.size) && decide (s.size ≤ 32)
set_option maxRecDepth 100000 in
set_option maxHeartbeats 1000000 in
theorem smayentry_any (s : ByteArray) (f : Nat → Int) (a : Option Addr) (ca : Nat) (l : List V) (w : World) (hr : Row w a ca l) :
    Calls Try.prog 18 #[.agg #[.string s, .int .i64 (f 0), .int .i64 (f 1), .int .i64 (f 2), .int .i64 (f 3), .int .i64 (f 4), .int .i64 (f 5), .int .i64 (f 6), .int .i64 (f 7), .slice a l.length ca]] w fun e w' => e = .returned (.bool (keyB s && mayS f (cont l))) ∧ Off (fun _ => False) w w' := by
  have C := Cel.new w 29 #[.string s, .int .i64 (f 0), .int .i64 (f 1), .int .i64 (f 2), .int .i64 (f 3), .int .i64 (f 4), .int .i64 (f 5), .int .i64 (f 6), .int .i64 (f 7), .slice a l.length ca]
  have O : Off (fun _ => False) w (w.alloc (.cells #[.string s, .int .i64 (f 0), .int .i64 (f 1), .int .i64 (f 2), .int .i64 (f 3), .int .i64 (f 4), .int .i64 (f 5), .int .i64 (f 6), .int .i64 (f 7), .slice a l.length ca] 29)) := (Off.refl _ w).alloc _
  have hr1 := hr.off O
  by_cases h1 : 1 ≤ s.size
  · have e1 : decide ((1 : Int) ≤ (s.size : Int)) = true := decide_eq_true (by omega)
    have e1' : decide (1 ≤ s.size) = true := decide_eq_true h1
    by_cases h2 : s.size ≤ 32
    · have e2 : decide ((s.size : Int) ≤ 32) = true := decide_eq_true (by omega)
      have e2' : decide (s.size ≤ 32) = true := decide_eq_true h2
      have hk : keyB s = true := by simp [keyB, e1', e2']
      go_enter Try.func18, Try.ntmps18
      go_upto_region 1 with fail
      generalize hq : w.heap.size = q at C ⊢
      generalize hv : w.alloc (.cells #[.string s, .int .i64 (f 0), .int .i64 (f 1), .int .i64 (f 2), .int .i64 (f 3), .int .i64 (f 4), .int .i64 (f 5), .int .i64 (f 6), .int .i64 (f 7), .slice a l.length ca] 29) = W at C O hr1 ⊢
      clear hq hv
      have c0 : W.cell? ⟨q, 0, none⟩ = some (.string s) := C.cell 0
      have c1 : W.cell? ⟨q, 1, none⟩ = some (.int .i64 (f 0)) := C.cell 1
      have c2 : W.cell? ⟨q, 2, none⟩ = some (.int .i64 (f 1)) := C.cell 2
      have c3 : W.cell? ⟨q, 3, none⟩ = some (.int .i64 (f 2)) := C.cell 3
      have c4 : W.cell? ⟨q, 4, none⟩ = some (.int .i64 (f 3)) := C.cell 4
      have c5 : W.cell? ⟨q, 5, none⟩ = some (.int .i64 (f 4)) := C.cell 5
      have c6 : W.cell? ⟨q, 6, none⟩ = some (.int .i64 (f 5)) := C.cell 6
      have c7 : W.cell? ⟨q, 7, none⟩ = some (.int .i64 (f 6)) := C.cell 7
      have c8 : W.cell? ⟨q, 8, none⟩ = some (.int .i64 (f 7)) := C.cell 8
      have c9 : W.cell? ⟨q, 9, none⟩ = some (.slice a l.length ca) := C.cell 9
      clear C
      go_wp2_with fail
      refine (smay_any f a ca l W hr1).mono ?_
      rintro e v ⟨rfl, o⟩
      go_wp2_with fail
      go_ret
      exact ⟨by simp [hk], O.trans o (fun _ _ h => h)⟩
    · have e2 : decide ((s.size : Int) ≤ 32) = false := decide_eq_false (by omega)
      have e2' : decide (s.size ≤ 32) = false := decide_eq_false h2
      have hk : keyB s = false := by simp [keyB, e1', e2']
      go_enter Try.func18, Try.ntmps18
      go_upto_region 1 with fail
      generalize hq : w.heap.size = q at C ⊢
      generalize hv : w.alloc (.cells #[.string s, .int .i64 (f 0), .int .i64 (f 1), .int .i64 (f 2), .int .i64 (f 3), .int .i64 (f 4), .int .i64 (f 5), .int .i64 (f 6), .int .i64 (f 7), .slice a l.length ca] 29) = W at C O hr1 ⊢
      clear hq hv
      have c0 : W.cell? ⟨q, 0, none⟩ = some (.string s) := C.cell 0
      have c1 : W.cell? ⟨q, 1, none⟩ = some (.int .i64 (f 0)) := C.cell 1
      have c2 : W.cell? ⟨q, 2, none⟩ = some (.int .i64 (f 1)) := C.cell 2
      have c3 : W.cell? ⟨q, 3, none⟩ = some (.int .i64 (f 2)) := C.cell 3
      have c4 : W.cell? ⟨q, 4, none⟩ = some (.int .i64 (f 3)) := C.cell 4
      have c5 : W.cell? ⟨q, 5, none⟩ = some (.int .i64 (f 4)) := C.cell 5
      have c6 : W.cell? ⟨q, 6, none⟩ = some (.int .i64 (f 5)) := C.cell 6
      have c7 : W.cell? ⟨q, 7, none⟩ = some (.int .i64 (f 6)) := C.cell 7
      have c8 : W.cell? ⟨q, 8, none⟩ = some (.int .i64 (f 7)) := C.cell 8
      have c9 : W.cell? ⟨q, 9, none⟩ = some (.slice a l.length ca) := C.cell 9
      clear C
      go_wp2_with fail
      go_ret
      exact ⟨by simp [hk], O⟩
  · have e1 : decide ((1 : Int) ≤ (s.size : Int)) = false := decide_eq_false (by omega)
    have e1' : decide (1 ≤ s.size) = false := decide_eq_false h1
    have hk : keyB s = false := by simp [keyB, e1']
    go_enter Try.func18, Try.ntmps18
    go_upto_region 1 with fail
    generalize hq : w.heap.size = q at C ⊢
    generalize hv : w.alloc (.cells #[.string s, .int .i64 (f 0), .int .i64 (f 1), .int .i64 (f 2), .int .i64 (f 3), .int .i64 (f 4), .int .i64 (f 5), .int .i64 (f 6), .int .i64 (f 7), .slice a l.length ca] 29) = W at C O hr1 ⊢
    clear hq hv
    have c0 : W.cell? ⟨q, 0, none⟩ = some (.string s) := C.cell 0
    have c1 : W.cell? ⟨q, 1, none⟩ = some (.int .i64 (f 0)) := C.cell 1
    have c2 : W.cell? ⟨q, 2, none⟩ = some (.int .i64 (f 1)) := C.cell 2
    have c3 : W.cell? ⟨q, 3, none⟩ = some (.int .i64 (f 2)) := C.cell 3
    have c4 : W.cell? ⟨q, 4, none⟩ = some (.int .i64 (f 3)) := C.cell 4
    have c5 : W.cell? ⟨q, 5, none⟩ = some (.int .i64 (f 4)) := C.cell 5
    have c6 : W.cell? ⟨q, 6, none⟩ = some (.int .i64 (f 5)) := C.cell 6
    have c7 : W.cell? ⟨q, 7, none⟩ = some (.int .i64 (f 6)) := C.cell 7
    have c8 : W.cell? ⟨q, 8, none⟩ = some (.int .i64 (f 7)) := C.cell 8
    have c9 : W.cell? ⟨q, 9, none⟩ = some (.slice a l.length ca) := C.cell 9
    clear C
    go_wp2_with fail
    go_ret
    exact ⟨by simp [hk], O⟩

theorem keep_cell5 {w w' : World} {b o : Nat} {v : Value} (hw : Off (fun _ => False) w w') (h : w.cell? ⟨b, o, none⟩ = some v) : w'.cell? ⟨b, o, none⟩ = some v := by
  rw [← h]
  exact World.cell?_of_block (a := ⟨b, o, none⟩) (hw.block b (cell_lt h) (fun h => h))

theorem str_eq {x y : B} (h : x.data = y.data) : strOf x.data = strOf y.data := by rw [h]
set_option maxRecDepth 100000 in
set_option maxHeartbeats 1000000 in
theorem samebytes_any (ta tb : Option Addr) (ca cb : Nat) (xs ys : List B) (w : World) (h1 : OwnG 51 1 bcs w ta ca xs) (h2 : OwnG 51 1 bcs w tb cb ys) (s1 : ∀ b ∈ xs, Src w b.ad b.cap b.data) (s2 : ∀ b ∈ ys, Src w b.ad b.cap b.data) (he : xs.map B.data = ys.map B.data) (hl : xs.length ≤ 1000) :
    Calls Try.prog 16 #[.slice ta xs.length ca, .slice tb ys.length cb] w fun e w' => e = .returned (.bool true) ∧ Off (fun _ => False) w w' := by
  have hlen : ys.length = xs.length := by have := congrArg List.length he; simpa using this.symm
  have d0 : ((xs.length : Int) != (ys.length : Int)) = false := by rw [hlen]; simp
  have HLEN : Hid _ := hlen
  have H1 : Hid _ := h1
  have H2 : Hid _ := h2
  have S1 : Hid _ := s1
  have S2 : Hid _ := s2
  have HE : Hid _ := he
  clear h1 h2 s1 s2 he hlen
  go_enter Try.func16, Try.ntmps16
  go_wp2_with fail
  go_loopw [13] (fun y wr => ∃ i : Nat, y = .int .i64 (i : Int) ∧ i ≤ xs.length ∧ Off (fun _ => False) w wr) (fun y _ => (xs.length - intOf y).toNat)
  case atStart => exact ⟨0, rfl, by omega, Off.refl _ _⟩
  case round =>
    obtain ⟨i, rfl, hi, O⟩ := hrel
    have HO : Hid _ := O
    clear O
    by_cases hil : i < xs.length
    · have i1 : decide ((i : Int) < (xs.length : Int)) = true := decide_eq_true (by omega)
      have i2 : decide (i < xs.length) = true := decide_eq_true hil
      have hil2 : i < ys.length := by have := HLEN.out; omega
      have i3 : decide ((i : Int) < (ys.length : Int)) = true := decide_eq_true (by omega)
      have i4 : decide (i < ys.length) = true := decide_eq_true hil2
      have hyl : ys.length ≤ 1000 := by have := HLEN.out; omega
      obtain ⟨x, hx⟩ : ∃ x, xs[i]? = some x := ⟨_, List.getElem?_eq_getElem hil⟩
      obtain ⟨y, hy⟩ : ∃ y, ys[i]? = some y := ⟨_, List.getElem?_eq_getElem hil2⟩
      have hd : x.data = y.data := by
        have := congrArg (fun z => z[i]?) HE.out
        simpa [hx, hy] using this
      obtain ⟨ga, rfl, ka⟩ := H1.out.at_ bcs_len hx
      obtain ⟨gb, rfl, kb⟩ := H2.out.at_ bcs_len hy
      have ka0 := ka 0 _ rfl
      have kb0 := kb 0 _ rfl
      simp only [Nat.mul_one, Nat.add_zero] at ka0 kb0
      have HKA : Hid _ := ka0
      have HKB : Hid _ := kb0
      have HSX : Hid _ := S1.out x (List.mem_of_getElem? hx)
      have HSY : Hid _ := S2.out y (List.mem_of_getElem? hy)
      have HSD : Hid (strOf y.data = strOf x.data) := (str_eq hd).symm
      clear ka kb ka0 kb0 hx hy hd
      go_upto_region 6 with fail
      refine wp_region_held_drew (S := fun w' => Off (fun _ => False) w w') (by kernel_rfl) HO.out.drew (fun hS => ?_)
      refine take_at (i := 0) 16 (v := .slice (some ⟨ga, 0, none⟩) xs.length ca) rfl rfl (by kernel_rfl) (by kernel_rfl) (by kernel_rfl) (fun _ _ _ h => h) (Or.inl ⟨by rfl, fun w' hw' => by go_simp⟩) hS ?_
      simp only [Act.put, List.setIfInBounds_toArray, List.set_cons_zero, List.set_cons_succ]
      refine take_at (i := 1) 17 (v := .int .i64 (i : Int)) rfl rfl (by kernel_rfl) (by kernel_rfl) (by kernel_rfl) (fun _ _ _ h => h) (Or.inl ⟨by rfl, fun w' hw' => by go_simp⟩) hS ?_
      simp only [Act.put, List.setIfInBounds_toArray, List.set_cons_zero, List.set_cons_succ]
      refine take_at (i := 2) 18 (v := .pointer (some ⟨ga, i, none⟩)) rfl rfl (by kernel_rfl) (by kernel_rfl) (by kernel_rfl) (fun _ _ _ h => h) (Or.inl ⟨by rfl, fun w' hw' => by go_simp⟩) hS ?_
      simp only [Act.put, List.setIfInBounds_toArray, List.set_cons_zero, List.set_cons_succ]
      refine take_at (i := 3) 19 (v := .slice x.ad x.data.length x.cap) rfl rfl (by kernel_rfl) (by kernel_rfl) (by kernel_rfl) (fun _ _ _ h => h) (Or.inl ⟨by rfl, fun w' hw' => by have e := keep_cell5 hw' HKA.out; go_simp⟩) hS ?_
      simp only [Act.put, List.setIfInBounds_toArray, List.set_cons_zero, List.set_cons_succ]
      refine take_at (i := 4) 20 (v := .string (strOf x.data)) rfl rfl (by kernel_rfl) (by kernel_rfl) (by kernel_rfl) (fun _ _ _ h => h) (Or.inl ⟨by rfl, fun w' hw' => by have e := conv_src (HSX.out.off hw' (fun _ _ _ h => h)); go_simp⟩) hS ?_
      simp only [Act.put, List.setIfInBounds_toArray, List.set_cons_zero, List.set_cons_succ]
      refine take_at (i := 5) 21 (v := .slice (some ⟨gb, 0, none⟩) ys.length cb) rfl rfl (by kernel_rfl) (by kernel_rfl) (by kernel_rfl) (fun _ _ _ h => h) (Or.inl ⟨by rfl, fun w' hw' => by go_simp⟩) hS ?_
      simp only [Act.put, List.setIfInBounds_toArray, List.set_cons_zero, List.set_cons_succ]
      refine take_at (i := 6) 22 (v := .int .i64 (i : Int)) rfl rfl (by kernel_rfl) (by kernel_rfl) (by kernel_rfl) (fun _ _ _ h => h) (Or.inl ⟨by rfl, fun w' hw' => by go_simp⟩) hS ?_
      simp only [Act.put, List.setIfInBounds_toArray, List.set_cons_zero, List.set_cons_succ]
      refine take_at (i := 7) 23 (v := .pointer (some ⟨gb, i, none⟩)) rfl rfl (by kernel_rfl) (by kernel_rfl) (by kernel_rfl) (fun _ _ _ h => h) (Or.inl ⟨by rfl, fun w' hw' => by go_simp⟩) hS ?_
      simp only [Act.put, List.setIfInBounds_toArray, List.set_cons_zero, List.set_cons_succ]
      refine take_at (i := 8) 24 (v := .slice y.ad y.data.length y.cap) rfl rfl (by kernel_rfl) (by kernel_rfl) (by kernel_rfl) (fun _ _ _ h => h) (Or.inl ⟨by rfl, fun w' hw' => by have e := keep_cell5 hw' HKB.out; go_simp⟩) hS ?_
      simp only [Act.put, List.setIfInBounds_toArray, List.set_cons_zero, List.set_cons_succ]
      refine take_at (i := 9) 25 (v := .string (strOf x.data)) rfl rfl (by kernel_rfl) (by kernel_rfl) (by kernel_rfl) (fun _ _ _ h => h) (Or.inl ⟨by rfl, fun w' hw' => by have e := conv_src (HSY.out.off hw' (fun _ _ _ h => h)); rw [HSD.out] at e; go_simp⟩) hS ?_
      simp only [Act.put, List.setIfInBounds_toArray, List.set_cons_zero, List.set_cons_succ]
      refine take_at (i := 10) 26 (v := .bool false) rfl rfl (by kernel_rfl) (by kernel_rfl) (by kernel_rfl) (fun _ _ _ h => h) (Or.inl ⟨by rfl, fun w' hw' => by go_simp⟩) hS ?_
      simp only [Act.put, List.setIfInBounds_toArray, List.set_cons_zero, List.set_cons_succ]
      refine wpAnyH_done (by kernel_rfl) ?_ _
      go_wp2_with fail
      go_roundw
      case rel => exact ⟨i + 1, by go_num, by omega, hS⟩
      case measure => simp [intOf]; omega
    · have i1 : decide ((i : Int) < (xs.length : Int)) = false := decide_eq_false (by omega)
      have i2 : decide (i < xs.length) = false := decide_eq_false hil
      go_wp2_with fail
      go_ret
      exact ⟨rfl, HO.out⟩

end Go.Proofs.Ytbagahlphnafdab
