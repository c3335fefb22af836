/- The calls of plan: whom, of what, how many ticks. -/
import Derived.Test.YtachdgbgcdplnaaRow19
namespace Go.Proofs.Ytachdgbgcdplnaa
set_option maxRecDepth 100000
open Go.RowKit

theorem many_yes (n : Int) (h1 : 2 ≤ n) (h2 : n ≤ 8) (w : World) : Calls Try.prog 18 #[.int .i64 n] w fun e w' => e = .returned (.bool true) ∧ w' = w := by
  go_enter Try.func18, Try.ntmps18
  go_wp2_with fail
  go_ret
  exact ⟨rfl, rfl⟩
theorem many_no (n : Int) (h : n < 2 ∨ 8 < n) (w : World) : Calls Try.prog 18 #[.int .i64 n] w fun e w' => e = .returned (.bool false) ∧ w' = w := by
  go_enter Try.func18, Try.ntmps18
  by_cases h1 : 2 ≤ n
  · have d : decide (n ≤ 8) = false := decide_eq_false (by omega)
    clear h
    go_wp2_with fail
    go_ret
    exact ⟨rfl, rfl⟩
  · clear h
    go_wp2_with fail
    go_ret
    exact ⟨rfl, rfl⟩
theorem tells_yes (n t : Int) (h1 : 2 ≤ n) (h2 : n ≤ 8) (h3 : 0 ≤ t) (w : World) : Calls Try.prog 16 #[.int .i64 n, .int .i64 t] w fun e w' => e = .returned (.bool true) ∧ w' = w := by
  go_enter Try.func16, Try.ntmps16
  go_wp2_with fail
  refine (many_yes n h1 h2 _).mono ?_
  rintro e w1 ⟨rfl, hw⟩
  rw [hw]
  clear hw w1
  go_wp2_with fail
  go_ret
  exact ⟨rfl, rfl⟩
theorem tells_no (n t : Int) (h : n < 2 ∨ 8 < n ∨ t < 0) (w : World) : Calls Try.prog 16 #[.int .i64 n, .int .i64 t] w fun e w' => e = .returned (.bool false) ∧ w' = w := by
  go_enter Try.func16, Try.ntmps16
  by_cases h1 : n < 2 ∨ 8 < n
  · have H1 : Hid _ := many_no n h1 w
    clear h h1
    go_wp2_with fail
    refine Calls.mono H1.out ?_
    rintro e w1 ⟨rfl, hw⟩
    rw [hw]
    clear hw w1
    go_wp2_with fail
    go_ret
    exact ⟨rfl, rfl⟩
  · have d : decide (0 ≤ t) = false := decide_eq_false (by omega)
    have H1 : Hid _ := many_yes n (by omega) (by omega) w
    clear h h1
    go_wp2_with fail
    refine Calls.mono H1.out ?_
    rintro e w1 ⟨rfl, hw⟩
    rw [hw]
    clear hw w1
    go_wp2_with fail
    go_ret
    exact ⟨rfl, rfl⟩

theorem made1 : madeI 1 = #[.int .i64 0] := by kernel_rfl
theorem made2 : madeI 2 = #[.int .i64 0, .int .i64 0] := by kernel_rfl
theorem tdiv_b (t m : Int) (ht : 0 ≤ t ∧ t ≤ 9223372036854775807) (hm : 1 ≤ m) : 0 ≤ t.tdiv m ∧ t.tdiv m ≤ 9223372036854775807 := by
  rw [Int.tdiv_eq_ediv_of_nonneg ht.1]
  exact ⟨Int.ediv_nonneg ht.1 (by omega), Int.le_trans (Int.ediv_le_self _ ht.1) ht.2⟩
theorem turn1 (t m0 : Int) (b : Nat) (w : World) (ht : 0 ≤ t) (htM : t ≤ 9223372036854775807) (hm0 : 1 ≤ m0) (hx0 : m0 ≤ 7) (hb0 : w.cell? ⟨b, 0, none⟩ = some (.int .i64 m0)) :
    Calls Try.prog 17 #[.int .i64 t, .slice (some ⟨b, 0, none⟩) 1 1] w fun e w' => ∃ q, e = .returned (.slice (some ⟨q, 0, none⟩) 1 1) ∧ w'.cell? ⟨q, 0, none⟩ = some (.int .i64 (t.tmod m0)) ∧ Off (fun _ => False) w w' := by
  have hlt : b < w.heap.size := cell_lt hb0
  have b0 : 0 ≤ t ∧ t ≤ 9223372036854775807 := ⟨ht, htM⟩
  have b1 := tdiv_b t m0 b0 hm0
  obtain ⟨r0, hr0⟩ : ∃ r, r = t.tmod m0 := ⟨_, rfl⟩
  obtain ⟨a1, ha1⟩ : ∃ a, a = t.tdiv m0 := ⟨_, rfl⟩
  rw [← ha1] at b1
  have e0 : t.tmod m0 = r0 := hr0.symm
  have q0 : t.tdiv m0 = a1 := ha1.symm
  have z0 : ¬ m0 = 0 := by omega
  rw [e0]
  clear hr0 ha1
  have mk : ∀ W : World, (Instr.makeSlice 32 (.int .i64 1) (.int .i64 1)).run Try.prog W = .ok (.slice (some ⟨W.heap.size, 0, none⟩) 1 1) (W.alloc (.cells #[.int .i64 0] 3)) := fun W => by
    have h := makeI 1 (by omega) W
    rw [made1] at h
    exact h
  go_enter Try.func17, Try.ntmps17
  go_upto_region 2 with fail
  have O1 : Off (fun _ => False) w (w.alloc (.cells #[.int .i64 0] 3)) := (Off.refl _ w).alloc _
  have C1 : Cel w.heap.size 3 #[.int .i64 0] (w.alloc (.cells #[.int .i64 0] 3)) := Cel.new w _ _
  generalize hv : w.alloc (.cells #[.int .i64 0] 3) = v1 at O1 C1 ⊢
  have hqw : w.heap.size ≤ w.heap.size := Nat.le_refl _
  generalize hq : w.heap.size = q at C1 hlt ⊢
  have HQ : Hid (w.heap.size = q) := hq
  have HO1 : Hid _ := O1
  clear hv mk O1 hq hqw
  have hqb : ¬ q = b := by omega
  have HB0 : Hid _ := hb0
  clear hb0
  go_wp2_with fail
  go_loopw [0, 13] (fun s0 s13 wr => (s0 = .int .i64 t ∧ s13 = .int .i64 0 ∧ Cel q 3 #[.int .i64 0] wr ∧ Hid (Off (fun c => c = q) v1 wr)) ∨ (s0 = .int .i64 a1 ∧ s13 = .int .i64 1 ∧ Cel q 3 #[.int .i64 r0] wr ∧ Hid (Off (fun c => c = q) v1 wr))) (fun _ i _ => (1 - intOf i).toNat)
  case atStart => exact .inl ⟨rfl, rfl, C1, Off.refl _ _⟩
  case round =>
    rcases hrel with ⟨rfl, rfl, C, HO⟩ | ⟨rfl, rfl, C, HO⟩
    · clear C1
      have c1 := Off.keep HO.out (Off.keep HO1.out HB0.out (fun h => h)) (fun h => hqb h.symm)
      have c2 := C.cell 0
      have c3 := C.free 0
      go_wp2_with fail
      go_roundw
      case rel => exact .inr (⟨rfl, rfl, C.set 0 _, HO.out.setCell (.inl rfl) _⟩)
      case measure => simp [intOf]
    · clear C1
      go_wp2_with fail
      go_ret
      exact ⟨q, rfl, (C.cell 0), HO1.out.trans HO.out (fun i hi h => by have := HQ.out; omega)⟩
theorem turn2 (t m0 m1 : Int) (b : Nat) (w : World) (ht : 0 ≤ t) (htM : t ≤ 9223372036854775807) (hm0 : 1 ≤ m0) (hx0 : m0 ≤ 7) (hm1 : 1 ≤ m1) (hx1 : m1 ≤ 7) (hb0 : w.cell? ⟨b, 0, none⟩ = some (.int .i64 m0)) (hb1 : w.cell? ⟨b, 1, none⟩ = some (.int .i64 m1)) :
    Calls Try.prog 17 #[.int .i64 t, .slice (some ⟨b, 0, none⟩) 2 2] w fun e w' => ∃ q, e = .returned (.slice (some ⟨q, 0, none⟩) 2 2) ∧ w'.cell? ⟨q, 0, none⟩ = some (.int .i64 (t.tmod m0)) ∧ w'.cell? ⟨q, 1, none⟩ = some (.int .i64 ((t.tdiv m0).tmod m1)) ∧ Off (fun _ => False) w w' := by
  have hlt : b < w.heap.size := cell_lt hb0
  have b0 : 0 ≤ t ∧ t ≤ 9223372036854775807 := ⟨ht, htM⟩
  have b1 := tdiv_b t m0 b0 hm0
  obtain ⟨r0, hr0⟩ : ∃ r, r = t.tmod m0 := ⟨_, rfl⟩
  obtain ⟨a1, ha1⟩ : ∃ a, a = t.tdiv m0 := ⟨_, rfl⟩
  rw [← ha1] at b1
  have e0 : t.tmod m0 = r0 := hr0.symm
  have q0 : t.tdiv m0 = a1 := ha1.symm
  have z0 : ¬ m0 = 0 := by omega
  rw [q0, e0]
  clear hr0 ha1
  have b2 := tdiv_b a1 m1 b1 hm1
  obtain ⟨r1, hr1⟩ : ∃ r, r = a1.tmod m1 := ⟨_, rfl⟩
  obtain ⟨a2, ha2⟩ : ∃ a, a = a1.tdiv m1 := ⟨_, rfl⟩
  rw [← ha2] at b2
  have e1 : a1.tmod m1 = r1 := hr1.symm
  have q1 : a1.tdiv m1 = a2 := ha2.symm
  have z1 : ¬ m1 = 0 := by omega
  rw [e1]
  clear hr1 ha2
  have mk : ∀ W : World, (Instr.makeSlice 32 (.int .i64 2) (.int .i64 2)).run Try.prog W = .ok (.slice (some ⟨W.heap.size, 0, none⟩) 2 2) (W.alloc (.cells #[.int .i64 0, .int .i64 0] 3)) := fun W => by
    have h := makeI 2 (by omega) W
    rw [made2] at h
    exact h
  go_enter Try.func17, Try.ntmps17
  go_upto_region 2 with fail
  have O1 : Off (fun _ => False) w (w.alloc (.cells #[.int .i64 0, .int .i64 0] 3)) := (Off.refl _ w).alloc _
  have C1 : Cel w.heap.size 3 #[.int .i64 0, .int .i64 0] (w.alloc (.cells #[.int .i64 0, .int .i64 0] 3)) := Cel.new w _ _
  generalize hv : w.alloc (.cells #[.int .i64 0, .int .i64 0] 3) = v1 at O1 C1 ⊢
  have hqw : w.heap.size ≤ w.heap.size := Nat.le_refl _
  generalize hq : w.heap.size = q at C1 hlt ⊢
  have HQ : Hid (w.heap.size = q) := hq
  have HO1 : Hid _ := O1
  clear hv mk O1 hq hqw
  have hqb : ¬ q = b := by omega
  have HB0 : Hid _ := hb0
  have HB1 : Hid _ := hb1
  clear hb0 hb1
  go_wp2_with fail
  go_loopw [0, 13] (fun s0 s13 wr => (s0 = .int .i64 t ∧ s13 = .int .i64 0 ∧ Cel q 3 #[.int .i64 0, .int .i64 0] wr ∧ Hid (Off (fun c => c = q) v1 wr)) ∨ (s0 = .int .i64 a1 ∧ s13 = .int .i64 1 ∧ Cel q 3 #[.int .i64 r0, .int .i64 0] wr ∧ Hid (Off (fun c => c = q) v1 wr)) ∨ (s0 = .int .i64 a2 ∧ s13 = .int .i64 2 ∧ Cel q 3 #[.int .i64 r0, .int .i64 r1] wr ∧ Hid (Off (fun c => c = q) v1 wr))) (fun _ i _ => (2 - intOf i).toNat)
  case atStart => exact .inl ⟨rfl, rfl, C1, Off.refl _ _⟩
  case round =>
    rcases hrel with ⟨rfl, rfl, C, HO⟩ | ⟨rfl, rfl, C, HO⟩ | ⟨rfl, rfl, C, HO⟩
    · clear C1
      have c1 := Off.keep HO.out (Off.keep HO1.out HB0.out (fun h => h)) (fun h => hqb h.symm)
      have c2 := C.cell 0
      have c3 := C.free 0
      go_wp2_with fail
      go_roundw
      case rel => exact .inr (.inl ⟨rfl, rfl, C.set 0 _, HO.out.setCell (.inl rfl) _⟩)
      case measure => simp [intOf]
    · clear C1
      have c1 := Off.keep HO.out (Off.keep HO1.out HB1.out (fun h => h)) (fun h => hqb h.symm)
      have c2 := C.cell 1
      have c3 := C.free 1
      go_wp2_with fail
      go_roundw
      case rel => exact .inr (.inr (⟨rfl, rfl, C.set 1 _, HO.out.setCell (.inl rfl) _⟩))
      case measure => simp [intOf]
    · clear C1
      go_wp2_with fail
      go_ret
      exact ⟨q, rfl, (C.cell 0), (C.cell 1), HO1.out.trans HO.out (fun i hi h => by have := HQ.out; omega)⟩
end Go.Proofs.Ytachdgbgcdplnaa
