/- Items of several texts. -/
import Derived.BigRegion
import Derived.BigQuiet
import Derived.Test.YtmjmgdbhmbjmaabAVec
namespace Go.Proofs.Ytmjmgdbhmbjmaab
set_option maxRecDepth 100000
open Go.RowKit
def cnt (f : Nat → Bool) : Nat → Nat
 | 0 => 0
 | i + 1 => cnt f i + (f i).toNat
theorem cnt_le (f : Nat → Bool) : ∀ i, cnt f i ≤ i
 | 0 => Nat.le_refl _
 | i + 1 => by have := cnt_le f i; show cnt f i + (f i).toNat ≤ i + 1; cases f i <;> simp <;> omega
theorem cnt_congr {f g : Nat → Bool} : ∀ {i : Nat}, (∀ j, j < i → f j = g j) → cnt f i = cnt g i
 | 0, _ => rfl
 | i + 1, h => by show cnt f i + (f i).toNat = cnt g i + (g i).toNat; rw [cnt_congr fun j hj => h j (by omega), h i (by omega)]
def ans (f : Nat → Bool) (x : Nat) : Nat → Bool := fun j => f j || decide (j = x)
theorem ans_same (f : Nat → Bool) (x : Nat) : ans f x x = true := by simp [ans]
theorem ans_ne (f : Nat → Bool) {x j : Nat} (h : j ≠ x) : ans f x j = f j := by simp [ans, h]
theorem cnt_ans_le {f : Nat → Bool} {x : Nat} : ∀ {i : Nat}, i ≤ x → cnt (ans f x) i = cnt f i := fun {i} h => cnt_congr fun j hj => ans_ne f (by omega)
theorem cnt_ans {f : Nat → Bool} {x : Nat} (h0 : f x = false) : ∀ {i : Nat}, x < i → cnt (ans f x) i = cnt f i + 1
 | 0, h => by omega
 | i + 1, h => by
  show cnt (ans f x) i + (ans f x i).toNat = cnt f i + (f i).toNat + 1
  by_cases e : x = i
  ·subst e
   rw [cnt_ans_le (Nat.le_refl _), ans_same, h0]
   rfl
  ·rw [cnt_ans h0 (i := i) (by omega), ans_ne f (fun h => e h.symm)]
   omega
theorem get8 (f : Nat → Bool) {n : Nat} (h : n < 8) : (#[.bool (f 0), .bool (f 1), .bool (f 2), .bool (f 3), .bool (f 4), .bool (f 5), .bool (f 6), .bool (f 7)] : Array Value)[n]? = some (.bool (f n)) := by
 match n, h with
 | 0, _ => rfl
 | 1, _ => rfl
 | 2, _ => rfl
 | 3, _ => rfl
 | 4, _ => rfl
 | 5, _ => rfl
 | 6, _ => rfl
 | 7, _ => rfl
theorem set8 (f : Nat → Bool) {n : Nat} (h : n < 8) : (#[.bool (f 0), .bool (f 1), .bool (f 2), .bool (f 3), .bool (f 4), .bool (f 5), .bool (f 6), .bool (f 7)] : Array Value).setIfInBounds n (.bool true) = #[.bool ((ans f n) 0), .bool ((ans f n) 1), .bool ((ans f n) 2), .bool ((ans f n) 3), .bool ((ans f n) 4), .bool ((ans f n) 5), .bool ((ans f n) 6), .bool ((ans f n) 7)] := by
 obtain rfl | rfl | rfl | rfl | rfl | rfl | rfl | rfl : n = 0 ∨ n = 1 ∨ n = 2 ∨ n = 3 ∨ n = 4 ∨ n = 5 ∨ n = 6 ∨ n = 7 := by omega
 all_goals simp [ans]
theorem get9 (m : Int) (f : Nat → Bool) {n : Nat} (h : n < 8) : (#[.int .i64 (m), .bool (f 0), .bool (f 1), .bool (f 2), .bool (f 3), .bool (f 4), .bool (f 5), .bool (f 6), .bool (f 7)] : Array Value)[n + 1]? = some (.bool (f n)) := by
 match n, h with
 | 0, _ => rfl
 | 1, _ => rfl
 | 2, _ => rfl
 | 3, _ => rfl
 | 4, _ => rfl
 | 5, _ => rfl
 | 6, _ => rfl
 | 7, _ => rfl
theorem set9 (m : Int) (f : Nat → Bool) {n : Nat} (h : n < 8) : (#[.int .i64 (m), .bool (f 0), .bool (f 1), .bool (f 2), .bool (f 3), .bool (f 4), .bool (f 5), .bool (f 6), .bool (f 7)] : Array Value).setIfInBounds (n + 1) (.bool true) = #[.int .i64 (m), .bool ((ans f n) 0), .bool ((ans f n) 1), .bool ((ans f n) 2), .bool ((ans f n) 3), .bool ((ans f n) 4), .bool ((ans f n) 5), .bool ((ans f n) 6), .bool ((ans f n) 7)] := by
 obtain rfl | rfl | rfl | rfl | rfl | rfl | rfl | rfl : n = 0 ∨ n = 1 ∨ n = 2 ∨ n = 3 ∨ n = 4 ∨ n = 5 ∨ n = 6 ∨ n = 7 := by omega
 all_goals simp [ans]
theorem idx8 (f : Nat → Bool) {n : Nat} (h : n < 8) (W : World) : (Instr.index 76 (.agg #[.bool (f 0), .bool (f 1), .bool (f 2), .bool (f 3), .bool (f 4), .bool (f 5), .bool (f 6), .bool (f 7)]) (.int .i64 (n : Int))).run Try.prog W = .ok (.bool (f n)) W := by
 obtain rfl | rfl | rfl | rfl | rfl | rfl | rfl | rfl : n = 0 ∨ n = 1 ∨ n = 2 ∨ n = 3 ∨ n = 4 ∨ n = 5 ∨ n = 6 ∨ n = 7 := by omega
 all_goals kernel_rfl
theorem at9 (B : Nat) {n : Nat} (h : n < 8) (W : World) : (Instr.indexAt 76 (.pointer (some ⟨B, 1, none⟩)) (.int .i64 (n : Int))).run Try.prog W = .ok (.pointer (some ⟨B, n + 1, none⟩)) W := by
 obtain rfl | rfl | rfl | rfl | rfl | rfl | rfl | rfl : n = 0 ∨ n = 1 ∨ n = 2 ∨ n = 3 ∨ n = 4 ∨ n = 5 ∨ n = 6 ∨ n = 7 := by omega
 all_goals kernel_rfl
structure Cnt (b : Nat) (m : Int) (f : Nat → Bool) (w : World) : Prop where
 cel : Cel b 78 #[.int .i64 (m), .bool (f 0), .bool (f 1), .bool (f 2), .bool (f 3), .bool (f 4), .bool (f 5), .bool (f 6), .bool (f 7)] w
theorem Cnt.off {D : Nat → Prop} {b : Nat} {m : Int} {f : Nat → Bool} {w w' : World} (h : Cnt b m f w) (o : Off D w w') (hb : ¬ D b) : Cnt b m f w' := ⟨h.cel.off o hb⟩
theorem Cnt.need {b : Nat} {m : Int} {f : Nat → Bool} {w : World} (h : Cnt b m f w) : w.cell? ⟨b, 0, none⟩ = some (.int .i64 m) := h.cel.cell 0
theorem Cnt.at_ {b : Nat} {m : Int} {f : Nat → Bool} {w : World} (h : Cnt b m f w) {n : Nat} (hn : n < 8) : w.cell? ⟨b, n + 1, none⟩ = some (.bool (f n)) := (h.cel.cell _).trans (get9 m f hn)
theorem Cnt.set {b : Nat} {m : Int} {f : Nat → Bool} {w : World} (h : Cnt b m f w) {n : Nat} (hn : n < 8) : Cnt b m (ans f n) (w.setCell ⟨b, n + 1, none⟩ (.bool true)) := by
 have := h.cel.set (n + 1) (.bool true)
 rw [set9 m f hn] at this
 exact ⟨this⟩
def okN (x : Int) : Bool := decide (0 ≤ x) && decide (x < 8)
theorem okN_nat {x : Int} (h : okN x = true) : ∃ n : Nat, n < 8 ∧ x = (n : Int) := by
 simp [okN] at h
 exact ⟨x.toNat, by omega, by omega⟩
theorem okN_of {n : Nat} (h : n < 8) : okN (n : Int) = true := by simp [okN]; omega
theorem named_any (x : Int) (w : World) : Calls Try.prog 29 #[.int .i64 x] w fun e w' => e = .returned (.bool (okN x)) ∧ w' = w := by
 go_enter Try.func29, Try.ntmps29
 by_cases h : 0 ≤ x
 ·have d : decide (0 ≤ x) = true := decide_eq_true h
  have e : okN x = decide (x < 8) := by simp [okN, h]
  rw [e]
  go_wp2_with fail
  go_ret
  exact ⟨rfl, rfl⟩
 ·have d : decide (0 ≤ x) = false := decide_eq_false h
  have e : okN x = false := by simp [okN, h]
  rw [e]
  go_wp2_with fail
  go_ret
  exact ⟨rfl, rfl⟩
theorem qnew_any (m : Int) (w : World) : Calls Try.prog 27 #[.int .i64 m] w fun e w' => e = .returned (.pointer (some ⟨w.heap.size, 0, none⟩)) ∧ Cnt w.heap.size m (fun _ => false) w' ∧ Off (fun _ => False) w w' := by
 go_enter Try.func27, Try.ntmps27
 go_wp2_with fail
 go_ret
 exact ⟨rfl, ⟨Cel.new w _ _⟩, (Off.refl _ w).alloc _⟩
set_option maxHeartbeats 1000000 in
theorem len_any {b : Nat} {m : Int} {f : Nat → Bool} {w : World} (h : Cnt b m f w) : Calls Try.prog 30 #[.pointer (some ⟨b, 0, none⟩)] w fun e w' => e = .returned (.int .i64 (cnt f 8 : Int)) ∧ w' = w := by
 have c1 : w.cell? ⟨b, 1, none⟩ = some (.bool (f 0)) := h.at_ (n := 0) (by omega)
 have c2 : w.cell? ⟨b, 2, none⟩ = some (.bool (f 1)) := h.at_ (n := 1) (by omega)
 have c3 : w.cell? ⟨b, 3, none⟩ = some (.bool (f 2)) := h.at_ (n := 2) (by omega)
 have c4 : w.cell? ⟨b, 4, none⟩ = some (.bool (f 3)) := h.at_ (n := 3) (by omega)
 have c5 : w.cell? ⟨b, 5, none⟩ = some (.bool (f 4)) := h.at_ (n := 4) (by omega)
 have c6 : w.cell? ⟨b, 6, none⟩ = some (.bool (f 5)) := h.at_ (n := 5) (by omega)
 have c7 : w.cell? ⟨b, 7, none⟩ = some (.bool (f 6)) := h.at_ (n := 6) (by omega)
 have c8 : w.cell? ⟨b, 8, none⟩ = some (.bool (f 7)) := h.at_ (n := 7) (by omega)
 clear h
 go_enter Try.func30, Try.ntmps30
 go_wp2_with fail
 clear c1 c2 c3 c4 c5 c6 c7 c8
 go_loop [3, 12] (fun s3 s12 => ∃ i : Nat, s12 = .int .i64 (i : Int) ∧ i ≤ 8 ∧ s3 = .int .i64 (cnt f i : Int)) (fun _ s12 => (8 - intOf s12).toNat)
 case atStart => exact ⟨0, rfl, by omega, rfl⟩
 case round =>
  obtain ⟨i, rfl, hi, rfl⟩ := hrel
  have hc := cnt_le f i
  by_cases h : i < 8
  ·have hx := idx8 f h
   have hd : decide ((i : Int) < 8) = true := decide_eq_true (by omega)
   cases hf : f i
   ·rw [hf] at hx
    go_wp2_with fail
    go_round
    case rel => exact ⟨i + 1, by go_num, by omega, by show _ = Value.int .i64 ((cnt f i + (f i).toNat : Nat) : Int); rw [hf]; rfl⟩
    case measure => simp [intOf]; omega
   ·rw [hf] at hx
    go_wp2_with fail
    go_round
    case rel => exact ⟨i + 1, by go_num, by omega, by show _ = Value.int .i64 ((cnt f i + (f i).toNat : Nat) : Int); rw [hf]; go_num⟩
    case measure => simp [intOf]; omega
  ·obtain rfl : i = 8 := by omega
   have hd : decide (((8 : Nat) : Int) < 8) = false := rfl
   go_wp2_with fail
   go_ret
   exact ⟨rfl, rfl⟩
end Go.Proofs.Ytmjmgdbhmbjmaab
