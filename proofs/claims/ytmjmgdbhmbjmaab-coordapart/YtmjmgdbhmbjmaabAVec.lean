/- Items of several texts. -/
import Derived.Test.YtmjmgdbhmbjmaabAMem
namespace Go.Proofs.Ytmjmgdbhmbjmaab
open Go.RowKit
def zer : Nat → Int := fun _ => 0
def dec8 (p : Nat → Prop) (h : ∀ j, Decidable (p j)) : Decidable (∀ j, j < 8 → p j) := @Nat.decidableBallLT 8 (fun j _ => p j) (fun j _ => h j)
theorem vec_get (f : Nat → Int) {n : Nat} (h : n < 8) : (#[.int .i64 (f 0), .int .i64 (f 1), .int .i64 (f 2), .int .i64 (f 3), .int .i64 (f 4), .int .i64 (f 5), .int .i64 (f 6), .int .i64 (f 7)] : Array Value)[n]? = some (.int .i64 (f n)) := by
 match n, h with
 | 0, _ => rfl
 | 1, _ => rfl
 | 2, _ => rfl
 | 3, _ => rfl
 | 4, _ => rfl
 | 5, _ => rfl
 | 6, _ => rfl
 | 7, _ => rfl
def upd (f : Nat → Int) (n : Nat) (x : Int) : Nat → Int := fun j => if j = n then x else f j
theorem vec_set (f : Nat → Int) {n : Nat} (h : n < 8) (x : Int) : (#[.int .i64 (f 0), .int .i64 (f 1), .int .i64 (f 2), .int .i64 (f 3), .int .i64 (f 4), .int .i64 (f 5), .int .i64 (f 6), .int .i64 (f 7)] : Array Value).setIfInBounds n (.int .i64 x) = #[.int .i64 (upd f n x 0), .int .i64 (upd f n x 1), .int .i64 (upd f n x 2), .int .i64 (upd f n x 3), .int .i64 (upd f n x 4), .int .i64 (upd f n x 5), .int .i64 (upd f n x 6), .int .i64 (upd f n x 7)] := by
 match n, h with
 | 0, _ => rfl
 | 1, _ => rfl
 | 2, _ => rfl
 | 3, _ => rfl
 | 4, _ => rfl
 | 5, _ => rfl
 | 6, _ => rfl
 | 7, _ => rfl
theorem idx_vec (f : Nat → Int) {n : Nat} (h : n < 8) (W : World) : (Instr.index 27 (.agg #[.int .i64 (f 0), .int .i64 (f 1), .int .i64 (f 2), .int .i64 (f 3), .int .i64 (f 4), .int .i64 (f 5), .int .i64 (f 6), .int .i64 (f 7)]) (.int .i64 (n : Int))).run Try.prog W = .ok (.int .i64 (f n)) W := by
 obtain rfl | rfl | rfl | rfl | rfl | rfl | rfl | rfl : n = 0 ∨ n = 1 ∨ n = 2 ∨ n = 3 ∨ n = 4 ∨ n = 5 ∨ n = 6 ∨ n = 7 := by omega
 all_goals kernel_rfl
theorem at_vec (B : Nat) {n : Nat} (h : n < 8) (W : World) : (Instr.indexAt 27 (.pointer (some ⟨B, 0, none⟩)) (.int .i64 (n : Int))).run Try.prog W = .ok (.pointer (some ⟨B, n, none⟩)) W := by
 obtain rfl | rfl | rfl | rfl | rfl | rfl | rfl | rfl : n = 0 ∨ n = 1 ∨ n = 2 ∨ n = 3 ∨ n = 4 ∨ n = 5 ∨ n = 6 ∨ n = 7 := by omega
 all_goals kernel_rfl
theorem max_vec (x y : Int) (ts : Array TypeId) (t : TypeId) (W : World) : (Builtin.max_ ts t #[.int .i64 x, .int .i64 y]).run Try.prog W = .ok (.int .i64 (max x y)) W := by
 rw [run_max_int2]
 congr 2
 split <;> omega
theorem cel8 {b : Nat} {t : TypeId} {f : Nat → Int} {w : World} (h : Cel b t #[.int .i64 (f 0), .int .i64 (f 1), .int .i64 (f 2), .int .i64 (f 3), .int .i64 (f 4), .int .i64 (f 5), .int .i64 (f 6), .int .i64 (f 7)] w) : w.cell? ⟨b, 0, none⟩ = some (.int .i64 (f 0)) ∧ w.cell? ⟨b, 1, none⟩ = some (.int .i64 (f 1)) ∧ w.cell? ⟨b, 2, none⟩ = some (.int .i64 (f 2)) ∧ w.cell? ⟨b, 3, none⟩ = some (.int .i64 (f 3)) ∧ w.cell? ⟨b, 4, none⟩ = some (.int .i64 (f 4)) ∧ w.cell? ⟨b, 5, none⟩ = some (.int .i64 (f 5)) ∧ w.cell? ⟨b, 6, none⟩ = some (.int .i64 (f 6)) ∧ w.cell? ⟨b, 7, none⟩ = some (.int .i64 (f 7)) :=
 ⟨h.cell 0, h.cell 1, h.cell 2, h.cell 3, h.cell 4, h.cell 5, h.cell 6, h.cell 7⟩
theorem Cel.st8 {b : Nat} {t : TypeId} {f : Nat → Int} {w : World} (h : Cel b t #[.int .i64 (f 0), .int .i64 (f 1), .int .i64 (f 2), .int .i64 (f 3), .int .i64 (f 4), .int .i64 (f 5), .int .i64 (f 6), .int .i64 (f 7)] w) (g : Nat → Int) : Cel b t #[.int .i64 (g 0), .int .i64 (g 1), .int .i64 (g 2), .int .i64 (g 3), .int .i64 (g 4), .int .i64 (g 5), .int .i64 (g 6), .int .i64 (g 7)] ((((((((w.setCell ⟨b, 0, none⟩ (.int .i64 (g 0))).setCell ⟨b, 1, none⟩ (.int .i64 (g 1))).setCell ⟨b, 2, none⟩ (.int .i64 (g 2))).setCell ⟨b, 3, none⟩ (.int .i64 (g 3))).setCell ⟨b, 4, none⟩ (.int .i64 (g 4))).setCell ⟨b, 5, none⟩ (.int .i64 (g 5))).setCell ⟨b, 6, none⟩ (.int .i64 (g 6))).setCell ⟨b, 7, none⟩ (.int .i64 (g 7))) := by
 replace h := h.set 0 (.int .i64 (g 0))
 simp only [List.setIfInBounds_toArray, List.set_cons_zero] at h
 replace h := h.set 1 (.int .i64 (g 1))
 simp only [lsA, lsZ, lsS] at h
 replace h := h.set 2 (.int .i64 (g 2))
 simp only [lsA, lsZ, lsS] at h
 replace h := h.set 3 (.int .i64 (g 3))
 simp only [lsA, lsZ, lsS] at h
 replace h := h.set 4 (.int .i64 (g 4))
 simp only [lsA, lsZ, lsS] at h
 replace h := h.set 5 (.int .i64 (g 5))
 simp only [lsA, lsZ, lsS] at h
 replace h := h.set 6 (.int .i64 (g 6))
 simp only [lsA, lsZ, lsS] at h
 replace h := h.set 7 (.int .i64 (g 7))
 simp only [lsA, lsZ, lsS] at h
 exact h
theorem Off.st8 {D : Nat → Prop} {a w : World} {b : Nat} (h : Off D a w) (hb : D b ∨ a.heap.size ≤ b) (g : Nat → Int) : Off D a ((((((((w.setCell ⟨b, 0, none⟩ (.int .i64 (g 0))).setCell ⟨b, 1, none⟩ (.int .i64 (g 1))).setCell ⟨b, 2, none⟩ (.int .i64 (g 2))).setCell ⟨b, 3, none⟩ (.int .i64 (g 3))).setCell ⟨b, 4, none⟩ (.int .i64 (g 4))).setCell ⟨b, 5, none⟩ (.int .i64 (g 5))).setCell ⟨b, 6, none⟩ (.int .i64 (g 6))).setCell ⟨b, 7, none⟩ (.int .i64 (g 7))) :=
 (((((((h.setCell hb _).setCell hb _).setCell hb _).setCell hb _).setCell hb _).setCell hb _).setCell hb _).setCell hb _
theorem results_vec {fn : Func} {p : Tmp} (h : fn.results = #[.cell p 27]) {tmps : Array Value} {w : World} {b : Nat} {f : Nat → Int} (hp : tmps.getD p undef = .pointer (some ⟨b, 0, none⟩)) (hc : Cel b 27 #[.int .i64 (f 0), .int .i64 (f 1), .int .i64 (f 2), .int .i64 (f 3), .int .i64 (f 4), .int .i64 (f 5), .int .i64 (f 6), .int .i64 (f 7)] w) :
  (results fn tmps).run Try.prog w = .ok (.agg #[.int .i64 (f 0), .int .i64 (f 1), .int .i64 (f 2), .int .i64 (f 3), .int .i64 (f 4), .int .i64 (f 5), .int .i64 (f 6), .int .i64 (f 7)]) w :=
 results_cell_row h tmps w b 27 _ (0, 0) (.array 8 2) hp hc.is (by kernel_rfl) rfl (by kernel_rfl)
set_option maxRecDepth 100000 in
set_option maxHeartbeats 1000000 in
theorem join_any (a b : Nat → Int) (w : World) :
  Calls Try.prog 39 #[.agg #[.int .i64 (a 0), .int .i64 (a 1), .int .i64 (a 2), .int .i64 (a 3), .int .i64 (a 4), .int .i64 (a 5), .int .i64 (a 6), .int .i64 (a 7)], .agg #[.int .i64 (b 0), .int .i64 (b 1), .int .i64 (b 2), .int .i64 (b 3), .int .i64 (b 4), .int .i64 (b 5), .int .i64 (b 6), .int .i64 (b 7)]] w fun e w' => ∃ g : Nat → Int, e = .returned (.agg #[.int .i64 (g 0), .int .i64 (g 1), .int .i64 (g 2), .int .i64 (g 3), .int .i64 (g 4), .int .i64 (g 5), .int .i64 (g 6), .int .i64 (g 7)]) ∧ (∀ j, j < 8 → g j = max (a j) (b j)) ∧ Off (fun _ => False) w w' := by
 go_enter Try.func39, Try.ntmps39
 go_wp2_with fail
 go_loopw [8] (fun y wr => ∃ (n : Nat) (g : Nat → Int), y = .int .i64 (n : Int) ∧ n ≤ 8 ∧ (∀ j, j < 8 → g j = if j < n then max (a j) (b j) else a j) ∧ Cel w.heap.size 27 #[.int .i64 (g 0), .int .i64 (g 1), .int .i64 (g 2), .int .i64 (g 3), .int .i64 (g 4), .int .i64 (g 5), .int .i64 (g 6), .int .i64 (g 7)] wr ∧ Cel (w.heap.size + 2) 27 #[.int .i64 (zer 0), .int .i64 (zer 1), .int .i64 (zer 2), .int .i64 (zer 3), .int .i64 (zer 4), .int .i64 (zer 5), .int .i64 (zer 6), .int .i64 (zer 7)] wr ∧ Off (fun _ => False) w wr) (fun y _ => (8 - intOf y).toNat)
 case atStart =>
  refine ⟨0, a, rfl, by omega, by simp, ((Cel.new w _ _).alloc _).alloc _, ?_, (((Off.refl _ w).alloc _).alloc _).alloc _⟩
  have := Cel.new ((w.alloc (.cells #[.int .i64 (a 0), .int .i64 (a 1), .int .i64 (a 2), .int .i64 (a 3), .int .i64 (a 4), .int .i64 (a 5), .int .i64 (a 6), .int .i64 (a 7)] 27)).alloc (.cells #[.int .i64 (b 0), .int .i64 (b 1), .int .i64 (b 2), .int .i64 (b 3), .int .i64 (b 4), .int .i64 (b 5), .int .i64 (b 6), .int .i64 (b 7)] 27)) 27 #[.int .i64 (zer 0), .int .i64 (zer 1), .int .i64 (zer 2), .int .i64 (zer 3), .int .i64 (zer 4), .int .i64 (zer 5), .int .i64 (zer 6), .int .i64 (zer 7)]
  simp only [World.size_alloc] at this
  exact this
 case round =>
  obtain ⟨n, g, rfl, hn, hg, cb, cr, O⟩ := hrel
  have HG : Hid _ := hg
  have CB : Hid _ := cb
  have CR : Hid _ := cr
  clear hg cb cr
  by_cases h : n < 8
  ·have hd : decide ((n : Int) < 8) = true := by simp; omega
   have hi := idx_vec b h
   have ha := at_vec w.heap.size h
   have hm := max_vec (g n) (b n)
   have hc : wr.cell? ⟨w.heap.size, n, none⟩ = some (.int .i64 (g n)) := (CB.out.cell n).trans (vec_get g h)
   have hf : wr.frozen? ⟨w.heap.size, n, none⟩ = false := CB.out.free n
   go_wp2_with fail
   go_roundw
   case rel =>
    refine ⟨n + 1, upd g n (max (g n) (b n)), by go_num, by omega, fun j hj => ?_, ?_, ?_, ?_⟩
    ·have := HG.out j hj
     have h2 := HG.out n h
     simp only [upd]
     split
     ·subst j
      simp at h2
      simp [h2]
     ·rw [this]
      have e : (j < n + 1) ↔ (j < n) := by omega
      simp [e]
    ·have := CB.out.set n (.int .i64 (max (g n) (b n)))
     rw [vec_set g h] at this
     exact this
    ·exact CR.out.other (by simp) _
    ·exact O.setCell (.inr (by simp)) _
   case measure => simp [intOf]; omega
  ·obtain rfl : n = 8 := by omega
   obtain ⟨c0, c1, c2, c3, c4, c5, c6, c7⟩ := cel8 CB.out
   obtain ⟨d0, d1, d2, d3, d4, d5, d6, d7⟩ := cel8 CR.out
   have fr := CR.out.free
   go_wp2_with fail
   refine bodyPost_ret (results_vec rfl rfl (CR.out.st8 g)) rfl ?_
   exact ⟨g, rfl, fun j hj => by have := HG.out j hj; simpa [hj] using this, O.st8 (.inr (by omega)) g⟩
end Go.Proofs.Ytmjmgdbhmbjmaab
