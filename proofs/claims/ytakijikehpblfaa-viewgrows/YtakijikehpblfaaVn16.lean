/- The program's New; awake. -/
import Derived.Test.YtakijikehpblfaaVs16
namespace Go.Proofs.Ytakijikehpblfaa
set_option maxRecDepth 100000
open Go.RowKit

def clN (n : Int) : Nat := (min (max n 0) 8).toNat
theorem clN_eq (n : Int) : min (max n 0) 8 = (clN n : Int) := by unfold clN; omega
theorem clN_le (n : Int) : clN n ≤ 8 := by unfold clN; omega
/-- All are alive. -/
def d0 (n s : Nat) : VD := { n := n, self := s, m := fun _ => (0, 0), age := fun _ => 0, op := fun _ => 0 }
theorem max_int0 (a b : Int) : ∀ ts t W, (Builtin.max_ ts t #[.int .i64 a, .int .i64 b]).run Try.prog W = .ok (.int .i64 (max a b)) W := by
  intro ts t W
  go_simp
  split <;> omega
theorem min_int0 (a b : Int) : ∀ ts t W, (Builtin.min_ ts t #[.int .i64 a, .int .i64 b]).run Try.prog W = .ok (.int .i64 (min a b)) W := by
  intro ts t W
  go_simp
  split <;> omega
theorem new_no {q v : Int} (hh : hasB (clN q) v = false) (w : World) : Calls Try.prog 9 #[.int .i64 q, .int .i64 v] w fun e w' => e = .returned (.pointer none) ∧ Off (fun _ => False) w w' := by
  have hmx := max_int0 q 0
  have hmn := min_int0 (max q 0) 8
  have hle := clN_le q
  rw [clN_eq] at hmn
  generalize clN q = n at *
  have h1 : Hid (∀ W : World, W.cell? ⟨w.heap.size, 0, none⟩ = some (.int .i64 (n : Int)) → _) := fun W c0 => has_cell (p := w.heap.size) (n := n) v (w := W) c0
  rw [hh] at h1
  go_enter Try.func9, Try.ntmps9
  go_upto_region 2 with fail
  generalize hW : w.alloc (.cells #[.int .i64 (n : Int), .int .i64 v, .int .i64 0, .int .i64 0, .int .i64 0, .int .i64 0, .int .i64 0, .int .i64 0, .int .i64 0, .int .i64 0, .int .i64 0, .int .i64 0, .int .i64 0, .int .i64 0, .int .i64 0, .int .i64 0, .int .i64 0, .int .i64 0, .int .i64 0, .int .i64 0, .int .i64 0, .int .i64 0, .int .i64 0, .int .i64 0, .int .i64 0, .int .i64 0, .int .i64 0, .int .i64 0, .int .i64 0, .int .i64 0, .int .i64 0, .int .i64 0, .int .i64 0, .int .i64 0] 54) = W
  have HO : Hid (Off (fun _ => False) w W) := by rw [← hW]; exact (Off.refl _ w).alloc _
  have HCL : Hid (Cel w.heap.size 54 #[.int .i64 (n : Int), .int .i64 v, .int .i64 0, .int .i64 0, .int .i64 0, .int .i64 0, .int .i64 0, .int .i64 0, .int .i64 0, .int .i64 0, .int .i64 0, .int .i64 0, .int .i64 0, .int .i64 0, .int .i64 0, .int .i64 0, .int .i64 0, .int .i64 0, .int .i64 0, .int .i64 0, .int .i64 0, .int .i64 0, .int .i64 0, .int .i64 0, .int .i64 0, .int .i64 0, .int .i64 0, .int .i64 0, .int .i64 0, .int .i64 0, .int .i64 0, .int .i64 0, .int .i64 0, .int .i64 0] W) := by rw [← hW]; exact Cel.new w _ _
  have HC : Hid _ := h1.out W (HCL.out.cell 0)
  clear hW h1
  go_wp2_with fail
  refine Calls.mono HC.out ?_
  rintro e w2 ⟨rfl, hw⟩
  rw [hw]
  clear hw w2
  go_wp2_with fail
  go_ret
  exact ⟨rfl, HO.out⟩
theorem new_yes {q : Int} {i : Nat} (hi : i < clN q) (w : World) : Calls Try.prog 9 #[.int .i64 q, .int .i64 (i : Int)] w fun e w' => e = .returned (.pointer (some ⟨w.heap.size, 0, none⟩)) ∧ Vw w.heap.size (d0 (clN q) i) w' ∧ Off (fun _ => False) w w' := by
  have hmx := max_int0 q 0
  have hmn := min_int0 (max q 0) 8
  have hle := clN_le q
  rw [clN_eq] at hmn
  generalize clN q = n at *
  have h1 : Hid (∀ W : World, W.cell? ⟨w.heap.size, 0, none⟩ = some (.int .i64 (n : Int)) → _) := fun W c0 => has_cell (p := w.heap.size) (n := n) (i : Int) (w := W) c0
  rw [hasB_nat, decide_eq_true hi] at h1
  go_enter Try.func9, Try.ntmps9
  go_upto_region 2 with fail
  generalize hW : w.alloc (.cells #[.int .i64 (n : Int), .int .i64 (i : Int), .int .i64 0, .int .i64 0, .int .i64 0, .int .i64 0, .int .i64 0, .int .i64 0, .int .i64 0, .int .i64 0, .int .i64 0, .int .i64 0, .int .i64 0, .int .i64 0, .int .i64 0, .int .i64 0, .int .i64 0, .int .i64 0, .int .i64 0, .int .i64 0, .int .i64 0, .int .i64 0, .int .i64 0, .int .i64 0, .int .i64 0, .int .i64 0, .int .i64 0, .int .i64 0, .int .i64 0, .int .i64 0, .int .i64 0, .int .i64 0, .int .i64 0, .int .i64 0] 54) = W
  have HO : Hid (Off (fun _ => False) w W) := by rw [← hW]; exact (Off.refl _ w).alloc _
  have HCL : Hid (Cel w.heap.size 54 #[.int .i64 (n : Int), .int .i64 (i : Int), .int .i64 0, .int .i64 0, .int .i64 0, .int .i64 0, .int .i64 0, .int .i64 0, .int .i64 0, .int .i64 0, .int .i64 0, .int .i64 0, .int .i64 0, .int .i64 0, .int .i64 0, .int .i64 0, .int .i64 0, .int .i64 0, .int .i64 0, .int .i64 0, .int .i64 0, .int .i64 0, .int .i64 0, .int .i64 0, .int .i64 0, .int .i64 0, .int .i64 0, .int .i64 0, .int .i64 0, .int .i64 0, .int .i64 0, .int .i64 0, .int .i64 0, .int .i64 0] W) := by rw [← hW]; exact Cel.new w _ _
  have HC : Hid _ := h1.out W (HCL.out.cell 0)
  clear hW h1
  go_wp2_with fail
  refine Calls.mono HC.out ?_
  rintro e w2 ⟨rfl, hw⟩
  rw [hw]
  clear hw w2
  go_wp2_with fail
  go_ret
  exact ⟨rfl, ⟨HCL.out, hle, hi⟩, HO.out⟩
/-- The Ticks of each are few. -/
def Inv (d : VD) : Prop := ∀ i, 0 ≤ d.age i ∧ d.age i ≤ 5
theorem Inv.d0 (n s : Nat) : Inv (d0 n s) := fun _ => ⟨Int.le_refl 0, by show (0 : Int) ≤ 5; decide⟩
theorem Inv.hold {d : VD} (h : Inv d) (i : Nat) (x : Int × Int) : Inv (holdD d i x) := fun j => by
  rw [holdD_age]
  split
  · omega
  · exact h j
theorem Inv.tickS {d : VD} (h : Inv d) (i : Nat) : Inv (tickS d i) := fun j => by
  rw [tickS_age]
  have h1 := h i
  have h2 := h j
  split
  · split <;> omega
  · exact h2
theorem Inv.tickK {d : VD} (h : Inv d) (k : Nat) : Inv (tickK d k) := by
  induction k with
  | zero => exact h
  | succ k ih => exact ih.tickS k
theorem Inv.tick {d : VD} (h : Inv d) : Inv (tickD d) := h.tickK _
theorem Inv.sus {d : VD} (h : Inv d) (k : Int) : Inv (susD d k) := by
  unfold susD
  split
  · exact h.hold _ _
  · exact h
theorem Inv.ask {d : VD} (h : Inv d) (k : Int) : Inv (askD d k) := by
  unfold askD
  split <;> exact h
theorem Inv.hear {d : VD} (h : Inv d) (k : Int) : Inv (hearD d k) := by
  unfold hearD
  split <;> exact h
theorem Inv.few {d : VD} (h : Inv d) : ∀ i, i < d.n → 0 ≤ d.age i ∧ d.age i ≤ 1000000 := fun i _ => by have := h i; omega
/-- So many Ticks. -/
def tks (d : VD) : Nat → VD
  | 0 => d
  | k + 1 => tickD (tks d k)
theorem Inv.tks {d : VD} (h : Inv d) (k : Nat) : Inv (tks d k) := by
  induction k with
  | zero => exact h
  | succ k ih => exact ih.tick
set_option maxHeartbeats 1000000 in
theorem awake_any (w : World) : Calls Try.prog 11 #[] w fun e w' => e = .returned (.bool true) ∧ Off (fun _ => False) w w' := by
  have HN : Hid (Calls Try.prog 9 #[.int .i64 3, .int .i64 0] w fun e w' => e = .returned (.pointer (some ⟨w.heap.size, 0, none⟩)) ∧ Vw w.heap.size (d0 3 0) w' ∧ Off (fun _ => False) w w') := new_yes (q := 3) (i := 0) (by decide) w
  have HB : Hid (susB (d0 3 0) 1 = true) := by show _ = _; decide
  have HI : Hid (Inv (susD (d0 3 0) 1)) := (Inv.d0 3 0).sus 1
  have HS1 : Hid (((tks (susD (d0 3 0) 1) 6).m 1).1 = 2) := by show _ = _; decide
  have HS2 : Hid (((tks (susD (d0 3 0) 1) 6).m 2).1 = 0) := by show _ = _; decide
  have HS0 : Hid (((tks (susD (d0 3 0) 1) 6).m 0).1 = 0) := by show _ = _; decide
  have HNN : Hid ((tks (susD (d0 3 0) 1) 6).n = 3) := by show _ = _; decide
  go_enter Try.func11, Try.ntmps11
  go_wp2_with fail
  refine Calls.mono HN.out ?_
  rintro e w1 ⟨rfl, v1, o1⟩
  generalize hp : w.heap.size = p at v1 ⊢
  have HPW : Hid (w.heap.size = p) := hp
  have HO : Hid _ := o1
  have HC : Hid _ := suspect_any 1 v1
  rw [HB.out] at HC
  clear v1 o1 hp HN HB
  go_wp2_with fail
  refine Calls.mono HC.out ?_
  rintro e w2 ⟨rfl, v2, o2⟩
  have HV2 : Hid (Vw p (susD (d0 3 0) 1) w2) := v2
  have HO2 : Hid _ := HO.out.trans o2 (fun k hk e => absurd hk (by have e : k = p := e; have := HPW.out; omega))
  clear v2 o2 HC
  generalize susD (d0 3 0) 1 = D at *
  go_wp2_with fail
  go_loopw [10] (fun s10 wr => ∃ k : Nat, s10 = .int .i64 (k : Int) ∧ k ≤ 6 ∧ Vw p (tks D k) wr ∧ Off (fun _ => False) w wr) (fun i _ => ((6 : Int) - intOf i).toNat)
  case atStart => exact ⟨0, rfl, by omega, HV2.out, HO2.out⟩
  case round =>
    obtain ⟨k, rfl, hk, v, o⟩ := hrel
    have HV : Hid _ := v
    have HOK : Hid _ := o
    clear v o HV2 HO2
    by_cases hlt : k < 6
    · have HC : Hid _ := tick_any (HI.out.tks k).few HV.out
      go_wp2_with fail
      refine Calls.mono HC.out ?_
      rintro e w3 ⟨rfl, v3, o3⟩
      have HV3 : Hid (Vw p (tks D (k + 1)) w3) := v3
      have HO3 : Hid _ := HOK.out.trans o3 (fun k hk e => absurd hk (by have e : k = p := e; have := HPW.out; omega))
      clear v3 o3
      go_wp2_with fail
      go_roundw
      case rel => exact ⟨k + 1, by go_num, by omega, HV3.out, HO3.out⟩
      case measure => simp [intOf]; omega
    · obtain rfl : k = 6 := by omega
      have HC1 : Hid _ := state_any 1 HV.out
      have HC2 : Hid _ := state_any 2 HV.out
      have HC0 : Hid _ := state_any 0 HV.out
      rw [HNN.out, if_pos (by decide)] at HC1 HC2 HC0
      have q1 : (1 : Int).toNat = 1 := rfl
      have q2 : (2 : Int).toNat = 2 := rfl
      have q0 : (0 : Int).toNat = 0 := rfl
      rw [q1, HS1.out] at HC1
      rw [q2, HS2.out] at HC2
      rw [q0, HS0.out] at HC0
      clear q0 q1 q2
      go_wp2_with fail
      refine Calls.mono HC1.out ?_
      rintro e w3 ⟨rfl, hw⟩
      rw [hw]
      clear hw w3
      go_wp2_with fail
      refine Calls.mono HC2.out ?_
      rintro e w3 ⟨rfl, hw⟩
      rw [hw]
      clear hw w3
      go_wp2_with fail
      refine Calls.mono HC0.out ?_
      rintro e w3 ⟨rfl, hw⟩
      rw [hw]
      clear hw w3
      go_wp2_with fail
      go_ret
      exact ⟨rfl, HOK.out⟩
end Go.Proofs.Ytakijikehpblfaa
