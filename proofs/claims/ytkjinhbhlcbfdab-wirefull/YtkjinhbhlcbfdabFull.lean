/- The walk of WireFull. -/
import Derived.Test.YtkjinhbhlcbfdabArg
namespace Go.Proofs.Ytkjinhbhlcbfdab
open Go.RowKit

set_option maxRecDepth 100000 in
set_option maxHeartbeats 1000000 in
theorem full_walk (tad : Option Addr) (len cap : Nat) (bs : List Nat) (more : Int) (w : World) (w0 : ArgB w tad len cap bs) (w1 : (Lit.int .u64 more).wf = true) :
    Calls Try.prog 5 #[.slice tad len cap, .int .u64 more] w fun e w' => e = .returned (.bool true) ∧ Below w.heap.size w w' := by
  obtain ⟨m, rfl, hm⟩ : ∃ n : Nat, more = n ∧ n < 18446744073709551616 := by
    have hb : 0 ≤ more ∧ more ≤ 18446744073709551615 := by
      simp only [Lit.wf, Bool.and_eq_true, decide_eq_true_eq] at w1
      exact w1
    exact ⟨more.toNat, by omega, by omega⟩
  obtain ⟨rfl, hlt, hsrc, hbd⟩ := w0
  have HS : Hid (∀ w', Off (fun c => w.heap.size ≤ c) w w' → Src w' tad cap bs) := fun w' o => hsrc.off o (fun c hc _ h => by omega)
  clear hlt hsrc w1
  by_cases h : 100 < bs.length
  · go_enter Try.func5, Try.ntmps5
    go_wp2_with fail
    refine (awake_any w).mono ?_
    rintro e w1 ⟨rfl, o1⟩
    go_wp2_with fail
    go_ret
    exact ⟨rfl, o1.below (Nat.le_refl _) (fun _ h => h.elim)⟩
  · have e0 : ((bs.length : Int) + 1).toNat = bs.length + 1 := by omega
    have e1 : putS (bs.length + 1) (some []) (numB bs.length ++ bs) = some (bs.length :: bs) := by
      rw [numB_small (by omega)]
      simp [putS]
    have e2 : putS (bs.length + 1) (some (bs.length :: bs)) (numB m) = none := by
      have := numB_pos m
      simp [putS]
      omega
    have E0 : Hid _ := e0
    have E1 : Hid _ := e1
    have E2 : Hid _ := e2
    clear e0 e1 e2
    go_enter Try.func5, Try.ntmps5
    go_wp2_with fail
    refine (newWriter_any _ (by omega) w).mono ?_
    rintro e w1 ⟨rfl, A1, o1⟩
    rw [E0.out] at A1
    go_wp2_with fail
    refine (newWriter_any _ (by omega) w1).mono ?_
    rintro e w2 ⟨rfl, B2, o2⟩
    rw [E0.out] at B2
    have A2 := A1.off o2 (fun _ _ _ h => h)
    have O2 : Off (fun c => w.heap.size ≤ c) w w2 := (o1.mono (fun _ _ h => h.elim)).trans o2 (fun _ _ h => h.elim)
    have s1 := A1.lt _ A1.here
    have s0 := o1.size
    go_wp2_with fail
    refine (wtext_any A2 tad cap bs (fun w' o => HS.out w' (O2.trans o (fun i _ h => by omega))) (by simp; omega)).mono ?_
    rintro e w3 ⟨rfl, DA, A3, o3, g3⟩
    rw [E1.out] at A3
    have B3 := B2.off o3 (fun c _ h1 h2 => by omega)
    have lA : ∀ c, DA c → w.heap.size ≤ c := lo_step (fun c h => by omega) g3 O2.size
    have dj : ∀ c, DA c → ¬ c = w1.heap.size := dj_step (fun c h => by omega) g3 B2.lt
    have O3 := O2.trans o3 (fun i _ h => by omega)
    clear A1 A2 B2 o1 o2 o3 g3 O2
    go_wp2_with fail
    refine (wtext_any B3 tad cap bs (fun w' o => HS.out w' (O3.trans o (fun i _ h => by omega))) (by simp; omega)).mono ?_
    rintro e w4 ⟨rfl, DB, B4, o4, g4⟩
    rw [E1.out] at B4
    have A4 := A3.off o4 (fun c _ h1 h2 => dj c h1 h2)
    have lB : ∀ c, DB c → w.heap.size ≤ c := lo_step (fun c h => by omega) g4 O3.size
    have dj4 : ∀ c, DB c → ¬ DA c := dj_step (fun c h1 h2 => dj c h2 h1) g4 A3.lt
    have O4 := O3.trans o4 (fun i _ h => by omega)
    clear A3 B3 o4 g4 O3 dj
    go_wp2_with fail
    refine (wnum_any B4 m hm (by simp; omega)).mono ?_
    rintro e w5 ⟨rfl, DB', B5, o5, g5⟩
    rw [E2.out] at B5
    have A5 := A4.off o5 (fun c _ h1 h2 => dj4 c h2 h1)
    have O5 := O4.trans o5 (fun i _ h => lB i h)
    clear A4 B4 o5 g5 O4 dj4
    go_wp2_with fail
    refine (done_any A5 (by simp; omega)).mono ?_
    rintro e w6 ⟨t6, c6, rfl, own6, hb6, o6⟩
    have B6 := B5.off o6 (fun _ _ _ h => h)
    have O6 := O5.trans o6 (fun _ _ h => h.elim)
    clear own6 hb6
    go_wp2_with fail
    refine (done_any B6 (by simp)).mono ?_
    rintro e w7 ⟨t7, c7, rfl, own7, hb7, o7⟩
    have O7 := O6.trans o7 (fun _ _ h => h.elim)
    clear own7 hb7
    simp only [Option.getD_none, errW, List.length_nil]
    go_wp2_with fail
    refine (awake_any w7).mono ?_
    rintro e w8 ⟨rfl, o8⟩
    go_wp2_with fail
    go_ret
    exact ⟨rfl, (O7.trans o8 (fun _ _ h => h.elim)).below (Nat.le_refl _) (fun _ h => h)⟩
end Go.Proofs.Ytkjinhbhlcbfdab
