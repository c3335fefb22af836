/- The walk of WireShort. -/
import Derived.Test.YtkjinhbhlcbfdabArg
namespace Go.Proofs.Ytkjinhbhlcbfdab
open Go.RowKit

theorem nat_u64 {x : Int} (h : (Lit.int .u64 x).wf = true) : ∃ n : Nat, x = n ∧ n < 18446744073709551616 := by
  have hb : 0 ≤ x ∧ x ≤ 18446744073709551615 := by
    simp only [Lit.wf, Bool.and_eq_true, decide_eq_true_eq] at h
    exact h
  exact ⟨x.toNat, by omega, by omega⟩
theorem int_i64 {x : Int} (h : (Lit.int .i64 x).wf = true) : -9223372036854775808 ≤ x ∧ x ≤ 9223372036854775807 := by
  simp only [Lit.wf, Bool.and_eq_true, decide_eq_true_eq] at h
  exact h

theorem size_any (n : Nat) (hn : n < 18446744073709551616) (w : World) :
    Calls Try.prog 18 #[.int .u64 (n : Int)] w fun e w' => e = .returned (.int .i64 ((numB n).length : Nat)) ∧ w' = w := by
  have hten := numB_ten hn
  go_enter Try.func18, Try.ntmps18
  go_wp2_with fail
  go_loopw [0, 3] (fun x o wr => ∃ (m k : Nat), x = .int .u64 (m : Int) ∧ o = .int .i64 (k : Int) ∧ k + (numB m).length = (numB n).length + 1 ∧ wr = w) (fun x _ _ => (intOf x).toNat)
  case atStart => exact ⟨n, 1, rfl, rfl, by omega, rfl⟩
  case round =>
    obtain ⟨m, k, rfl, rfl, hk, rfl⟩ := hrel
    have HK : Hid _ := hk
    have hpos := numB_pos m
    have hk10 : k ≤ 10 := by omega
    clear hk
    by_cases h : m < 128
    · have hd : decide ((128 : Int) ≤ (m : Int)) = false := by simp; omega
      go_wp2_with fail
      go_ret
      have := HK.out
      rw [numB_small h] at this
      simp at this
      exact ⟨by rw [← this]; rfl, rfl⟩
    · have hd : decide ((128 : Int) ≤ (m : Int)) = true := by simp; omega
      go_wp2_with fail
      go_roundw
      case rel =>
        refine ⟨m / 128, k + 1, by go_num, by go_num, ?_, trivial⟩
        have := HK.out
        rw [numB_big h] at this
        simp at this
        omega
      case measure => simp [intOf]; omega

theorem zig_not {i : Int} (h0 : i < 0) (h1 : -9223372036854775808 ≤ i) : bits .xor .u64 IntKind.u64.max (IntKind.u64.wrap (IntKind.u64.wrap i * 2)) = ((zig i : Nat) : Int) := by
  have em : IntKind.u64.max = 18446744073709551615 := by decide
  rw [em]
  obtain ⟨n, hn⟩ := Int.eq_ofNat_of_zero_le (show 0 ≤ -i - 1 by omega)
  obtain rfl : i = -(n : Int) - 1 := by omega
  rw [IntKind.wrap_u64, IntKind.wrap_u64]
  have e1 : ((-(n : Int) - 1) % 18446744073709551616 * 2 % 18446744073709551616) = ((18446744073709551616 - 2 * (n + 1) : Nat) : Int) := by omega
  have e2 := u64_xor_nat 18446744073709551615 (18446744073709551616 - 2 * (n + 1)) (by decide) (by omega)
  rw [Nat.xor_comm, xor_all _ (by omega)] at e2
  rw [e1]
  refine Eq.trans e2 ?_
  unfold zig
  rw [if_neg (by omega)]
  omega

set_option maxRecDepth 100000 in
set_option maxHeartbeats 1000000 in
theorem short_nat (n : Nat) (hn : n < 18446744073709551616) (i : Int) (h0 : -9223372036854775808 ≤ i) (h1 : i ≤ 9223372036854775807) (w : World) :
    Calls Try.prog 4 #[.int .u64 (n : Int), .int .i64 i] w fun e w' => e = .returned (.bool true) ∧ Below w.heap.size w w' := by
  have hz := zig_lt h0 h1
  have t1 := numB_ten hn
  have t2 := numB_ten hz
  have e1 : putS (Int.toNat 20) (some []) (numB n) = some (numB n) := by
    simp [putS]
    omega
  have e2 : putS (Int.toNat 20) (some []) (numB (zig i)) = some (numB (zig i)) := by
    simp [putS]
    omega
  have E1 : Hid _ := e1
  have E2 : Hid _ := e2
  clear e1 e2
  go_enter Try.func4, Try.ntmps4
  go_wp2_with fail
  refine (newWriter_any _ (by omega) w).mono ?_
  rintro e w1 ⟨rfl, A1, o1⟩
  go_wp2_with fail
  refine (newWriter_any _ (by omega) w1).mono ?_
  rintro e w2 ⟨rfl, B2, o2⟩
  have A2 := A1.off o2 (fun _ _ _ h => h)
  have O2 : Off (fun c => w.heap.size ≤ c) w w2 := (o1.mono (fun _ _ h => h.elim)).trans o2 (fun _ _ h => h.elim)
  have s1 := A1.lt _ A1.here
  have s0 := o1.size
  go_wp2_with fail
  refine (wnum_any A2 n hn (by simp)).mono ?_
  rintro e w3 ⟨rfl, DA, A3, o3, g3⟩
  rw [E1.out] at A3
  have B3 := B2.off o3 (fun c _ h1 h2 => by omega)
  have lA : ∀ c, DA c → w.heap.size ≤ c := lo_step (fun c h => by omega) g3 O2.size
  have dj : ∀ c, DA c → ¬ c = w1.heap.size := dj_step (fun c h => by omega) g3 B2.lt
  have O3 := O2.trans o3 (fun i _ h => by omega)
  clear A1 A2 B2 o1 o2 o3 g3 O2
  go_wp2_with fail
  refine (wint_any B3 i h0 h1 (by simp)).mono ?_
  rintro e w4 ⟨rfl, DB, B4, o4, g4⟩
  rw [E2.out] at B4
  have A4 := A3.off o4 (fun c _ h1 h2 => dj c h1 h2)
  have O4 := O3.trans o4 (fun i _ h => by omega)
  clear A3 B3 o4 g4 O3 dj
  go_wp2_with fail
  refine (done_any A4 (by simp; omega)).mono ?_
  rintro e w5 ⟨t5, c5, rfl, own5, hb5, o5⟩
  have B5 := B4.off o5 (fun _ _ _ h => h)
  have O5 := O4.trans o5 (fun _ _ h => h.elim)
  clear own5 hb5 B4 o5 O4
  go_wp2_with fail
  refine (done_any B5 (by simp; omega)).mono ?_
  rintro e w6 ⟨t6, c6, rfl, own6, hb6, o6⟩
  have O6 := O5.trans o6 (fun _ _ h => h.elim)
  clear own6 hb6 o6 O5 B5 A4
  simp only [Option.getD_some, errW]
  by_cases hneg : i < 0
  · have ez := zig_not hneg h0
    go_wp2_with fail
    refine (size_any n hn w6).mono ?_
    rintro e w7 ⟨rfl, hw7⟩
    rw [hw7]
    clear hw7 w7
    go_wp2_with fail
    refine (size_any (zig i) hz w6).mono ?_
    rintro e w7 ⟨rfl, hw7⟩
    rw [hw7]
    clear hw7 w7
    go_wp2_with fail
    refine (awake_any w6).mono ?_
    rintro e w8 ⟨rfl, o8⟩
    go_wp2_with fail
    go_ret
    exact ⟨rfl, (O6.trans o8 (fun _ _ h => h.elim)).below (Nat.le_refl _) (fun _ h => h)⟩
  · have ez : i * 2 = ((zig i : Nat) : Int) := by
      unfold zig
      rw [if_pos (by omega)]
      omega
    go_wp2_with fail
    refine (size_any n hn w6).mono ?_
    rintro e w7 ⟨rfl, hw7⟩
    rw [hw7]
    clear hw7 w7
    go_wp2_with fail
    refine (size_any (zig i) hz w6).mono ?_
    rintro e w7 ⟨rfl, hw7⟩
    rw [hw7]
    clear hw7 w7
    go_wp2_with fail
    refine (awake_any w6).mono ?_
    rintro e w8 ⟨rfl, o8⟩
    go_wp2_with fail
    go_ret
    exact ⟨rfl, (O6.trans o8 (fun _ _ h => h.elim)).below (Nat.le_refl _) (fun _ h => h)⟩

theorem short_walk (n i : Int) (w : World) (w0 : (Lit.int .u64 n).wf = true) (w1 : (Lit.int .i64 i).wf = true) :
    Calls Try.prog 4 #[.int .u64 n, .int .i64 i] w fun e w' => e = .returned (.bool true) ∧ Below w.heap.size w w' := by
  obtain ⟨m, rfl, hm⟩ := nat_u64 w0
  have hb := int_i64 w1
  exact short_nat m hm i hb.1 hb.2 w
end Go.Proofs.Ytkjinhbhlcbfdab
