/- The walk of WireNil: a writer, a reader that there isn't. -/
import Derived.Test.YtkjinhbhlcbfdaaReg
namespace Go.Proofs.Ytkjinhbhlcbfdaa
open Go.RowKit

theorem add_nil (h b : Value) (w : World) : Calls Try.prog 46 #[.pointer none, h, b] w fun e w' => e = .returned (.tuple #[]) ∧ w' = w := by
  go_enter Try.func46, Try.ntmps46
  go_wp2_with fail
  refine bodyPost_ret (results_none rfl _ _ _) rfl ?_
  exact ⟨rfl, rfl⟩
theorem wnum_nil (n : Nat) (hn : n < 18446744073709551616) (w : World) : Calls Try.prog 27 #[.pointer none, .int .u64 (n : Int)] w fun e w' => e = .returned (.tuple #[]) ∧ Off (fun _ => False) w w' := by
  go_enter Try.func27, Try.ntmps27
  go_wp2_with fail
  refine (parts_any n hn w).mono ?_
  rintro e w1 ⟨t, c, rfl, own, hblk, off⟩
  go_wp2_with fail
  refine (add_nil _ _ w1).mono ?_
  rintro e w2 ⟨rfl, hw⟩
  rw [hw]
  clear hw w2
  go_wp2_with fail
  go_end0
  exact ⟨rfl, off⟩
theorem wtext_nil (t : Option Addr) (len c : Nat) (hn : len ≤ 140737488355328) (w : World) : Calls Try.prog 30 #[.pointer none, .slice t len c] w fun e w' => e = .returned (.tuple #[]) ∧ Off (fun _ => False) w w' := by
  go_enter Try.func30, Try.ntmps30
  go_wp2_with fail
  refine (parts_any len (by omega) w).mono ?_
  rintro e w1 ⟨t', c', rfl, own, hblk, off⟩
  go_wp2_with fail
  refine (add_nil _ _ w1).mono ?_
  rintro e w2 ⟨rfl, hw⟩
  rw [hw]
  clear hw w2
  go_wp2_with fail
  go_end0
  exact ⟨rfl, off⟩
theorem wint_nil (i : Int) (h0 : -9223372036854775808 ≤ i) (h1 : i ≤ 9223372036854775807) (w : World) : Calls Try.prog 28 #[.pointer none, .int .i64 i] w fun e w' => e = .returned (.tuple #[]) ∧ Off (fun _ => False) w w' := by
  obtain ⟨z, hz⟩ : ∃ z, z = zig i := ⟨_, rfl⟩
  have hlt : z < 18446744073709551616 := hz ▸ zig_lt h0 h1
  have hb := zig_bits h0 h1
  rw [← hz] at hb
  clear hz
  go_enter Try.func28, Try.ntmps28
  go_wp2_with fail
  refine (wnum_nil z hlt w).mono ?_
  rintro e w1 ⟨rfl, P⟩
  go_wp2_with fail
  go_end0
  exact ⟨rfl, P⟩
theorem wflag_nil (w : World) : Calls Try.prog 29 #[.pointer none, .bool true] w fun e w' => e = .returned (.tuple #[]) ∧ Off (fun _ => False) w w' := by
  go_enter Try.func29, Try.ntmps29
  go_wp2_with fail
  refine (add_nil _ _ _).mono ?_
  rintro e w2 ⟨rfl, hw⟩
  rw [hw]
  clear hw w2
  go_wp2_with fail
  first | go_end0 | refine bodyPost_ret (results_none rfl _ _ _) rfl ?_
  exact ⟨rfl, (Off.refl _ w).alloc _⟩
theorem done_nil (w : World) : Calls Try.prog 11 #[.pointer none] w fun e w' => e = .returned (.tuple #[.slice none 0 0, .int .i64 1]) ∧ w' = w := by
  go_enter Try.func11, Try.ntmps11
  go_wp2_with fail
  go_ret2
  exact ⟨rfl, rfl⟩
theorem failed_nil (w : World) : Calls Try.prog 43 #[.pointer none] w fun e w' => e = .returned (.bool true) ∧ w' = w := by
  go_enter Try.func43, Try.ntmps43
  go_wp2_with fail
  go_ret
  exact ⟨rfl, rfl⟩
theorem next_nil (w : World) : Calls Try.prog 42 #[.pointer none] w fun e w' => e = .returned (.int .u8 0) ∧ w' = w := by
  go_enter Try.func42, Try.ntmps42
  go_wp2_with fail
  refine (failed_nil w).mono ?_
  rintro e w1 ⟨rfl, hw⟩
  rw [hw]
  clear hw w1
  go_wp2_with fail
  go_ret
  exact ⟨rfl, rfl⟩
theorem rnum_nil (w : World) : Calls Try.prog 14 #[.pointer none] w fun e w' => e = .returned (.int .u64 0) ∧ w' = w := by
  go_enter Try.func14, Try.ntmps14
  go_wp2_with fail
  go_loopw [3, 4] (fun x y wr => x = .int .u64 0 ∧ y = .int .i64 0 ∧ wr = w) (fun _ _ _ => 0)
  case atStart => exact ⟨rfl, rfl, rfl⟩
  case round =>
    obtain ⟨rfl, rfl, hwr⟩ := hrel
    rw [hwr]
    clear hwr wr
    go_wp2_with fail
    refine (next_nil w).mono ?_
    rintro e w1 ⟨rfl, hw⟩
    rw [hw]
    clear hw w1
    go_wp2_with fail
    refine (failed_nil w).mono ?_
    rintro e w1 ⟨rfl, hw⟩
    rw [hw]
    clear hw w1
    go_wp2_with fail
    go_ret
    exact ⟨rfl, rfl⟩
theorem rint_nil (w : World) : Calls Try.prog 16 #[.pointer none] w fun e w' => e = .returned (.int .i64 0) ∧ w' = w := by
  have x1 : bits .and .u64 0 1 = 0 := u64_odd 0 (by decide)
  have x2 : bits .xor .i64 0 0 = 0 := xor_none 0 (by decide)
  go_enter Try.func16, Try.ntmps16
  go_wp2_with fail
  refine (rnum_nil w).mono ?_
  rintro e w1 ⟨rfl, hw⟩
  rw [hw]
  clear hw w1
  go_wp2_with fail
  go_ret
  exact ⟨rfl, rfl⟩
theorem rflag_nil (w : World) : Calls Try.prog 18 #[.pointer none] w fun e w' => e = .returned (.bool false) ∧ w' = w := by
  go_enter Try.func18, Try.ntmps18
  go_wp2_with fail
  refine (next_nil w).mono ?_
  rintro e w1 ⟨rfl, hw⟩
  rw [hw]
  clear hw w1
  go_wp2_with fail
  go_ret
  exact ⟨rfl, rfl⟩
theorem rcount_nil (m : Int) (hm0 : -9223372036854775808 ≤ m) (hm : m ≤ 9223372036854775807) (w : World) : Calls Try.prog 22 #[.pointer none, .int .i64 m] w fun e w' => e = .returned (.int .i64 0) ∧ w' = w := by
  go_enter Try.func22, Try.ntmps22
  go_wp2_with fail
  refine (rnum_nil w).mono ?_
  rintro e w1 ⟨rfl, hw⟩
  rw [hw]
  clear hw w1
  by_cases h : m ≤ 0
  · go_wp2_with fail
    all_goals
      go_ret
      exact ⟨rfl, rfl⟩
  · go_wp2_with fail
    go_ret
    exact ⟨rfl, rfl⟩
theorem rtext_nil (m : Int) (hm0 : -9223372036854775808 ≤ m) (hm : m ≤ 9223372036854775807) (w : World) : Calls Try.prog 20 #[.pointer none, .int .i64 m] w fun e w' => e = .returned (.slice none 0 0) ∧ w' = w := by
  go_enter Try.func20, Try.ntmps20
  go_wp2_with fail
  refine (rcount_nil m hm0 hm w).mono ?_
  rintro e w1 ⟨rfl, hw⟩
  rw [hw]
  clear hw w1
  go_wp2_with fail
  refine (failed_nil w).mono ?_
  rintro e w1 ⟨rfl, hw⟩
  rw [hw]
  clear hw w1
  go_wp2_with fail
  go_ret
  exact ⟨rfl, rfl⟩
theorem rleft_nil (w : World) : Calls Try.prog 24 #[.pointer none] w fun e w' => e = .returned (.int .i64 0) ∧ w' = w := by
  go_enter Try.func24, Try.ntmps24
  go_wp2_with fail
  go_ret
  exact ⟨rfl, rfl⟩
theorem rend_nil (w : World) : Calls Try.prog 25 #[.pointer none] w fun e w' => e = .returned (.int .i64 1) ∧ w' = w := by
  go_enter Try.func25, Try.ntmps25
  go_wp2_with fail
  go_ret
  exact ⟨rfl, rfl⟩

theorem wrap_i64_ge (x : Int) : -9223372036854775808 ≤ IntKind.i64.wrap x ∧ IntKind.i64.wrap x ≤ 9223372036854775807 := by
  simp [IntKind.wrap, IntKind.bits, IntKind.signed]
  split <;> omega

set_option maxRecDepth 100000 in
set_option maxHeartbeats 1000000 in
theorem nil_walk (n : Int) (tad : Option Addr) (len cap : Nat) (bs : List Nat) (m : Int) (w : World) (w0 : (Lit.int .u64 n).wf = true) (w1 : ArgB w tad len cap bs) (w2 : (Lit.int .i64 m).wf = true) :
    Calls Try.prog 5 #[.int .u64 n, .slice tad len cap, .int .i64 m] w fun e w' => e = .returned (.bool true) ∧ Below w.heap.size w w' := by
  obtain ⟨n, rfl, hn⟩ := u64_nat w0
  have hm := i64_int w2
  obtain ⟨rfl, -, -, hlen⟩ := w1
  obtain ⟨i, hi⟩ : ∃ i, i = IntKind.i64.wrap (n : Int) := ⟨_, rfl⟩
  have hi1 : -9223372036854775808 ≤ i ∧ i ≤ 9223372036854775807 := hi ▸ wrap_i64_ge _
  have ei := hi.symm
  clear hi w0 w2
  go_enter Try.func5, Try.ntmps5
  go_wp2_with fail
  refine (wnum_nil n hn w).mono ?_
  rintro e w1 ⟨rfl, o1⟩
  go_wp2_with fail
  refine (wint_nil i hi1.1 hi1.2 w1).mono ?_
  rintro e w2 ⟨rfl, o2⟩
  go_wp2_with fail
  refine (wflag_nil w2).mono ?_
  rintro e w3 ⟨rfl, o3⟩
  go_wp2_with fail
  refine (wtext_nil tad bs.length cap (by omega) w3).mono ?_
  rintro e w4 ⟨rfl, o4⟩
  go_wp2_with fail
  refine (done_nil w4).mono ?_
  rintro e w5 ⟨rfl, hw⟩
  rw [hw]
  clear hw w5
  go_wp2_with fail
  refine (rnum_nil w4).mono ?_
  rintro e w5 ⟨rfl, hw⟩
  rw [hw]
  clear hw w5
  go_wp2_with fail
  refine (rint_nil w4).mono ?_
  rintro e w5 ⟨rfl, hw⟩
  rw [hw]
  clear hw w5
  go_wp2_with fail
  refine (rflag_nil w4).mono ?_
  rintro e w5 ⟨rfl, hw⟩
  rw [hw]
  clear hw w5
  have hnot : ∀ (x : Bool) (w : World), (Op.unary .not (.bool x)).run Try.prog w = .ok (.bool (!x)) w := fun _ _ => rfl
  go_wp2_with fail
  refine (rtext_nil m hm.1 hm.2 w4).mono ?_
  rintro e w5 ⟨rfl, hw⟩
  rw [hw]
  clear hw w5
  go_wp2_with fail
  refine (rcount_nil m hm.1 hm.2 w4).mono ?_
  rintro e w5 ⟨rfl, hw⟩
  rw [hw]
  clear hw w5
  go_wp2_with fail
  refine (rleft_nil w4).mono ?_
  rintro e w5 ⟨rfl, hw⟩
  rw [hw]
  clear hw w5
  go_wp2_with fail
  refine (rend_nil w4).mono ?_
  rintro e w5 ⟨rfl, hw⟩
  rw [hw]
  clear hw w5
  go_wp2_with fail
  refine (awake_any w4).mono ?_
  rintro e w5 ⟨rfl, o5⟩
  go_wp2_with fail
  go_ret
  exact ⟨rfl, ((((o1.trans o2 (fun _ _ h => h)).trans o3 (fun _ _ h => h)).trans o4 (fun _ _ h => h)).trans o5 (fun _ _ h => h)).below (Nat.le_refl _) (fun _ h => h.elim)⟩
end Go.Proofs.Ytkjinhbhlcbfdaa
