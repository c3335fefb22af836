/- The walk of LazyMakes. -/
import Derived.Test.YtbeaebemfcfkhaaMk
namespace Go.Proofs.Ytbeaebemfcfkhaa
open Go.RowKit

set_option maxHeartbeats 2000000 in
theorem makes_any (n : Int) (by_ : Int) (ad : Option Addr) (len cap : Nat) (hlen : len ≤ 9223372036854775807) (zs : List Int) (w : World)
    (hz : ∀ i, i < len → ∃ b off, ad = some ⟨b, off, none⟩ ∧ b < w.heap.size ∧ w.cell? ⟨b, off + i, none⟩ = some (.int .i64 (zs.getD i 0))) :
    Calls Try.prog 3 #[.int .i64 n, .int .u32 by_, .slice ad len cap] w fun e w' => e = .returned (.bool true) ∧ Below w.heap.size w w' := by
  have hmf : ∀ (fn : Fn) (first cap : Array Value) (w : World), (Instr.makeFunc fn first cap).run Try.prog w = .ok (.func fn first cap) w := fun _ _ _ _ => rfl
  obtain ⟨n', en'⟩ : ∃ n', n' = min n 5000 := ⟨_, rfl⟩
  obtain ⟨m, em⟩ : ∃ m, m = min n' 4096 := ⟨_, rfl⟩
  obtain ⟨K, eK⟩ : ∃ K, K = max 0 m := ⟨_, rfl⟩
  have hm1 : ∀ (ts : Array TypeId) (t : TypeId) (W : World), (Builtin.min_ ts t #[.int .i64 n, .int .i64 5000]).run Try.prog W = .ok (.int .i64 n') W := fun ts t W => by
    rw [run_min_int2, en']; congr 2; omega
  have hm2 : ∀ (ts : Array TypeId) (t : TypeId) (W : World), (Builtin.min_ ts t #[.int .i64 n', .int .i64 4096]).run Try.prog W = .ok (.int .i64 m) W := fun ts t W => by
    rw [run_min_int2, em]; congr 2; omega
  have hm3 : ∀ (ts : Array TypeId) (t : TypeId) (W : World), (Builtin.max_ ts t #[.int .i64 0, .int .i64 m]).run Try.prog W = .ok (.int .i64 K) W := fun ts t W => by
    rw [run_max_int2, eK]; congr 2; omega
  have eN : min (max n' 0) 4096 = K := by omega
  have hK1 : 0 ≤ K := by omega
  have hK2 : K ≤ 4096 := by omega
  have HZ : Hid _ := hz
  clear hz
  obtain ⟨v, hv⟩ : ∃ v, v = ((w.alloc (.cells #[.int .u32 by_] 22)).alloc (.cells #[.int .i64 0] 3)).alloc (.cells #[.bool true] 4) := ⟨_, rfl⟩
  have vs : v.heap.size = w.heap.size + 1 + 1 + 1 := by rw [hv]; simp
  have vI : mkInv (w.heap.size + 1 + 1) (w.heap.size + 1) w.heap.size by_ 0 v := by
    rw [hv]
    refine ⟨?_, ?_, ?_⟩
    · have := Cel.new ((w.alloc (.cells #[.int .u32 by_] 22)).alloc (.cells #[.int .i64 0] 3)) 4 #[.bool true]
      simpa using this
    · have := (Cel.new (w.alloc (.cells #[.int .u32 by_] 22)) 3 #[.int .i64 0]).alloc (.cells #[.bool true] 4)
      simpa using this
    · exact ((Cel.new w 22 #[.int .u32 by_]).alloc _).alloc _
  have vO : Off (fun c => w.heap.size ≤ c) w v := by rw [hv]; exact (((Off.refl _ w).alloc _).alloc _).alloc _
  have N : Hid _ := new_fn n' (.func 10) #[] #[.pointer (some ⟨w.heap.size + 1 + 1, 0, none⟩), .pointer (some ⟨w.heap.size + 1, 0, none⟩), .pointer (some ⟨w.heap.size, 0, none⟩)] v
  have HV : Hid _ := hv
  rw [eN, vs] at N
  clear hv vs eN eK em en'
  go_enter Try.func3, Try.ntmps3
  go_wp2_with fail
  rw [← HV.out]
  refine Calls.mono N.out ?_
  rintro e w1 ⟨rfl, t, o⟩
  have S0 : Sm (w.heap.size + 1 + 1 + 1) K (w.heap.size + 1 + 1) (w.heap.size + 1) w.heap.size by_ 0 0 w1 := .inl ⟨rfl, ⟨_, t⟩, (makes_makes _ _ _ 0 (by omega) by_ (by omega) (by omega) (by omega)).keep _ 0 v w1 (fun _ _ h => h) vI o⟩
  have O0 : Off (fun c => w.heap.size ≤ c) w w1 := vO.trans o (fun _ _ h => h.elim)
  have c0 := S0.calls
  clear vO o HV N
  go_wp2_with fail
  refine (len_any _ _ _ _ _ _ _ _ t).mono ?_
  rintro e w2 ⟨rfl, rfl⟩
  go_wp2_with fail
  refine (made_any _ _ _ _ _ _ _ _ t).mono ?_
  rintro e w2 ⟨rfl, rfl⟩
  clear t vI
  go_wp2_with fail
  clear hm1 hm2 hm3
  go_loopw [37] (fun i wr => ∃ (j : Nat) (c : Int), j ≤ len ∧ i = .int .i64 j ∧ Sm (w.heap.size + 1 + 1 + 1) K (w.heap.size + 1 + 1) (w.heap.size + 1) w.heap.size by_ 0 c wr ∧ Off (fun c => w.heap.size ≤ c) w wr) (fun i _ => (len - intOf i).toNat)
  case atStart => exact ⟨0, 0, by omega, rfl, S0, O0⟩
  case round =>
    clear S0 O0 c0
    obtain ⟨j, c, hj, rfl, S, O⟩ := hrel
    by_cases hlt : j < len
    · obtain ⟨b, off, rfl, hb, hc⟩ := HZ.out j hlt
      have hc' : wr.cell? ⟨b, off + j, none⟩ = some (.int .i64 (zs.getD j 0)) := (World.cell?_of_block (a := ⟨b, off + j, none⟩) (O.block b hb (by omega))).trans hc
      clear hc
      generalize zs.getD j 0 = z at *
      by_cases h50 : 50 ≤ j
      · have c1 := S.right
        go_wp2_with fail
        refine (awake_any _).mono ?_
        rintro e w4 ⟨rfl, o4⟩
        go_wp2_with fail
        go_ret
        exact ⟨rfl, (O.trans o4 (fun _ _ h => h.elim)).below (Nat.le_refl _) (fun _ h => h)⟩
      · rcases (show (0 ≤ z ∧ z < K) ∨ z < 0 ∨ K ≤ z by omega) with ⟨hz0, hz1⟩ | hz | hz
        · have A : Hid _ := at_sm_in (w.heap.size + 1 + 1 + 1) K hK1 hK2 (w.heap.size + 1 + 1) (w.heap.size + 1) w.heap.size by_ 0 c z hz0 hz1 wr.drew (by omega) (by omega) (by omega) (by omega) (Nat.zero_le _) S
          have c1 := S.by'
          have hKn : (K != 0) = true := by simp; omega
          clear S
          go_wp2_with fail
          refine wp_region_any (by kernel_rfl) ?_
          change wpAny _ _ _ _ _ _ _ (World.drew _)
          refine wpAny_take (i := 0) (v := .pointer (some ⟨w.heap.size + 1 + 1 + 1, 0, none⟩)) rfl (by kernel_rfl) (by kernel_rfl) (by kernel_rfl) (fun _ _ _ h => h) (Or.inl ⟨by rfl, fun _ => rfl⟩) ?_
          refine wpAny_take (i := 1) (v := .int .i64 z) rfl (by kernel_rfl) (by kernel_rfl) (by kernel_rfl) (fun _ _ _ h => h) (Or.inl ⟨by rfl, fun _ => rfl⟩) ?_
          refine wpAny_take (i := 3) (v := .int .u32 (z * by_ % 4294967296)) rfl (by kernel_rfl) (by kernel_rfl) (by kernel_rfl) (fun _ _ _ h => h) (Or.inl ⟨by rfl, fun _ => rfl⟩) ?_
          refine wpAny_ready (rs := [2]) (by kernel_rfl) (by simp) ?_
          refine AllReady.cons rfl (fun K' hK' => ?_) AllReady.nil
          go_simp
          refine Calls.mono A.out ?_
          rintro e w2 ⟨rfl, S2, O2⟩
          have d1 := S2.calls
          refine hK' _ _ ?_
          clear hK' K'
          refine mid_quiet 4 (by kernel_rfl) (by kernel_rfl) (by kernel_rfl) ?_
          simp only [List.drop_succ_cons, List.drop_zero]
          repeat (go_big_quiet_step ((go_at_call 12; refine Calls.quiet_of_same (Sm.made (b := w.heap.size + 1 + 1 + 1) (K := K) (cr := w.heap.size + 1 + 1) (cc := w.heap.size + 1) (cb := w.heap.size) (by_ := by_) (lo := 0) (c := K) ?_); exact S2)))
          refine wpQuiet_nil ?_
          intro _ hw'
          obtain ⟨nq, hw''⟩ := hw'
          subst hw''
          go_wp2_with fail
          go_roundw
          case rel => exact ⟨j + 1, K, by omega, by go_num, S2, (O.drew.trans O2 (fun i hi h => by omega)).drewN nq⟩
          case measure => simp [intOf]; omega
        · rcases (show c = 0 ∨ (c = K ∧ 0 < K) by rcases S with ⟨h, -⟩ | ⟨h, h', -⟩ <;> omega) with rfl | ⟨hcK, hp⟩
          · skip
            have c1 := S.calls
            have hd : decide (0 ≤ z) = false := by simp; omega
            go_wp2_with fail
            go_quiet (first | (go_at_call 13; refine Calls.quiet_of_same (at_sm_out (w.heap.size + 1 + 1 + 1) K (w.heap.size + 1 + 1) (w.heap.size + 1) w.heap.size by_ 0 0 z (.inl hz) _ ?_); exact S) | (go_at_call 12; refine Calls.quiet_of_same (Sm.made (b := w.heap.size + 1 + 1 + 1) (K := K) (cr := w.heap.size + 1 + 1) (cc := w.heap.size + 1) (cb := w.heap.size) (by_ := by_) (lo := 0) (c := 0) ?_); exact S))
            go_wp2_with fail
            go_roundw
            case rel => exact ⟨j + 1, 0, by omega, by go_num, S, O.drewN nq⟩
            case measure => simp [intOf]; omega
          · subst hcK
            have hKn : (c != 0) = true := by simp; omega
            have c1 := S.calls
            have hd : decide (0 ≤ z) = false := by simp; omega
            go_wp2_with fail
            go_quiet (first | (go_at_call 13; refine Calls.quiet_of_same (at_sm_out (w.heap.size + 1 + 1 + 1) c (w.heap.size + 1 + 1) (w.heap.size + 1) w.heap.size by_ 0 c z (.inl hz) _ ?_); exact S) | (go_at_call 12; refine Calls.quiet_of_same (Sm.made (b := w.heap.size + 1 + 1 + 1) (K := c) (cr := w.heap.size + 1 + 1) (cc := w.heap.size + 1) (cb := w.heap.size) (by_ := by_) (lo := 0) (c := c) ?_); exact S))
            go_wp2_with fail
            go_roundw
            case rel => exact ⟨j + 1, c, by omega, by go_num, S, O.drewN nq⟩
            case measure => simp [intOf]; omega
        · rcases (show c = 0 ∨ (c = K ∧ 0 < K) by rcases S with ⟨h, -⟩ | ⟨h, h', -⟩ <;> omega) with rfl | ⟨hcK, hp⟩
          · skip
            have c1 := S.calls
            have hz0 : 0 ≤ z := by omega
            have hd : decide (z < K) = false := by simp; omega
            go_wp2_with fail
            go_quiet (first | (go_at_call 13; refine Calls.quiet_of_same (at_sm_out (w.heap.size + 1 + 1 + 1) K (w.heap.size + 1 + 1) (w.heap.size + 1) w.heap.size by_ 0 0 z (.inr hz) _ ?_); exact S) | (go_at_call 12; refine Calls.quiet_of_same (Sm.made (b := w.heap.size + 1 + 1 + 1) (K := K) (cr := w.heap.size + 1 + 1) (cc := w.heap.size + 1) (cb := w.heap.size) (by_ := by_) (lo := 0) (c := 0) ?_); exact S))
            go_wp2_with fail
            go_roundw
            case rel => exact ⟨j + 1, 0, by omega, by go_num, S, O.drewN nq⟩
            case measure => simp [intOf]; omega
          · subst hcK
            have hKn : (c != 0) = true := by simp; omega
            have c1 := S.calls
            have hz0 : 0 ≤ z := by omega
            have hd : decide (z < c) = false := by simp; omega
            go_wp2_with fail
            go_quiet (first | (go_at_call 13; refine Calls.quiet_of_same (at_sm_out (w.heap.size + 1 + 1 + 1) c (w.heap.size + 1 + 1) (w.heap.size + 1) w.heap.size by_ 0 c z (.inr hz) _ ?_); exact S) | (go_at_call 12; refine Calls.quiet_of_same (Sm.made (b := w.heap.size + 1 + 1 + 1) (K := c) (cr := w.heap.size + 1 + 1) (cc := w.heap.size + 1) (cb := w.heap.size) (by_ := by_) (lo := 0) (c := c) ?_); exact S))
            go_wp2_with fail
            go_roundw
            case rel => exact ⟨j + 1, c, by omega, by go_num, S, O.drewN nq⟩
            case measure => simp [intOf]; omega
    · have c1 := S.right
      go_wp2_with fail
      refine (awake_any _).mono ?_
      rintro e w4 ⟨rfl, o4⟩
      go_wp2_with fail
      go_ret
      exact ⟨rfl, (O.trans o4 (fun _ _ h => h.elim)).below (Nat.le_refl _) (fun _ h => h)⟩

set_option linter.unusedVariables false in
theorem makes_walk (n by_ : Int) (ad : Option Addr) (len cap : Nat) (zs : List Int) (w : World) (w0 : (Lit.int .i64 n).wf = true) (w1 : (Lit.int .u32 by_).wf = true) (w2 : IsRow .i64 w ad len cap zs) :
    Calls Try.prog 3 #[.int .i64 n, .int .u32 by_, .slice ad len cap] w fun e w' => e = .returned (.bool true) ∧ Below w.heap.size w w' := makes_any n by_ ad len cap w2.len zs w w2.cells
end Go.Proofs.Ytbeaebemfcfkhaa
