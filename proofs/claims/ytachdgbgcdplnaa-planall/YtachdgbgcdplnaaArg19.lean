/- What the laws of plan share; PlanTells, PlanTurns. -/
import Derived.Test.YtachdgbgcdplnaaPp19
import Derived.OpenShut
import Derived.ChangeOld
import Derived.Below
import Derived.SizedLaws
namespace Go.Proofs.Ytachdgbgcdplnaa
set_option maxRecDepth 100000
open Go.RowKit

/-- The rest of a number, read without its sign. -/
theorem rem_any (a k : Int) (h0 : 0 < k) : ∃ r : Nat, (IntKind.u64.wrap a).tmod k = (r : Int) ∧ (r : Int) < k := by
  have hnn : 0 ≤ IntKind.u64.wrap a := by rw [IntKind.wrap_u64]; omega
  have e := Int.tmod_eq_emod_of_nonneg (b := k) hnn
  have h1 := Int.emod_nonneg (IntKind.u64.wrap a) (show k ≠ 0 by omega)
  have h2 := Int.emod_lt_of_pos (IntKind.u64.wrap a) h0
  obtain ⟨r, hr⟩ := Int.eq_ofNat_of_zero_le h1
  exact ⟨r, by rw [e, hr], by omega⟩
theorem wfI {n : Int} (h : (Lit.int .i64 n).wf = true) : -9223372036854775808 ≤ n ∧ n ≤ 9223372036854775807 := by
  simp [Lit.wf] at h
  exact h
set_option maxHeartbeats 4000000 in
theorem tells_walk (n s t h : Int) (w : World) (_ : -9223372036854775808 ≤ n ∧ n ≤ 9223372036854775807) (_ : -9223372036854775808 ≤ s ∧ s ≤ 9223372036854775807) (ht : -9223372036854775808 ≤ t ∧ t ≤ 9223372036854775807) (_ : -9223372036854775808 ≤ h ∧ h ≤ 9223372036854775807) :
    Calls Try.prog 3 #[.int .i64 n, .int .i64 s, .int .i64 t, .int .i64 h] w fun e w' => e = .returned (.bool true) ∧ Off (fun _ => False) w w' := by
  have HT : Hid (t ≤ 9223372036854775807) := ht.2
  clear ht
  go_enter Try.func3, Try.ntmps3
  go_wp2_with fail
  refine (peer_any n s t HT.out _).mono ?_
  rintro e w1 ⟨rfl, o1⟩
  have O1 : Hid _ := o1
  clear o1
  go_wp2_with fail
  refine (rpeer_any n s t HT.out _).mono ?_
  rintro e w2 ⟨rfl, hw⟩
  rw [hw]
  clear hw w2
  go_wp2_with fail
  refine (buck_any n t HT.out _).mono ?_
  rintro e w2 ⟨rfl, o2⟩
  have O2 : Hid _ := O1.out.trans o2 (fun _ _ h => h)
  clear o2 O1
  go_wp2_with fail
  refine (rbuck_any n t HT.out _).mono ?_
  rintro e w3 ⟨rfl, hw⟩
  rw [hw]
  clear hw w3
  go_wp2_with fail
  refine (rnd_any n _).mono ?_
  rintro e w3 ⟨rfl, hw⟩
  rw [hw]
  clear hw w3
  go_wp2_with fail
  refine (rrnd_any n _).mono ?_
  rintro e w3 ⟨rfl, hw⟩
  rw [hw]
  clear hw w3
  go_wp2_with fail
  refine (bnd_any n h _).mono ?_
  rintro e w3 ⟨rfl, hw⟩
  rw [hw]
  clear hw w3
  go_wp2_with fail
  refine (rbnd_any n h _).mono ?_
  rintro e w3 ⟨rfl, hw⟩
  rw [hw]
  clear hw w3
  go_wp2_with fail
  refine (awake_any _).mono ?_
  rintro e w3 ⟨rfl, o3⟩
  have O3 : Hid _ := O2.out.trans o3 (fun _ _ h => h)
  clear o3 O2
  go_wp2_with fail
  go_ret
  exact ⟨rfl, O3.out⟩
theorem peer_turn (m s t : Nat) (h1 : 1 ≤ m) (hm : m ≤ 7) (hs : s < m + 1) (k : Nat) : peerN ((m : Int) + 1) (s : Int) ((t : Int) + ((k * m : Nat) : Int)) = peerN ((m : Int) + 1) (s : Int) (t : Int) := by
  unfold peerN
  rw [if_pos (by omega), if_pos (by omega), show (m : Int) + 1 - 1 = (m : Int) by omega]
  congr 2
  rw [Int.tmod_eq_emod_of_nonneg (by omega), Int.tmod_eq_emod_of_nonneg (by omega), Int.natCast_mul, Int.add_mul_emod_self_right]
theorem buck_turn (m t k : Nat) (h1 : 1 ≤ m) (hm : m ≤ 7) : buckN ((m : Int) + 1) ((t : Int) + ((k * m : Nat) : Int)) = (buckN ((m : Int) + 1) (t : Int) + (k : Int)).tmod 4 := by
  unfold buckN
  rw [if_pos (by omega), if_pos (by omega), show (m : Int) + 1 - 1 = (m : Int) by omega, Int.tdiv_eq_ediv_of_nonneg (by omega), Int.tdiv_eq_ediv_of_nonneg (by omega), Int.natCast_mul, Int.add_mul_ediv_right _ _ (by omega)]
  have h := Int.ediv_nonneg (show (0 : Int) ≤ (t : Int) by omega) (show (0 : Int) ≤ (m : Int) by omega)
  generalize (t : Int) / (m : Int) = x at *
  have h4 := rem_b x 4 h (by omega)
  rw [Int.tmod_eq_emod_of_nonneg (show 0 ≤ x.tmod 4 + (k : Int) by omega), Int.tmod_eq_emod_of_nonneg (show 0 ≤ x + (k : Int) by omega), Int.tmod_eq_emod_of_nonneg h]
  omega
theorem buck_b (m t : Nat) (h1 : 1 ≤ m) (hm : m ≤ 7) : 0 ≤ buckN ((m : Int) + 1) (t : Int) ∧ buckN ((m : Int) + 1) (t : Int) < 4 := by
  unfold buckN
  rw [if_pos (by omega)]
  refine rem_b _ 4 ?_ (by omega)
  rw [Int.tdiv_eq_ediv_of_nonneg (by omega)]
  exact Int.ediv_nonneg (by omega) (by omega)
theorem peer_b (m s t : Nat) (h1 : 1 ≤ m) (hm : m ≤ 7) (hs : s < m + 1) : 0 ≤ peerN ((m : Int) + 1) (s : Int) (t : Int) ∧ peerN ((m : Int) + 1) (s : Int) (t : Int) < (m : Int) + 1 := by
  unfold peerN
  rw [if_pos (by omega)]
  refine rem_b _ _ ?_ (by omega)
  have := rem_b (t : Int) ((m : Int) + 1 - 1) (by omega) (by omega)
  omega
set_option maxHeartbeats 4000000 in
theorem turns_walk (q0 q1 q2 : Int) (w : World) (_ : -9223372036854775808 ≤ q0 ∧ q0 ≤ 9223372036854775807) (_ : -9223372036854775808 ≤ q1 ∧ q1 ≤ 9223372036854775807) (_ : -9223372036854775808 ≤ q2 ∧ q2 ≤ 9223372036854775807) :
    Calls Try.prog 6 #[.int .i64 q0, .int .i64 q1, .int .i64 q2] w fun e w' => e = .returned (.bool true) ∧ Off (fun _ => False) w w' := by
  obtain ⟨n0, en, hn0⟩ := rem_any q0 7 (by omega)
  obtain ⟨m, hm⟩ : ∃ m : Nat, m = n0 + 1 := ⟨_, rfl⟩
  obtain ⟨N, hN⟩ : ∃ N : Int, N = (m : Int) + 1 := ⟨_, rfl⟩
  obtain ⟨s, es, hs⟩ := rem_any q1 N (by omega)
  obtain ⟨t, et, ht⟩ := rem_any q2 1125899906842624 (by omega)
  have N2 : 2 ≤ N := by omega
  have N8 : N ≤ 8 := by omega
  have eN : (n0 : Int) + 2 = N := by omega
  have HR : Hid (rndN N = 4 * (m : Int)) := by show _ = _; unfold rndN; rw [if_pos ⟨N2, N8⟩]; omega
  have HP1 : Hid (peerN N (s : Int) ((t : Int) + rndN N) = peerN N (s : Int) (t : Int)) := by
    have h := peer_turn m s t (by omega) (by omega) (by omega) 4
    rw [HR.out, hN]
    rw [show ((4 * m : Nat) : Int) = 4 * (m : Int) by omega] at h
    exact h
  have HP2 : Hid (peerN N (s : Int) ((t : Int) + (N - 1)) = peerN N (s : Int) (t : Int)) := by
    have h := peer_turn m s t (by omega) (by omega) (by omega) 1
    rw [show ((1 * m : Nat) : Int) = N - 1 by omega, ← hN] at h
    exact h
  have hbb := buck_b m t (by omega) (by omega)
  rw [← hN] at hbb
  have HB1 : Hid (buckN N ((t : Int) + rndN N) = buckN N (t : Int)) := by
    have h := buck_turn m t 4 (by omega) (by omega)
    rw [HR.out]
    rw [show ((4 * m : Nat) : Int) = 4 * (m : Int) by omega, ← hN] at h
    rw [h]
    show (buckN N (t : Int) + (4 : Int)).tmod 4 = _
    rw [Int.tmod_eq_emod_of_nonneg (by omega)]
    omega
  have HB2 : Hid (buckN N ((t : Int) + (N - 1)) = (buckN N (t : Int) + 1).tmod 4) := by
    have h := buck_turn m t 1 (by omega) (by omega)
    rw [show ((1 * m : Nat) : Int) = N - 1 by omega, ← hN] at h
    exact h
  have hR : 0 ≤ rndN N ∧ rndN N ≤ 28 := rndN_b N
  have s7 : s ≤ 7 := by omega
  clear HR hs hN hn0 hm
  obtain ⟨R, hRR⟩ : ∃ R, R = rndN N := ⟨_, rfl⟩
  have HR : Hid (rndN N = R) := hRR.symm
  rw [← hRR] at HP1 HB1 hR
  obtain ⟨B, hB⟩ : ∃ B, B = buckN N (t : Int) := ⟨_, rfl⟩
  have HB : Hid (buckN N (t : Int) = B) := hB.symm
  rw [← hB] at HB1 HB2 hbb
  obtain ⟨P, hP⟩ : ∃ P, P = peerN N (s : Int) (t : Int) := ⟨_, rfl⟩
  have HP : Hid (peerN N (s : Int) (t : Int) = P) := hP.symm
  rw [← hP] at HP1 HP2
  obtain ⟨B2, hB2⟩ : ∃ B2, B2 = (B + 1).tmod 4 := ⟨_, rfl⟩
  rw [← hB2] at HB2
  have eB2 : (B + 1).tmod 4 = B2 := hB2.symm
  clear hB hP hRR hB2
  obtain ⟨r0, r1⟩ := hR
  obtain ⟨c0, c1⟩ := hbb
  go_enter Try.func6, Try.ntmps6
  go_upto_region 4 with fail
  clear en eN es et
  go_wp2_with fail
  refine (rnd_any N _).mono ?_
  rw [HR.out]
  rintro e w3 ⟨rfl, hw⟩
  rw [hw]
  clear hw w3 HR
  go_wp2_with fail
  refine (peer_any N (s : Int) (t : Int) (by omega) _).mono ?_
  rw [HP.out]
  rintro e w1 ⟨rfl, o1⟩
  have O1 : Hid _ := o1
  clear o1
  go_wp2_with fail
  refine (peer_any N (s : Int) ((t : Int) + R) (by omega) _).mono ?_
  rw [HP1.out]
  rintro e w2 ⟨rfl, o2⟩
  have O2 : Hid _ := O1.out.trans o2 (fun _ _ h => h)
  clear o2 O1
  go_wp2_with fail
  refine (buck_any N (t : Int) (by omega) _).mono ?_
  rw [HB.out]
  rintro e w3 ⟨rfl, o3⟩
  have O3 : Hid _ := O2.out.trans o3 (fun _ _ h => h)
  clear o3 O2
  go_wp2_with fail
  refine (buck_any N ((t : Int) + R) (by omega) _).mono ?_
  rw [HB1.out]
  rintro e w4 ⟨rfl, o4⟩
  have O4 : Hid _ := O3.out.trans o4 (fun _ _ h => h)
  clear o4 O3
  go_wp2_with fail
  refine (peer_any N (s : Int) ((t : Int) + (N - 1)) (by omega) _).mono ?_
  rw [HP2.out]
  rintro e w5 ⟨rfl, o5⟩
  have O5 : Hid _ := O4.out.trans o5 (fun _ _ h => h)
  clear o5 O4
  go_wp2_with fail
  refine (peer_any N (s : Int) (t : Int) (by omega) _).mono ?_
  rw [HP.out]
  rintro e w6 ⟨rfl, o6⟩
  have O6 : Hid _ := O5.out.trans o6 (fun _ _ h => h)
  clear o6 O5
  go_wp2_with fail
  refine (buck_any N ((t : Int) + (N - 1)) (by omega) _).mono ?_
  rw [HB2.out]
  rintro e w7 ⟨rfl, o7⟩
  have O7 : Hid _ := O6.out.trans o7 (fun _ _ h => h)
  clear o7 O6
  go_wp2_with fail
  refine (buck_any N (t : Int) (by omega) _).mono ?_
  rw [HB.out]
  rintro e w8 ⟨rfl, o8⟩
  have O8 : Hid _ := O7.out.trans o8 (fun _ _ h => h)
  clear o8 O7
  go_wp2_with fail
  refine (awake_any _).mono ?_
  rintro e w9 ⟨rfl, o9⟩
  have O9 : Hid _ := O8.out.trans o9 (fun _ _ h => h)
  clear o9 O8
  go_wp2_with fail
  go_ret
  exact ⟨rfl, O9.out⟩
end Go.Proofs.Ytachdgbgcdplnaa
