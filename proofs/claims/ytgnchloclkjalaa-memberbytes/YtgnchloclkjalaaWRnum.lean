/- Taking a number. -/
import Derived.Test.YtgnchloclkjalaaWRdr
namespace Go.Proofs.Ytgnchloclkjalaa
open Go.RowKit

theorem acc_next {i acc x : Nat} (h : acc < 2 ^ (7 * i)) (hx : x < 128) : acc + x * 2 ^ (7 * i) < 2 ^ (7 * (i + 1)) := by
  rw [pow_step]
  have : x * 2 ^ (7 * i) ≤ 127 * 2 ^ (7 * i) := Nat.mul_le_mul_right _ (by omega)
  omega
theorem acc_room {i acc x : Nat} (hi : i ≤ 9) (h : acc < 2 ^ (7 * i)) (hx : x < 128) (h9 : i = 9 → x ≤ 1) : acc + x * 2 ^ (7 * i) < 18446744073709551616 := by
  by_cases h9' : i = 9
  · have := h9 h9'
    subst h9'
    have : x * 2 ^ (7 * 9) ≤ 1 * 2 ^ (7 * 9) := Nat.mul_le_mul_right _ this
    simp at h this ⊢
    omega
  · have h1 := acc_next h hx
    have h2 : (2 : Nat) ^ (7 * (i + 1)) ≤ 2 ^ 63 := Nat.pow_le_pow_right (by decide) (by omega)
    omega

set_option maxRecDepth 100000 in
set_option maxHeartbeats 2000000 in
theorem rnum_any {D : Nat → Prop} {b : Nat} {s : RS} {w : World} (hR : Rdr 53 D b s w) :
    Calls Try.prog 27 #[.pointer (some ⟨b, 0, none⟩)] w fun e w' => e = .returned (.int .u64 (((numS s).1 : Nat) : Int)) ∧ Rdr 53 D b (numS s).2 w' ∧ Off (fun c => c = b) w w' := by
  obtain ⟨l0, er⟩ := s
  by_cases her : er = 0
  · subst her
    go_enter Try.func27, Try.ntmps27
    go_wp2_with fail
    go_loopw [3, 4] (fun x y wr => ∃ (acc i : Nat) (l : List Nat), x = .int .u64 (acc : Int) ∧ y = .int .i64 (i : Int) ∧ i ≤ 9 ∧ acc < 2 ^ (7 * i) ∧ rdNum i acc l = rdNum 0 0 l0 ∧ Rdr 53 D b (l, 0) wr ∧ Off (fun c => c = b) w wr) (fun _ y _ => (10 - intOf y).toNat)
    case atStart => exact ⟨0, 0, l0, rfl, rfl, by omega, by simp, rfl, hR, Off.refl _ w⟩
    case round =>
      clear hR
      obtain ⟨acc, i, l, rfl, rfl, hi, hacc, heq, R, O⟩ := hrel
      have HE : Hid _ := heq
      have HA : Hid _ := hacc
      clear heq hacc
      match l with
      | [] =>
        have HN : Hid (numS (l0, 0) = (0, ([], 2))) := by
          show numS (l0, 0) = (0, ([], 2))
          simp only [numS, ne_eq, not_true_eq_false, if_false]
          rw [← HE.out]
          rfl
        clear HE HA
        go_wp2_with fail
        refine (rnext_any R).mono ?_
        rw [show nextS ([], 0) = (0, ([], 2)) from rfl]
        rintro e w1 ⟨rfl, R1, o1⟩
        go_wp2_with fail
        refine (failed_any R1).mono ?_
        rintro e w2 ⟨rfl, hw⟩
        rw [hw]
        clear hw w2
        go_wp2_with fail
        go_ret
        rw [HN.out]
        exact ⟨rfl, R1, O.trans o1 (fun _ _ h => h)⟩
      | c :: l =>
        have hc : c < 256 := R.ok.1 c (by simp)
        by_cases hbad : (0 < i ∧ c = 0) ∨ (i = 9 ∧ 1 < c)
        · have HN : Hid (numS (l0, 0) = (0, ([], 3))) := by
            show numS (l0, 0) = (0, ([], 3))
            simp only [numS, ne_eq, not_true_eq_false, if_false]
            rw [← HE.out]
            simp only [rdNum]
            rw [if_pos hbad]
          clear HE HA
          rcases hbad with ⟨b1, b2⟩ | ⟨b1, b2⟩
          · subst b2
            have hd1 : decide ((0 : Int) < (i : Int)) = true := by simp; omega
            go_wp2_with fail
            refine (rnext_any R).mono ?_
            rw [show nextS (0 :: l, 0) = (0, (l, 0)) from rfl]
            rintro e w1 ⟨rfl, R1, o1⟩
            go_wp2_with fail
            refine (failed_any R1).mono ?_
            rintro e w2 ⟨rfl, hw⟩
            rw [hw]
            clear hw w2
            go_wp2_with fail
            refine (fail_any R1 3 (by omega)).mono ?_
            rintro e w2 ⟨rfl, R2, o2⟩
            go_wp2_with fail
            go_ret
            rw [HN.out]
            exact ⟨rfl, R2, (O.trans o1 (fun _ _ h => h)).trans o2 (fun _ _ h => h)⟩
          · subst b1
            have hd1 : (((c : Nat) : Int) == 0) = false := by rw [beq_eq_false_iff_ne]; omega
            have hd2 : decide ((1 : Int) < (c : Int)) = true := by simp; omega
            go_wp2_with fail
            refine (rnext_any R).mono ?_
            rw [show nextS (c :: l, 0) = (c, (l, 0)) from rfl]
            rintro e w1 ⟨rfl, R1, o1⟩
            go_wp2_with fail
            refine (failed_any R1).mono ?_
            rintro e w2 ⟨rfl, hw⟩
            rw [hw]
            clear hw w2
            go_wp2_with fail
            refine (fail_any R1 3 (by omega)).mono ?_
            rintro e w2 ⟨rfl, R2, o2⟩
            go_wp2_with fail
            go_ret
            rw [HN.out]
            exact ⟨rfl, R2, (O.trans o1 (fun _ _ h => h)).trans o2 (fun _ _ h => h)⟩
        · obtain ⟨x, hx⟩ : ∃ x, x = c % 128 := ⟨_, rfl⟩
          have hx128 : x < 128 := by omega
          have hroom := acc_room hi HA.out hx128 (by omega)
          have hacc' := acc_next HA.out hx128
          obtain ⟨y, hy⟩ : ∃ y, y = x * 2 ^ (7 * i) := ⟨_, rfl⟩
          obtain ⟨z, hz⟩ : ∃ z, z = acc + y := ⟨_, rfl⟩
          have x1 : bits .andNot .u8 (c : Int) 128 = (x : Int) := by rw [hx]; exact andNot128 c hc
          have x2 : Op.shift .shl .u64 (x : Int) .i64 ((i : Int) * 7) = pure (.int .u64 (y : Int)) := by
            rw [hy, ← shl_at hi (by omega) .i64]
            congr 1
            omega
          have x4 : IntKind.u64.wrap ((x : Int) * 2 ^ (i * 7)) = (y : Int) := by
            rw [IntKind.wrap_u64, Nat.mul_comm i 7]
            have e : ((x : Int) * 2 ^ (7 * i)) = ((x * 2 ^ (7 * i) : Nat) : Int) := by push_cast; rfl
            rw [e, ← hy]
            omega
          have x3 : bits .or .u64 (acc : Int) (y : Int) = (z : Int) := by
            rw [hz, hy]
            exact or_add HA.out hroom
          have hz64 : z < 18446744073709551616 := by omega
          have HZ : Hid (z = acc + (c % 128) * 2 ^ (7 * i)) := by
            show z = acc + (c % 128) * 2 ^ (7 * i)
            rw [hz, hy, hx]
          have hzb : Hid (z < 2 ^ (7 * (i + 1))) := by
            show z < 2 ^ (7 * (i + 1))
            omega
          have HY : Hid (y = x * 2 ^ (7 * i)) := hy
          clear hz hy hx hroom hacc'
          have HB : Hid _ := hbad
          have split : (i = 0) ∨ (0 < i ∧ i ≠ 9 ∧ c ≠ 0) ∨ (i = 9 ∧ c ≠ 0 ∧ ¬ 1 < c) := by omega
          clear hbad
          by_cases h128 : c < 128
          · have HN : Hid (numS (l0, 0) = (z, (l, 0))) := by
              show numS (l0, 0) = (z, (l, 0))
              simp only [numS, ne_eq, not_true_eq_false, if_false]
              rw [← HE.out]
              simp only [rdNum]
              rw [if_neg HB.out, if_pos h128]
              simp only [HZ.out, show c % 128 = c by omega]
            have hd0 : decide ((c : Int) < 128) = true := by simp; omega
            rcases split with s0 | ⟨s0, s1, s2⟩ | ⟨s0, s1, s2⟩
            · have x5 : bits .or .u64 (acc : Int) (x : Int) = (z : Int) := by
                have e : y = x := by rw [HY.out, s0]; simp
                rw [← e]
                exact x3
              have S0 : Hid _ := s0
              go_wp2_with fail
              refine (rnext_any R).mono ?_
              rw [show nextS (c :: l, 0) = (c, (l, 0)) from rfl]
              rintro e w1 ⟨rfl, R1, o1⟩
              go_wp2_with fail
              refine (failed_any R1).mono ?_
              rintro e w2 ⟨rfl, hw⟩
              rw [hw]
              clear hw w2
              go_wp2_with fail
              go_ret
              rw [HN.out]
              exact ⟨rfl, R1, O.trans o1 (fun _ _ h => h)⟩
            · have hd1 : decide ((0 : Int) < (i : Int)) = true := by simp; omega
              have hd2 : (((c : Nat) : Int) == 0) = false := by rw [beq_eq_false_iff_ne]; omega
              have hd3 : (((i : Nat) : Int) == 9) = false := by rw [beq_eq_false_iff_ne]; omega
              have S0 : Hid _ := s0
              clear s0
              go_wp2_with fail
              refine (rnext_any R).mono ?_
              rw [show nextS (c :: l, 0) = (c, (l, 0)) from rfl]
              rintro e w1 ⟨rfl, R1, o1⟩
              go_wp2_with fail
              refine (failed_any R1).mono ?_
              rintro e w2 ⟨rfl, hw⟩
              rw [hw]
              clear hw w2
              go_wp2_with fail
              go_ret
              rw [HN.out]
              exact ⟨rfl, R1, O.trans o1 (fun _ _ h => h)⟩
            · have hd1 : decide ((0 : Int) < (i : Int)) = true := by simp; omega
              have hd2 : (((c : Nat) : Int) == 0) = false := by rw [beq_eq_false_iff_ne]; omega
              have hd3 : (((i : Nat) : Int) == 9) = true := by rw [beq_iff_eq]; omega
              have hd4 : decide ((1 : Int) < (c : Int)) = false := by simp; omega
              have x5 : IntKind.u64.wrap ((x : Int) * 9223372036854775808) = (y : Int) := by
                rw [← x4, s0]
                simp
              have S0 : Hid _ := s0
              go_wp2_with fail
              refine (rnext_any R).mono ?_
              rw [show nextS (c :: l, 0) = (c, (l, 0)) from rfl]
              rintro e w1 ⟨rfl, R1, o1⟩
              go_wp2_with fail
              refine (failed_any R1).mono ?_
              rintro e w2 ⟨rfl, hw⟩
              rw [hw]
              clear hw w2
              go_wp2_with fail
              go_ret
              rw [HN.out]
              exact ⟨rfl, R1, O.trans o1 (fun _ _ h => h)⟩
          · have HN : Hid (rdNum (i + 1) z l = rdNum 0 0 l0) := by
              show rdNum (i + 1) z l = rdNum 0 0 l0
              rw [← HE.out]
              simp only [rdNum]
              rw [if_neg HB.out, if_neg h128, HZ.out, show c - 128 = c % 128 by omega]
            have hd0 : decide ((c : Int) < 128) = false := by simp; omega
            rcases split with s0 | ⟨s0, s1, s2⟩ | ⟨s0, s1, s2⟩
            · have x5 : bits .or .u64 (acc : Int) (x : Int) = (z : Int) := by
                have e : y = x := by rw [HY.out, s0]; simp
                rw [← e]
                exact x3
              have S0 : Hid _ := s0
              go_wp2_with fail
              refine (rnext_any R).mono ?_
              rw [show nextS (c :: l, 0) = (c, (l, 0)) from rfl]
              rintro e w1 ⟨rfl, R1, o1⟩
              go_wp2_with fail
              refine (failed_any R1).mono ?_
              rintro e w2 ⟨rfl, hw⟩
              rw [hw]
              clear hw w2
              go_wp2_with fail
              go_roundw
              case rel => exact ⟨z, i + 1, l, rfl, by go_num, by have := S0.out; omega, hzb.out, HN.out, R1, O.trans o1 (fun _ _ h => h)⟩
              case measure => simp [intOf]; omega
            · have hd1 : decide ((0 : Int) < (i : Int)) = true := by simp; omega
              have hd2 : (((c : Nat) : Int) == 0) = false := by rw [beq_eq_false_iff_ne]; omega
              have hd3 : (((i : Nat) : Int) == 9) = false := by rw [beq_eq_false_iff_ne]; omega
              have S0 : Hid _ := s0
              clear s0
              go_wp2_with fail
              refine (rnext_any R).mono ?_
              rw [show nextS (c :: l, 0) = (c, (l, 0)) from rfl]
              rintro e w1 ⟨rfl, R1, o1⟩
              go_wp2_with fail
              refine (failed_any R1).mono ?_
              rintro e w2 ⟨rfl, hw⟩
              rw [hw]
              clear hw w2
              go_wp2_with fail
              go_roundw
              case rel => exact ⟨z, i + 1, l, rfl, by go_num, by have := S0.out; omega, hzb.out, HN.out, R1, O.trans o1 (fun _ _ h => h)⟩
              case measure => simp [intOf]; omega
            · omega
  · have hn : numS (l0, er) = (0, (l0, er)) := by simp [numS, her]
    have hx : nextS (l0, er) = (0, (l0, er)) := by simp [nextS, her]
    have HN : Hid _ := hn
    clear hn
    have hd : (((er : Nat) : Int) == 0) = false := by rw [beq_eq_false_iff_ne]; omega
    go_enter Try.func27, Try.ntmps27
    go_wp2_with fail
    go_loopw [3, 4] (fun x y wr => x = .int .u64 0 ∧ y = .int .i64 0 ∧ wr = w) (fun _ _ _ => 0)
    case atStart => exact ⟨rfl, rfl, rfl⟩
    case round =>
      obtain ⟨rfl, rfl, rfl⟩ := hrel
      have R := hR
      go_wp2_with fail
      refine (rnext_any R).mono ?_
      rw [hx]
      rintro e w1 ⟨rfl, R1, o1⟩
      go_wp2_with fail
      refine (failed_any R1).mono ?_
      rintro e w2 ⟨rfl, hw⟩
      rw [hw]
      clear hw w2
      go_wp2_with fail
      go_ret
      rw [HN.out]
      exact ⟨rfl, R1, o1⟩
end Go.Proofs.Ytgnchloclkjalaa
