/- The walk of PlanAll. -/
import Derived.Test.YtachdgbgcdplnaaAllT19
namespace Go.Proofs.Ytachdgbgcdplnaa
set_option maxRecDepth 100000
open Go.RowKit

theorem idx4 (x : Int) (b : Nat) (hb : b < 4) (W : World) : (Instr.index 30 (.agg #[.int .i64 x, .int .i64 x, .int .i64 x, .int .i64 x]) (.int .i64 (b : Int))).run Try.prog W = .ok (.int .i64 x) W := by
  have h0 : (Instr.index 30 (.agg #[.int .i64 x, .int .i64 x, .int .i64 x, .int .i64 x]) (.int .i64 0)).run Try.prog W = .ok (.int .i64 x) W := by kernel_rfl
  have h1 : (Instr.index 30 (.agg #[.int .i64 x, .int .i64 x, .int .i64 x, .int .i64 x]) (.int .i64 1)).run Try.prog W = .ok (.int .i64 x) W := by kernel_rfl
  have h2 : (Instr.index 30 (.agg #[.int .i64 x, .int .i64 x, .int .i64 x, .int .i64 x]) (.int .i64 2)).run Try.prog W = .ok (.int .i64 x) W := by kernel_rfl
  have h3 : (Instr.index 30 (.agg #[.int .i64 x, .int .i64 x, .int .i64 x, .int .i64 x]) (.int .i64 3)).run Try.prog W = .ok (.int .i64 x) W := by kernel_rfl
  rcases (by omega : b = 0 ∨ b = 1 ∨ b = 2 ∨ b = 3) with rfl | rfl | rfl | rfl
  · exact h0
  · exact h1
  · exact h2
  · exact h3
set_option maxHeartbeats 4000000 in
theorem all_walk (q0 q1 q2 : Int) (w : World) (_ : -9223372036854775808 ≤ q0 ∧ q0 ≤ 9223372036854775807) (_ : -9223372036854775808 ≤ q1 ∧ q1 ≤ 9223372036854775807) (_ : -9223372036854775808 ≤ q2 ∧ q2 ≤ 9223372036854775807) :
    Calls Try.prog 4 #[.int .i64 q0, .int .i64 q1, .int .i64 q2] w fun e w' => e = .returned (.bool true) ∧ Off (fun _ => False) w w' := by
  obtain ⟨n0, en, hn0⟩ := rem_any q0 7 (by omega)
  obtain ⟨m, hm⟩ : ∃ m : Nat, m = n0 + 1 := ⟨_, rfl⟩
  obtain ⟨N, hN⟩ : ∃ N : Nat, N = m + 1 := ⟨_, rfl⟩
  obtain ⟨s, es, hs⟩ := rem_any q1 (N : Int) (by omega)
  obtain ⟨t, et, ht⟩ := rem_any q2 1125899906842624 (by omega)
  have hN2 : 2 ≤ N := by omega
  have hN8 : N ≤ 8 := by omega
  have HM : Hid (N = m + 1 ∧ 1 ≤ m ∧ m ≤ 7 ∧ s < m + 1) := ⟨hN, by omega, by omega, by omega⟩
  have eN : (n0 : Int) + 2 = (N : Int) := by omega
  have mk := makeA N (by omega)
  have s7 : s ≤ 7 := by omega
  have HR : Hid (rndN (N : Int) = ((4 * m : Nat) : Int)) := by
    show _ = _
    unfold rndN
    rw [if_pos (by omega)]
    omega
  obtain ⟨R, hR⟩ : ∃ R, R = 4 * m := ⟨_, rfl⟩
  rw [← hR] at HR
  have HRM : Hid (R = 4 * m) := hR
  have hR28 : R ≤ 28 := by omega
  clear hN hm hn0 hs hR
  have HP : Hid (∀ k : Nat, peerN (N : Int) (s : Int) ((t : Int) + (k : Int)) = (((s + 1 + (t + k) % m) % (m + 1) : Nat) : Int)) := fun k => by
    have := HM.out
    rw [show (N : Int) = (m : Int) + 1 by omega]
    exact peer_nat m s (t + k) this.2.1 this.2.2.1 (by omega)
  have HB : Hid (∀ k : Nat, buckN (N : Int) ((t : Int) + (k : Int)) = (((t + k) / m % 4 : Nat) : Int)) := fun k => by
    have := HM.out
    rw [show (N : Int) = (m : Int) + 1 by omega]
    exact buck_nat m (t + k) this.2.1 this.2.2.1
  go_enter Try.func4, Try.ntmps4
  go_upto_region 4 with fail
  clear en eN et es
  go_upto_region 5 with fail
  have O1 : Off (fun _ => False) w (w.alloc (.cells (madeA N) 30)) := (Off.refl _ w).alloc _
  have C1 : NRow 30 w.heap.size (N * 4) (fun _ => 0) (w.alloc (.cells (madeA N) 30)) := NRow.newA w N
  generalize hv : w.alloc (.cells (madeA N) 30) = v1 at O1 C1 ⊢
  obtain ⟨q, hq⟩ : ∃ q, q = w.heap.size := ⟨_, rfl⟩
  rw [← hq] at C1 ⊢
  have HO1 : Hid (Off (fun _ => False) w v1) := O1
  have HC1 : Hid (NRow 30 q (N * 4) (fun _ => 0) v1) := C1
  have HQ : Hid (q = w.heap.size) := hq
  clear hv mk O1 hq C1
  go_wp2_with fail
  refine (rnd_any (N : Int) _).mono ?_
  rw [HR.out]
  rintro e w3 ⟨rfl, hw⟩
  rw [hw]
  clear hw w3 HR
  go_wp2_with fail
  go_loopw [33] (fun s33 wr => ∃ (i : Nat) (f : Nat → Int), s33 = .int .i64 (i : Int) ∧ i ≤ R ∧ Hid (∀ p b, p < N → b < 4 → f (p * 4 + b) = (cnt (tld m s t p b) i : Int)) ∧ Hid (NRow 30 q (N * 4) f wr) ∧ Hid (Off (fun c => c = q) v1 wr)) (fun i _ => ((R : Int) - intOf i).toNat)
  case atStart => exact ⟨0, fun _ => 0, rfl, by omega, fun _ _ _ _ => rfl, HC1.out, Off.refl _ _⟩
  case round =>
    obtain ⟨i, f, rfl, hi, HF, HR, HO⟩ := hrel
    clear HC1
    by_cases hlt : i < R
    · have e1 := HP.out i
      have e2 := HB.out i
      obtain ⟨p, hp⟩ : ∃ p, p = (s + 1 + (t + i) % m) % (m + 1) := ⟨_, rfl⟩
      obtain ⟨b, hb⟩ : ∃ b, b = (t + i) / m % 4 := ⟨_, rfl⟩
      have hpN : p < N := by rw [hp]; have := HM.out; rw [this.1]; exact Nat.mod_lt _ (by omega)
      have hb4 : b < 4 := by rw [hb]; exact Nat.mod_lt _ (by omega)
      have hps : ¬ p = s := by rw [hp]; have := HM.out; exact tld_peer m s (t + i) this.2.1 this.2.2.1 this.2.2.2
      rw [← hp] at e1
      rw [← hb] at e2
      have HE : Hid _ := e1
      have HE2 : Hid _ := e2
      have HPP : Hid (p = (s + 1 + (t + i) % m) % (m + 1)) := hp
      have HBB : Hid (b = (t + i) / m % 4) := hb
      clear e1 hp e2 hb
      go_wp2_with fail
      refine (peer_any (N : Int) (s : Int) ((t : Int) + (i : Int)) (by omega) _).mono ?_
      rw [HE.out]
      rintro e w2 ⟨rfl, o2⟩
      have HR2 : Hid _ := HR.out.off o2 (fun h => h)
      have HO2 : Hid _ := HO.out.trans o2 (fun _ _ h => h.elim)
      clear o2 HR HO HE
      go_wp2_with fail
      refine (buck_any (N : Int) ((t : Int) + (i : Int)) (by omega) _).mono ?_
      rw [HE2.out]
      rintro e w3 ⟨rfl, o3⟩
      have HR3 : Hid _ := HR2.out.off o3 (fun h => h)
      have HO3 : Hid _ := HO2.out.trans o3 (fun _ _ h => h.elim)
      clear o3 HR2 HO2 HE2
      have hpb : p * 4 + b < N * 4 := by omega
      have c1 := HR3.out.at_ hpb
      have c2 := HR3.out.free (p * 4 + b)
      have fb : 0 ≤ f (p * 4 + b) ∧ f (p * 4 + b) ≤ 28 := by have := HF.out p b hpN hb4; have h := cnt_le (tld m s t p b) i; omega
      obtain ⟨fb0, fb1⟩ := fb
      obtain ⟨y, hy⟩ : ∃ y, y = f (p * 4 + b) := ⟨_, rfl⟩
      have HY : Hid (y = f (p * 4 + b)) := hy
      rw [← hy] at c1 fb0 fb1
      clear hy
      have dps : ((p : Int) == (s : Int)) = false := by simp; omega
      clear ht hi hps
      go_upto_region 11 with fail
      go_region
      go_wp2_with fail
      go_roundw
      case rel =>
        have h := HR3.out.set (p * 4 + b) hpb (y + 1)
        rw [HY.out] at h
        rw [HY.out]
        refine ⟨i + 1, _, by go_num, by omega, ?_, h.off ((Off.refl (fun _ => False) _).drew) (fun h => h), (HO3.out.setCell (p := ⟨q, p * 4 + b, none⟩) (.inl rfl) _).drew⟩
        refine upd_cnt4 f (tld m s t) i p b N hb4 HF.out ?_ ?_
        · rw [HPP.out, HBB.out]
          exact tld_self m s t i
        · intro p' b' h
          refine tld_other m s t i p' b' ?_
          rw [← HPP.out, ← HBB.out]
          exact h
      case measure => simp [intOf]; omega
    · have hiR : i = R := by omega
      have HFF : Hid (∀ p b, p < N → b < 4 → f (p * 4 + b) = if p = s then 0 else 1) := fun p b hp hb => by
        have := HM.out
        rw [HF.out p b hp hb, hiR, HRM.out, all_cnt m s t p b this.2.1 this.2.2.1 this.2.2.2 (by omega) hb]
        split <;> rfl
      have HO2 : Hid (Off (fun _ => False) w wr) := HO1.out.trans HO.out (fun k hk e => by have := HQ.out; omega)
      have HR2 : Hid _ := HR
      have dd : decide ((i : Int) < (R : Int)) = false := decide_eq_false (by omega)
      have dd' : decide (i < R) = false := decide_eq_false (by omega)
      clear HF HR HO hiR ht
      go_wp2_with fail
      clear dd dd' hlt hi
      go_loopw [79] (fun s79 wx => ∃ j : Nat, s79 = .int .i64 (j : Int) ∧ j ≤ N ∧ Hid (NRow 30 q (N * 4) f wx) ∧ Hid (Off (fun _ => False) w wx)) (fun i _ => ((N : Int) - intOf i).toNat)
      case atStart => exact ⟨0, rfl, by omega, HR2.out, HO2.out⟩
      case round =>
        obtain ⟨j, rfl, hj, HR3, HO3⟩ := hrel
        clear HR2 HO2
        by_cases hlt : j < N
        · have g0 := HR3.out.at_ (show j * 4 + 0 < N * 4 by omega)
          have g1 := HR3.out.at_ (show j * 4 + 1 < N * 4 by omega)
          have g2 := HR3.out.at_ (show j * 4 + 2 < N * 4 by omega)
          have g3 := HR3.out.at_ (show j * 4 + 3 < N * 4 by omega)
          rw [HFF.out j _ hlt (by omega)] at g0 g1 g2 g3
          rw [Nat.add_zero] at g0
          obtain ⟨x, hx⟩ : ∃ x : Int, x = if j = s then 0 else 1 := ⟨_, rfl⟩
          rw [← hx] at g0 g1 g2 g3
          have HX : Hid (((x != 1) && ((j : Int) != (s : Int)) || ((x != 0) && ((j : Int) == (s : Int)))) = false ∧ (x = 0 ∨ x = 1)) := by
            show _ = _ ∧ _
            rw [hx]
            by_cases e : j = s
            · rw [if_pos e]; simp [e]
            · rw [if_neg e]; simp; omega
          have hxv : x = 0 ∧ ((j : Int) != (s : Int)) = false ∧ ((j : Int) == (s : Int)) = true ∨ x = 1 ∧ ((j : Int) != (s : Int)) = true ∧ ((j : Int) == (s : Int)) = false := by
            rw [hx]
            by_cases e : j = s
            · rw [if_pos e]; left; simp [e]
            · rw [if_neg e]; right; simp; omega
          have HXV : Hid (x = 0 ∧ ((j : Int) != (s : Int)) = false ∧ ((j : Int) == (s : Int)) = true ∨ x = 1 ∧ ((j : Int) != (s : Int)) = true ∧ ((j : Int) == (s : Int)) = false) := hxv
          clear hx hxv HX
          go_wp2_with fail
          have ix := idx4 x
          go_loopw [86] (fun s86 wx => ∃ b : Nat, s86 = .int .i64 (b : Int) ∧ b ≤ 4 ∧ Hid (NRow 30 q (N * 4) f wx) ∧ Hid (Off (fun _ => False) w wx)) (fun i _ => (4 - intOf i).toNat)
          case atStart => exact ⟨0, rfl, by omega, HR3.out, HO3.out⟩
          case round =>
            obtain ⟨b, rfl, hb, HR4, HO4⟩ := hrel
            clear HR3 HO3
            by_cases hb4 : b < 4
            · replace ix := ix b hb4
              rcases HXV.out with ⟨e, d1, d2⟩ | ⟨e, d1, d2⟩
              · have d3 : (x != 1) = true := by rw [e]; rfl
                have d4 : (x != 0) = false := by rw [e]; rfl
                clear e
                go_wp2_with fail
                go_roundw
                case rel => exact ⟨b + 1, by go_num, by omega, HR4.out, HO4.out⟩
                case measure => simp [intOf]; omega
              · have d3 : (x != 1) = false := by rw [e]; rfl
                have d4 : (x != 0) = true := by rw [e]; rfl
                clear e
                go_wp2_with fail
                go_roundw
                case rel => exact ⟨b + 1, by go_num, by omega, HR4.out, HO4.out⟩
                case measure => simp [intOf]; omega
            · have dd : decide ((b : Int) < 4) = false := decide_eq_false (by omega)
              have dd' : decide (b < 4) = false := decide_eq_false (by omega)
              go_wp2_with fail
              go_roundw
              case rel => exact ⟨j + 1, by go_num, by omega, HR4.out, HO4.out⟩
              case measure => simp [intOf]; omega
        · have dd : decide ((j : Int) < (N : Int)) = false := decide_eq_false (by omega)
          have dd' : decide (j < N) = false := decide_eq_false (by omega)
          go_wp2_with fail
          refine (awake_any _).mono ?_
          rintro e w9 ⟨rfl, o9⟩
          have O9 : Hid _ := HO3.out.trans o9 (fun _ _ h => h)
          clear o9
          go_wp2_with fail
          go_ret
          exact ⟨rfl, O9.out⟩
end Go.Proofs.Ytachdgbgcdplnaa
