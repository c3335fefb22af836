/- How often: the theory; PlanFair. -/
import Derived.Test.YtachdgbgcdplnaaArg19
namespace Go.Proofs.Ytachdgbgcdplnaa
set_option maxRecDepth 100000
open Go.RowKit

/-- How many below i. -/
def cnt (P : Nat → Bool) : Nat → Nat
  | 0 => 0
  | i + 1 => cnt P i + (P i).toNat
theorem cnt_congr {P Q : Nat → Bool} : ∀ {i : Nat}, (∀ j, j < i → P j = Q j) → cnt P i = cnt Q i
  | 0, _ => rfl
  | i + 1, h => by show cnt P i + (P i).toNat = cnt Q i + (Q i).toNat; rw [cnt_congr fun j hj => h j (by omega), h i (by omega)]
theorem cnt_le (P : Nat → Bool) : ∀ i, cnt P i ≤ i
  | 0 => Nat.le_refl _
  | i + 1 => by have := cnt_le P i; show cnt P i + (P i).toNat ≤ i + 1; cases P i <;> simp <;> omega
theorem cnt_none {P : Nat → Bool} : ∀ {i : Nat}, (∀ j, j < i → P j = false) → cnt P i = 0
  | 0, _ => rfl
  | i + 1, h => by show cnt P i + (P i).toNat = 0; rw [cnt_none fun j hj => h j (by omega), h i (by omega)]; rfl
theorem peer_nat (m s t : Nat) (h1 : 1 ≤ m) (hm : m ≤ 7) (hs : s < m + 1) : peerN ((m : Int) + 1) (s : Int) (t : Int) = (((s + 1 + t % m) % (m + 1) : Nat) : Int) := by
  unfold peerN
  rw [if_pos (by omega), show (m : Int) + 1 - 1 = (m : Int) by omega, Int.tmod_eq_emod_of_nonneg (show (0 : Int) ≤ (t : Int) by omega)]
  rw [show (t : Int) % (m : Int) = ((t % m : Nat) : Int) from rfl, Int.tmod_eq_emod_of_nonneg (by omega)]
  rfl
theorem buck_nat (m t : Nat) (h1 : 1 ≤ m) (hm : m ≤ 7) : buckN ((m : Int) + 1) (t : Int) = ((t / m % 4 : Nat) : Int) := by
  unfold buckN
  rw [if_pos (by omega), show (m : Int) + 1 - 1 = (m : Int) by omega, Int.tdiv_eq_ediv_of_nonneg (show (0 : Int) ≤ (t : Int) by omega)]
  rw [show (t : Int) / (m : Int) = ((t / m : Nat) : Int) from rfl]
  generalize t / m = x
  rw [Int.tmod_eq_emod_of_nonneg (by omega)]
  rfl
theorem fair_dec : ∀ m, m < 8 → 1 ≤ m → ∀ r, r < m → ∀ p, p < m + 1 → cnt (fun s => (s + 1 + r) % (m + 1) == p) (m + 1) = 1 := by decide +kernel
theorem fair_all (m t p : Nat) (h1 : 1 ≤ m) (hm : m ≤ 7) (hp : p < m + 1) : cnt (fun s => (s + 1 + t % m) % (m + 1) == p) (m + 1) = 1 :=
  fair_dec m (by omega) h1 (t % m) (Nat.mod_lt _ (by omega)) p hp
theorem upd_cnt (f : Nat → Int) (P : Nat → Nat → Bool) (i p0 N : Nat) (hf : ∀ p, p < N → f p = (cnt (P p) i : Int)) (h0 : P p0 i = true) (h1 : ∀ p, p ≠ p0 → P p i = false) :
    ∀ p, p < N → upd f p0 (f p0 + 1) p = (cnt (P p) (i + 1) : Int) := by
  intro p hp
  by_cases e : p = p0
  · subst e
    rw [upd_same, hf p hp]
    show _ = ((cnt (P p) i + (P p i).toNat : Nat) : Int)
    rw [h0]
    rfl
  · rw [upd_ne _ _ e, hf p hp]
    show _ = ((cnt (P p) i + (P p i).toNat : Nat) : Int)
    rw [h1 p e]
    rfl
set_option maxHeartbeats 4000000 in
theorem fair_walk (q0 q1 : Int) (w : World) (_ : -9223372036854775808 ≤ q0 ∧ q0 ≤ 9223372036854775807) (_ : -9223372036854775808 ≤ q1 ∧ q1 ≤ 9223372036854775807) :
    Calls Try.prog 5 #[.int .i64 q0, .int .i64 q1] w fun e w' => e = .returned (.bool true) ∧ Off (fun _ => False) w w' := by
  obtain ⟨n0, en, hn0⟩ := rem_any q0 7 (by omega)
  obtain ⟨t, et, ht⟩ := rem_any q1 1125899906842624 (by omega)
  obtain ⟨m, hm⟩ : ∃ m : Nat, m = n0 + 1 := ⟨_, rfl⟩
  obtain ⟨N, hN⟩ : ∃ N : Nat, N = m + 1 := ⟨_, rfl⟩
  have hN2 : 2 ≤ N := by omega
  have hN8 : N ≤ 8 := by omega
  have HM : Hid (N = m + 1 ∧ 1 ≤ m ∧ m ≤ 7) := ⟨hN, by omega, by omega⟩
  have eN : (n0 : Int) + 2 = (N : Int) := by omega
  have mk := makeI N (by omega)
  clear hN hm hn0
  have HP : Hid (∀ s : Nat, s < N → peerN (N : Int) (s : Int) (t : Int) = (((s + 1 + t % m) % (m + 1) : Nat) : Int)) := fun s hs => by
    have := HM.out
    rw [show (N : Int) = (m : Int) + 1 by omega]
    exact peer_nat m s t this.2.1 this.2.2 (by omega)
  go_enter Try.func5, Try.ntmps5
  go_upto_region 4 with fail
  clear en eN et
  have O1 : Off (fun _ => False) w (w.alloc (.cells (madeI N) 3)) := (Off.refl _ w).alloc _
  have C1 : NRow 3 w.heap.size N (fun _ => 0) (w.alloc (.cells (madeI N) 3)) := NRow.newI w N
  generalize hv : w.alloc (.cells (madeI N) 3) = v1 at O1 C1 ⊢
  obtain ⟨q, hq⟩ : ∃ q, q = w.heap.size := ⟨_, rfl⟩
  rw [← hq] at C1 ⊢
  have HO1 : Hid (Off (fun _ => False) w v1) := O1
  have HC1 : Hid (NRow 3 q N (fun _ => 0) v1) := C1
  have HQ : Hid (q = w.heap.size) := hq
  clear hv mk O1 hq C1
  go_wp2_with fail
  go_loopw [22] (fun s22 wr => ∃ (i : Nat) (f : Nat → Int), s22 = .int .i64 (i : Int) ∧ i ≤ N ∧ Hid (∀ p, p < N → f p = (cnt (fun s => (s + 1 + t % m) % (m + 1) == p) i : Int)) ∧ Hid (NRow 3 q N f wr) ∧ Hid (Off (fun c => c = q) v1 wr)) (fun i _ => ((N : Int) - intOf i).toNat)
  case atStart => exact ⟨0, fun _ => 0, rfl, by omega, fun _ _ => rfl, HC1.out, Off.refl _ _⟩
  case round =>
    obtain ⟨i, f, rfl, hi, HF, HR, HO⟩ := hrel
    clear HC1
    by_cases hlt : i < N
    · have e1 := HP.out i hlt
      obtain ⟨p, hp⟩ : ∃ p, p = (i + 1 + t % m) % (m + 1) := ⟨_, rfl⟩
      have hpN : p < N := by rw [hp]; have := HM.out; rw [this.1]; exact Nat.mod_lt _ (by omega)
      rw [← hp] at e1
      have HE : Hid _ := e1
      have HPP : Hid (p = (i + 1 + t % m) % (m + 1)) := hp
      clear e1 hp
      go_wp2_with fail
      refine (peer_any (N : Int) (i : Int) (t : Int) (by omega) _).mono ?_
      rw [HE.out]
      rintro e w2 ⟨rfl, o2⟩
      have HR2 : Hid _ := HR.out.off o2 (fun h => h)
      have HO2 : Hid _ := HO.out.trans o2 (fun _ _ h => h.elim)
      clear o2 HR HO HE
      have c1 := HR2.out.at_ hpN
      have c2 := HR2.out.free p
      have fb : 0 ≤ f p ∧ f p ≤ 8 := by have := HF.out p hpN; have h := cnt_le (fun s => (s + 1 + t % m) % (m + 1) == p) i; omega
      obtain ⟨fb0, fb1⟩ := fb
      obtain ⟨y, hy⟩ : ∃ y, y = f p := ⟨_, rfl⟩
      have HY : Hid (y = f p) := hy
      rw [← hy] at c1 fb0 fb1
      clear hy
      have d1 : decide ((p : Int) < 0) = false := decide_eq_false (by omega)
      have d2 : decide ((N : Int) ≤ (p : Int)) = false := decide_eq_false (by omega)
      have d3 : decide (N ≤ p) = false := decide_eq_false (by omega)
      go_wp2_with fail
      go_roundw
      case rel =>
        have h := HR2.out.set p hpN (y + 1)
        rw [HY.out] at h
        rw [HY.out]
        refine ⟨i + 1, _, by go_num, by omega, ?_, h, HO2.out.setCell (.inl rfl) _⟩
        have := HPP.out
        exact upd_cnt f (fun p s => (s + 1 + t % m) % (m + 1) == p) i p N HF.out (by rw [this]; simp) (fun p' hne => by simp; omega)
      case measure => simp [intOf]; omega
    · have hiN : i = N := by omega
      have HFF : Hid (∀ p, p < N → f p = 1) := fun p hp => by
        have := HM.out
        rw [HF.out p hp, hiN, this.1, fair_all m t p this.2.1 this.2.2 (by omega)]
        rfl
      have HO2 : Hid (Off (fun _ => False) w wr) := HO1.out.trans HO.out (fun k hk e => by have := HQ.out; omega)
      have HR2 : Hid _ := HR
      have dd : decide ((i : Int) < (N : Int)) = false := decide_eq_false (by omega)
      have dd' : decide (i < N) = false := decide_eq_false (by omega)
      clear HF HR HO hiN
      go_wp2_with fail
      clear dd dd' hlt hi
      have HX0 : Hid (2 * rndN (N : Int) ≤ bndN (N : Int) 0 ∧ bndN (N : Int) 5 = bndN (N : Int) 0 + 5 ∧ 0 ≤ rndN (N : Int) ∧ rndN (N : Int) ≤ 28 ∧ bndN (N : Int) 0 ≤ 600) := by
        have h := rndN_b (N : Int)
        show _ ∧ _ ∧ _ ∧ _ ∧ _
        unfold bndN
        generalize rndN (N : Int) = r at *
        omega
      go_loopw [45] (fun s45 wx => ∃ j : Nat, s45 = .int .i64 (j : Int) ∧ j ≤ N ∧ Hid (NRow 3 q N f wx) ∧ Hid (Off (fun _ => False) w wx)) (fun i _ => ((N : Int) - intOf i).toNat)
      case atStart => exact ⟨0, rfl, by omega, HR2.out, HO2.out⟩
      case round =>
        obtain ⟨j, rfl, hj, HR3, HO3⟩ := hrel
        clear HR2 HO2
        by_cases hlt : j < N
        · have c1 := HR3.out.at_ hlt
          rw [HFF.out j hlt] at c1
          go_wp2_with fail
          go_roundw
          case rel => exact ⟨j + 1, by go_num, by omega, HR3.out, HO3.out⟩
          case measure => simp [intOf]; omega
        · have dd : decide ((j : Int) < (N : Int)) = false := decide_eq_false (by omega)
          have dd' : decide (j < N) = false := decide_eq_false (by omega)
          go_wp2_with fail
          clear dd dd' hlt hj
          obtain ⟨h1, h2, h3, h4, h5⟩ := HX0.out
          obtain ⟨R, hR⟩ : ∃ R, R = rndN (N : Int) := ⟨_, rfl⟩
          have HR : Hid (rndN (N : Int) = R) := hR.symm
          obtain ⟨X, hX⟩ : ∃ X, X = bndN (N : Int) 0 := ⟨_, rfl⟩
          have HX : Hid (bndN (N : Int) 0 = X) := hX.symm
          rw [← hX, ← hR] at h1
          rw [← hX] at h2 h5
          rw [← hR] at h3 h4
          have HX5 : Hid (bndN (N : Int) 5 = X + 5) := h2
          clear h2 hX hR HX0
          refine (bnd_any (N : Int) 0 _).mono ?_
          rw [HX.out]
          rintro e w3 ⟨rfl, hw⟩
          rw [hw]
          clear hw w3
          go_wp2_with fail
          refine (rnd_any (N : Int) _).mono ?_
          rw [HR.out]
          rintro e w3 ⟨rfl, hw⟩
          rw [hw]
          clear hw w3
          go_wp2_with fail
          refine (bnd_any (N : Int) 5 _).mono ?_
          rw [HX5.out]
          rintro e w3 ⟨rfl, hw⟩
          rw [hw]
          clear hw w3
          go_wp2_with fail
          refine (bnd_any (N : Int) 0 _).mono ?_
          rw [HX.out]
          rintro e w3 ⟨rfl, hw⟩
          rw [hw]
          clear hw w3
          go_wp2_with fail
          refine (awake_any _).mono ?_
          rintro e w9 ⟨rfl, o9⟩
          have O9 : Hid _ := HO3.out.trans o9 (fun _ _ h => h)
          clear o9
          go_wp2_with fail
          go_ret
          exact ⟨rfl, O9.out⟩
end Go.Proofs.Ytachdgbgcdplnaa
