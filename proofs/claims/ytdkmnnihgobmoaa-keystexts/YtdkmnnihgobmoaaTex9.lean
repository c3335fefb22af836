/- Text of the program, KeyText of the reference. -/
import Derived.Test.YtdkmnnihgobmoaaApp9
namespace Go.Proofs.Ytdkmnnihgobmoaa
open Go.RowKit

theorem Off.drewN {D : Nat → Prop} {a w : World} (h : Off D a w) (n : Nat) : Off D a (w.drewN n) := ⟨h.os, h.tape, h.output, h.size, h.block⟩
theorem txt_take (l : List Nat) {i : Nat} (h : i < l.length) : txt (l.take (i + 1)) = txt (l.take i) ++ t1 (l.getD i 0) := by
  rw [List.take_add_one, List.getElem?_eq_getElem h]
  simp only [Option.toList_some]
  rw [txt_snoc]
  simp [List.getD_eq_getElem?_getD, h]
set_option maxRecDepth 100000 in
set_option maxHeartbeats 1000000 in
theorem text_any (s : ByteArray) (hs : s.size ≤ 40000000000000) (w : World) : Calls Try.prog 20 #[.string s] w fun e w' => ∃ r, e = .returned (.string r) ∧ tx r = txt (tx s) ∧ Off (fun _ => False) w w' := by
  have hl := tx_len s
  have HL : Hid _ := hl
  clear hl
  go_enter Try.func20, Try.ntmps20
  go_wp2
  go_loopw [3, 7] (fun l i wr => ∃ (j : Nat) (t : Option Addr) (c : Nat) (ys : List Nat), j ≤ s.size ∧ i = .int .i64 j ∧ l = .slice t ys.length c ∧ Hid (ys = txt ((tx s).take j)) ∧ OwnR wr t c ys ∧ Off (fun _ => False) w wr ∧ ∀ k, blk t = some k → w.heap.size ≤ k) (fun _ i _ => (s.size - intOf i).toNat)
  case atStart => exact ⟨0, none, 0, [], by omega, rfl, rfl, (rfl : [] = txt ((tx s).take 0)), OwnR.nil _, Off.refl _ _, by simp [blk]⟩
  case round =>
    obtain ⟨j, t, c, ys, hj, rfl, rfl, HYS, own, off, hfr⟩ := hrel
    have OWN : Hid _ := own
    have OFF : Hid _ := off
    have FR : Hid _ := hfr
    clear own off hfr
    by_cases hlt : j < s.size
    · have hix := idx_any s (i := j) (by rw [HL.out]; exact hlt) .i64
      have hc := tx_at s (i := j) (by rw [HL.out]; exact hlt)
      have hst := txt_take (tx s) (i := j) (by rw [HL.out]; exact hlt)
      rw [← HYS.out] at hst
      have hyl : ys.length ≤ 3 * j := by
        have h1 := (txt_len ((tx s).take j)).2
        rw [← HYS.out, List.length_take] at h1
        omega
      obtain ⟨x, hxx⟩ : ∃ x, x = (tx s).getD j 0 := ⟨_, rfl⟩
      rw [← hxx] at hix hc hst
      have HST : Hid _ := hst
      clear hst hxx
      go_wp2_with fail
      refine (addbyte_any OWN.out (by omega) x hc).mono ?_
      rintro e w2 ⟨t2, c2, zs, rfl, hzs, own2, off2, at2⟩
      have OWN2 : Hid _ := own2
      have OFF2 : Hid (Off (fun _ => False) w w2) := (OFF.out.mono (E := fun c => w.heap.size ≤ c) (fun _ _ h => h.elim)).trans off2 (fun k _ h => FR.out k h) |>.mono (fun i hi h => by omega)
      have FR2 : Hid (∀ k, blk t2 = some k → w.heap.size ≤ k) := fun k hk => by
        rcases at2 with e | e
        · exact FR.out k (e ▸ hk)
        · have := e k hk
          have := OFF.out.size
          omega
      clear own2 off2 at2
      go_wp2_with fail
      go_roundw
      case rel => exact ⟨j + 1, t2, c2, zs, by omega, by go_num, rfl, (hzs.out.trans HST.out.symm : zs = txt ((tx s).take (j + 1))), OWN2.out, OFF2.out, FR2.out⟩
      case measure => simp [intOf]; omega
    · obtain rfl : j = s.size := by omega
      have hcs := conv_src OWN.out.src
      go_wp2_with fail
      go_ret
      have e1 : ys = txt (tx s) := by rw [HYS.out, List.take_of_length_le (by rw [HL.out]; exact Nat.le_refl _)]
      refine ⟨strOf ys, rfl, ?_, OFF.out⟩
      rw [tx_strOf (by rw [e1]; exact txt_lt (tx_lt s)), e1]

theorem add_any (q r : ByteArray) (h : q.size + r.size ≤ 9223372036854775807) : ∃ z, tx z = tx q ++ tx r ∧ ∀ W, (Op.stringOp .add q r).run Try.prog W = .ok (.string z) W :=
  ⟨q ++ r, tx_append q r, fun W => run_string_add_sum W q r h⟩
theorem ext1 (s : ByteArray) {i : Nat} (h : i < (tx s).length) : tx (s.extract i (i + 1)) = [(tx s).getD i 0] := by
  rw [tx_extract, List.drop_take, Nat.add_sub_cancel_left, List.drop_eq_getElem_cons h, List.take_succ_cons, List.take_zero]
  simp [List.getD_eq_getElem?_getD, h]
theorem one_any (s : ByteArray) {i : Nat} (h : i < (tx s).length) (k1 k2 : IntKind) : ∃ r, tx r = [(tx s).getD i 0] ∧ ∀ W, (Instr.slice 9 (.string s) (some (.int k1 (i : Int))) (some (.int k2 ((i : Int) + 1))) none).run Try.prog W = .ok (.string r) W := by
  refine ⟨s.extract i (i + 1), ext1 s h, fun W => ?_⟩
  rw [tx_len] at h
  rw [run_slice_string W 9 s k1 k2 (i : Int) ((i : Int) + 1) Try.underlying9 (by omega) (by omega) (by omega)]
  congr 2
theorem dig_any (n : Nat) (h : n < 16) : ∃ r, tx r = [hx n] ∧ ∀ W, (Instr.slice 9 (.string ⟨#[48, 49, 50, 51, 52, 53, 54, 55, 56, 57, 97, 98, 99, 100, 101, 102]⟩) (some (.int .u8 (n : Int))) (some (.int .u8 ((n : Int) + 1))) none).run Try.prog W = .ok (.string r) W := by
  obtain ⟨r, e, hr⟩ := one_any ⟨#[48, 49, 50, 51, 52, 53, 54, 55, 56, 57, 97, 98, 99, 100, 101, 102]⟩ (i := n) (by simpa [tx] using h) .u8 .u8
  refine ⟨r, e.trans ?_, hr⟩
  congr 1
  match n, h with
  | 0, _ | 1, _ | 2, _ | 3, _ | 4, _ | 5, _ | 6, _ | 7, _ | 8, _ | 9, _ | 10, _ | 11, _ | 12, _ | 13, _ | 14, _ | 15, _ => rfl
  | n + 16, h => exact absurd h (by omega)
set_option maxRecDepth 100000 in
set_option maxHeartbeats 2000000 in
theorem keytext_any (s : ByteArray) (hs : s.size ≤ 1000000000000000) (w : World) : Calls Try.prog 21 #[.string s] w fun e w' => ∃ r, e = .returned (.string r) ∧ tx r = txt (tx s) ∧ Off (fun _ => False) w w' := by
  have hl := tx_len s
  have HL : Hid _ := hl
  clear hl
  go_enter Try.func21, Try.ntmps21
  go_wp2
  go_loopw [3, 8] (fun l i wr => ∃ (j : Nat) (q : ByteArray), j ≤ s.size ∧ i = .int .i64 j ∧ l = .string q ∧ tx q = txt ((tx s).take j) ∧ Off (fun _ => False) w wr) (fun _ i _ => (s.size - intOf i).toNat)
  case atStart => exact ⟨0, ⟨#[]⟩, by omega, rfl, rfl, rfl, Off.refl _ _⟩
  case round =>
    obtain ⟨j, q, hj, rfl, rfl, hq, off⟩ := hrel
    have HQ : Hid _ := hq
    have HO : Hid _ := off
    have hqs : q.size ≤ 3 * j := by
      have h1 := (txt_len ((tx s).take j)).2
      rw [← hq, tx_len, List.length_take] at h1
      omega
    clear hq off
    by_cases hlt : j < s.size
    · have hix := idx_any s (i := j) (by rw [HL.out]; exact hlt) .i64
      have hc := tx_at s (i := j) (by rw [HL.out]; exact hlt)
      obtain ⟨r, hr, SL⟩ := one_any s (i := j) (by rw [HL.out]; exact hlt) .i64 .i64
      have hrs : r.size = 1 := by rw [← tx_len, hr]; rfl
      obtain ⟨c, hcc⟩ : ∃ c, c = (tx s).getD j 0 := ⟨_, rfl⟩
      rw [← hcc] at hix hc hr
      have HCC : Hid _ := hcc
      have HR : Hid _ := hr
      clear hcc hr
      obtain ⟨h4, hh4⟩ : ∃ h4, h4 = c / 16 := ⟨_, rfl⟩
      obtain ⟨l4, hl4⟩ : ∃ l4, l4 = c % 16 := ⟨_, rfl⟩
      have lh : h4 < 16 := by omega
      have ll : l4 < 16 := by omega
      have SHR : (c : Int) / 16 = (h4 : Int) := by omega
      have AND : bits .and .u8 (c : Int) 15 = (l4 : Int) := by rw [and15 hc, hl4]
      have HH4 : Hid _ := hh4
      have HL4 : Hid _ := hl4
      clear hh4 hl4
      by_cases h1 : 97 ≤ c
      · by_cases h2 : c ≤ 122
        · have e1 : decide ((97 : Int) ≤ (c : Int)) = true := decide_eq_true (by omega)
          have e2 : decide ((c : Int) ≤ 122) = true := decide_eq_true (by omega)
          have hp : pl c = true := (pl_iff c).2 (by omega)
          have HP : Hid _ := hp
          clear hp
          obtain ⟨q2, hq2, ADD⟩ := add_any q r (by omega)
          have hqe : tx q2 = txt ((tx s).take (j + 1)) := by rw [hq2, HQ.out, HR.out, txt_take (tx s) (by rw [HL.out]; exact hlt), ← HCC.out, t1_pl HP.out]
          have HQ2 : Hid _ := hqe
          clear hq2 hqe
          go_wp2_with fail
          go_roundw
          case rel => exact ⟨j + 1, q2, by omega, by go_num, rfl, HQ2.out, HO.out⟩
          case measure => simp [intOf]; omega
        · have e1 : decide ((97 : Int) ≤ (c : Int)) = true := decide_eq_true (by omega)
          have e2 : decide ((c : Int) ≤ 122) = false := decide_eq_false (by omega)
          have e3 : decide ((48 : Int) ≤ (c : Int)) = true := decide_eq_true (by omega)
          have e4 : decide ((c : Int) ≤ 57) = false := decide_eq_false (by omega)
          have hp : pl c = false := by
            rw [← Bool.not_eq_true, pl_iff]
            omega
          have HP : Hid _ := hp
          clear hp
          obtain ⟨r1, hr1, SL1⟩ := dig_any h4 (by omega)
          obtain ⟨r3, hr3, SL3⟩ := dig_any l4 (by omega)
          have z1 : r1.size = 1 := by rw [← tx_len, hr1]; rfl
          have z3 : r3.size = 1 := by rw [← tx_len, hr3]; rfl
          obtain ⟨r2, hr2, ADD2⟩ := add_any ⟨#[37]⟩ r1 (by rw [z1]; decide)
          have z2 : r2.size = 2 := by rw [← tx_len, hr2, hr1]; rfl
          obtain ⟨r4, hr4, ADD4⟩ := add_any r2 r3 (by omega)
          have z4 : r4.size = 3 := by rw [← tx_len, hr4, hr2, hr1, hr3]; rfl
          obtain ⟨q2, hq2, ADD⟩ := add_any q r4 (by omega)
          have hqe : tx q2 = txt ((tx s).take (j + 1)) := by
            rw [hq2, HQ.out, hr4, hr2, hr1, hr3, txt_take (tx s) (by rw [HL.out]; exact hlt), ← HCC.out, t1_no HP.out, ← HH4.out, ← HL4.out]
            rfl
          have HQ2 : Hid _ := hqe
          clear hq2 hqe hr1 hr2 hr3 hr4 z1 z2 z3 z4
          go_wp2_with fail
          go_quiet (fail)
          go_wp2_with fail
          go_roundw
          case rel => exact ⟨j + 1, q2, by omega, by go_num, rfl, HQ2.out, HO.out.drewN _⟩
          case measure => simp [intOf]; omega
      · by_cases h2 : 48 ≤ c
        · by_cases h3 : c ≤ 57
          · have e1 : decide ((97 : Int) ≤ (c : Int)) = false := decide_eq_false (by omega)
            have e2 : decide ((48 : Int) ≤ (c : Int)) = true := decide_eq_true (by omega)
            have e3 : decide ((c : Int) ≤ 57) = true := decide_eq_true (by omega)
            have hp : pl c = true := (pl_iff c).2 (by omega)
            have HP : Hid _ := hp
            clear hp
            obtain ⟨q2, hq2, ADD⟩ := add_any q r (by omega)
            have hqe : tx q2 = txt ((tx s).take (j + 1)) := by rw [hq2, HQ.out, HR.out, txt_take (tx s) (by rw [HL.out]; exact hlt), ← HCC.out, t1_pl HP.out]
            have HQ2 : Hid _ := hqe
            clear hq2 hqe
            go_wp2_with fail
            go_roundw
            case rel => exact ⟨j + 1, q2, by omega, by go_num, rfl, HQ2.out, HO.out⟩
            case measure => simp [intOf]; omega
          · have e1 : decide ((97 : Int) ≤ (c : Int)) = false := decide_eq_false (by omega)
            have e2 : decide ((48 : Int) ≤ (c : Int)) = true := decide_eq_true (by omega)
            have e3 : decide ((c : Int) ≤ 57) = false := decide_eq_false (by omega)
            have hp : pl c = false := by
              rw [← Bool.not_eq_true, pl_iff]
              omega
            have HP : Hid _ := hp
            clear hp
            obtain ⟨r1, hr1, SL1⟩ := dig_any h4 (by omega)
            obtain ⟨r3, hr3, SL3⟩ := dig_any l4 (by omega)
            have z1 : r1.size = 1 := by rw [← tx_len, hr1]; rfl
            have z3 : r3.size = 1 := by rw [← tx_len, hr3]; rfl
            obtain ⟨r2, hr2, ADD2⟩ := add_any ⟨#[37]⟩ r1 (by rw [z1]; decide)
            have z2 : r2.size = 2 := by rw [← tx_len, hr2, hr1]; rfl
            obtain ⟨r4, hr4, ADD4⟩ := add_any r2 r3 (by omega)
            have z4 : r4.size = 3 := by rw [← tx_len, hr4, hr2, hr1, hr3]; rfl
            obtain ⟨q2, hq2, ADD⟩ := add_any q r4 (by omega)
            have hqe : tx q2 = txt ((tx s).take (j + 1)) := by
              rw [hq2, HQ.out, hr4, hr2, hr1, hr3, txt_take (tx s) (by rw [HL.out]; exact hlt), ← HCC.out, t1_no HP.out, ← HH4.out, ← HL4.out]
              rfl
            have HQ2 : Hid _ := hqe
            clear hq2 hqe hr1 hr2 hr3 hr4 z1 z2 z3 z4
            go_wp2_with fail
            go_quiet (fail)
            go_wp2_with fail
            go_roundw
            case rel => exact ⟨j + 1, q2, by omega, by go_num, rfl, HQ2.out, HO.out.drewN _⟩
            case measure => simp [intOf]; omega
        · have e1 : decide ((97 : Int) ≤ (c : Int)) = false := decide_eq_false (by omega)
          have e2 : decide ((48 : Int) ≤ (c : Int)) = false := decide_eq_false (by omega)
          have hp : pl c = false := by
            rw [← Bool.not_eq_true, pl_iff]
            omega
          have HP : Hid _ := hp
          clear hp
          obtain ⟨r1, hr1, SL1⟩ := dig_any h4 (by omega)
          obtain ⟨r3, hr3, SL3⟩ := dig_any l4 (by omega)
          have z1 : r1.size = 1 := by rw [← tx_len, hr1]; rfl
          have z3 : r3.size = 1 := by rw [← tx_len, hr3]; rfl
          obtain ⟨r2, hr2, ADD2⟩ := add_any ⟨#[37]⟩ r1 (by rw [z1]; decide)
          have z2 : r2.size = 2 := by rw [← tx_len, hr2, hr1]; rfl
          obtain ⟨r4, hr4, ADD4⟩ := add_any r2 r3 (by omega)
          have z4 : r4.size = 3 := by rw [← tx_len, hr4, hr2, hr1, hr3]; rfl
          obtain ⟨q2, hq2, ADD⟩ := add_any q r4 (by omega)
          have hqe : tx q2 = txt ((tx s).take (j + 1)) := by
            rw [hq2, HQ.out, hr4, hr2, hr1, hr3, txt_take (tx s) (by rw [HL.out]; exact hlt), ← HCC.out, t1_no HP.out, ← HH4.out, ← HL4.out]
            rfl
          have HQ2 : Hid _ := hqe
          clear hq2 hqe hr1 hr2 hr3 hr4 z1 z2 z3 z4
          go_wp2_with fail
          go_quiet (fail)
          go_wp2_with fail
          go_roundw
          case rel => exact ⟨j + 1, q2, by omega, by go_num, rfl, HQ2.out, HO.out.drewN _⟩
          case measure => simp [intOf]; omega
    · obtain rfl : j = s.size := by omega
      go_wp2_with fail
      go_ret
      refine ⟨q, rfl, ?_, HO.out⟩
      rw [HQ.out, List.take_of_length_le (by rw [HL.out]; exact Nat.le_refl _)]
end Go.Proofs.Ytdkmnnihgobmoaa
