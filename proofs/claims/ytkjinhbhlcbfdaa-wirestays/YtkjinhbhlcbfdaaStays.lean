/- The walk of WireStays. -/
import Derived.Test.YtkjinhbhlcbfdaaCalls
namespace Go.Proofs.Ytkjinhbhlcbfdaa
open Go.RowKit

theorem end_nil (er : Nat) : endS (([] : List Nat), er) = er := by simp [endS]
theorem num_err {er : Nat} (h : er ≠ 0) : numS (([] : List Nat), er) = (0, ([], er)) := by simp [numS, h]
theorem int_err {er : Nat} (h : er ≠ 0) : intS (([] : List Nat), er) = (0, ([], er)) := by
  simp only [intS]
  rw [num_err h]
  simp [unzig]
theorem flag_err {er : Nat} (h : er ≠ 0) : flagS (([] : List Nat), er) = (false, ([], er)) := by simp [flagS, h]
theorem count_err {er : Nat} (h : er ≠ 0) (m : Nat) : countS m (([] : List Nat), er) = (0, ([], er)) := by simp [countS, num_err h]
theorem text_err {er : Nat} (h : er ≠ 0) (m : Nat) : textS m (([] : List Nat), er) = ([], ([], er)) := by simp [textS, count_err h, h]
theorem num_less {s : RS} (h : Ok s) (hl : 0 < (numS s).2.1.length) : (numS s).2.1.length + 1 ≤ s.1.length := by
  unfold numS at hl ⊢
  split at hl
  · rename_i h1
    rw [h.2.1 h1] at hl
    simp at hl
  · rename_i h1
    rw [if_neg h1]
    split at hl
    · simp at hl
    · rename_i n l he
      obtain ⟨m, h1, -⟩ := rd_inv _ _ _ _ _ h.1 (by omega) he
      rw [h1]
      have := numB_pos m
      simp
      omega

set_option maxRecDepth 100000 in
set_option maxHeartbeats 4000000 in
theorem stays_nat (tad : Option Addr) (cap : Nat) (bs : List Nat) (hlt : ∀ x ∈ bs, x < 256) (hbl : bs.length ≤ 140737488351232) (a : Option Addr) (len cap1 : Nat) (cs : Nat → CallD) (w : World) (hsrc : Src w tad cap bs) (hlen : len ≤ 9223372036854775807)
    (hA : ∀ w', Off (fun c => w.heap.size ≤ c) w w' → ∀ i, i < len → ∃ b off, a = some ⟨b, off, none⟩ ∧ b < w.heap.size ∧ CallOk w' b (off + i * 6) (cs i)) :
    Calls Try.prog 8 #[.slice tad bs.length cap, .slice a len cap1] w fun e w' => e = .returned (.bool true) ∧ Below w.heap.size w w' := by
  have HA : Hid _ := hA
  clear hA
  go_enter Try.func8, Try.ntmps8
  go_wp2_with fail
  refine (newReader_any tad cap bs (by omega) hlt w hsrc).mono ?_
  rintro e W ⟨b, D, rfl, hb, hD, R, o1⟩
  have O : Off (fun c => w.heap.size ≤ c) w W := o1.mono (fun _ _ h => h.elim)
  clear o1 hlt hsrc
  go_wp2_with fail
  go_loopw [6] (fun y wr => ∃ (i : Nat) (s : RS), y = .int .i64 (i : Int) ∧ i ≤ 40 ∧ Rdr 65 D b s wr ∧ Off (fun c => w.heap.size ≤ c) w wr ∧ (0 < s.1.length → s.1.length + i ≤ bs.length)) (fun y _ => (40 - intOf y).toNat)
  case atStart => exact ⟨0, (bs, 0), rfl, by omega, R, O, fun _ => by simp⟩
  case round =>
    clear R O
    obtain ⟨i, s0, rfl, hi, R, O, hs⟩ := hrel
    by_cases hi40 : i < 40
    · have HS : Hid _ := hs
      clear hs
      go_wp2_with fail
      refine (rnum_any R).mono ?_
      rintro e w1 ⟨rfl, R1, p1⟩
      have hless : 0 < (numS s0).2.1.length → (numS s0).2.1.length + (i + 1) ≤ bs.length := by
        intro h
        have h1 := num_less R.ok h
        have h2 := HS.out (by omega)
        omega
      have hok := R1.ok
      obtain ⟨s, es⟩ : ∃ s, s = (numS s0).2 := ⟨_, rfl⟩
      rw [← es] at R1 hless hok
      have O1 := O.trans p1 (fun i _ h => by omega)
      have ES : Hid _ := es
      have HL : Hid _ := hless
      clear es hless R O p1 HS
      go_wp2_with fail
      refine (rend_any R1).mono ?_
      rintro e w2 ⟨rfl, hw⟩
      rw [hw]
      clear hw w2
      obtain ⟨er, ee⟩ : ∃ er, er = endS s := ⟨_, rfl⟩
      rw [← ee]
      have EE : Hid _ := ee
      clear ee
      by_cases her : er = 0
      · have hd : (((er : Nat) : Int) == 0) = true := by rw [beq_iff_eq]; omega
        have HER : Hid _ := her
        clear her
        go_wp2_with fail
        go_roundw
        case rel => exact ⟨i + 1, s, by go_num, by omega, R1, O1, HL.out⟩
        case measure => simp [intOf]; omega
      · have hd : (((er : Nat) : Int) == 0) = false := by rw [beq_eq_false_iff_ne]; omega
        go_wp2_with fail
        refine (rleft_any R1).mono ?_
        rintro e w2 ⟨rfl, hw⟩
        rw [hw]
        clear hw w2
        by_cases hz : s.1.length = 0
        · have hd2 : (((s.1.length : Nat) : Int) == 0) = true := by rw [beq_iff_eq]; omega
          have R := R1
          have O := O1
          have hfin : 0 < s.1.length → 40 < bs.length := fun h => by omega
          have HZ : Hid _ := hz
          have HER : Hid _ := her
          clear hz her R1 O1
          have hd0 : Hid (0 < s.1.length → 40 < bs.length) := hfin
          clear hfin
          go_wp2_with fail
          refine (rleft_any R).mono ?_
          rintro e w9 ⟨rfl, hw⟩
          rw [hw]
          clear hw w9
          by_cases hl : 0 < s.1.length
          · have hd1 : decide ((0 : Int) < (s.1.length : Int)) = true := decide_eq_true (by omega)
            have hd1' : decide (0 < s.1.length) = true := decide_eq_true (by omega)
            have hd2 : decide ((40 : Int) < (bs.length : Int)) = true := by have := hd0.out hl; simp; omega
            go_wp2_with fail
            refine (awake_any _).mono ?_
            rintro e w9 ⟨rfl, o9⟩
            go_wp2_with fail
            go_ret
            exact ⟨rfl, (O.trans o9 (fun _ _ h => h.elim)).below (Nat.le_refl _) (fun _ h => h)⟩
          · have hd1 : decide ((0 : Int) < (s.1.length : Int)) = false := decide_eq_false (by omega)
            have hd1' : decide (0 < s.1.length) = false := decide_eq_false (by omega)
            have hl0 : s.1.length = 0 := by omega
            clear hl
            obtain ⟨l, er⟩ := s
            obtain rfl : l = [] := List.eq_nil_of_length_eq_zero hl0
            clear hl0
            go_wp2_with fail
            refine (rend_any R).mono ?_
            rw [end_nil er]
            rintro e w9 ⟨rfl, hw⟩
            rw [hw]
            clear hw w9
            by_cases her : er = 0
            · have hd3 : (((er : Nat) : Int) == 0) = true := by rw [beq_iff_eq]; omega
              go_wp2_with fail
              refine (awake_any _).mono ?_
              rintro e w9 ⟨rfl, o9⟩
              go_wp2_with fail
              go_ret
              exact ⟨rfl, (O.trans o9 (fun _ _ h => h.elim)).below (Nat.le_refl _) (fun _ h => h)⟩
            · have hd3 : (((er : Nat) : Int) == 0) = false := by rw [beq_eq_false_iff_ne]; omega
              have N1 : Hid (numS (([] : List Nat), er) = (0, ([], er))) := num_err her
              have N2 : Hid (intS (([] : List Nat), er) = (0, ([], er))) := int_err her
              have N3 : Hid (flagS (([] : List Nat), er) = (false, ([], er))) := flag_err her
              have N4 : Hid (∀ m, textS m (([] : List Nat), er) = ([], ([], er))) := text_err her
              have N5 : Hid (∀ m, countS m (([] : List Nat), er) = (0, ([], er))) := count_err her
              clear her
              go_wp2_with fail
              go_loopw [8] (fun y wx => ∃ (j : Nat), y = .int .i64 (j : Int) ∧ j ≤ len ∧ j ≤ 20 ∧ Rdr 65 D b ([], er) wx ∧ Off (fun c => w.heap.size ≤ c) w wx) (fun y _ => (20 - intOf y).toNat)
              case atStart => exact ⟨0, rfl, by omega, by omega, R, O⟩
              case round =>
                clear R O
                obtain ⟨j, rfl, hj1, hj2, R, O⟩ := hrel
                by_cases hlt : j < len ∧ j < 20
                · have l1 := hlt.1
                  have l2 := hlt.2
                  obtain ⟨cb, off, rfl, hcb, hc⟩ := HA.out _ O j l1
                  have hcb' := Nat.lt_of_lt_of_le hcb O.size
                  obtain ⟨c, ec⟩ : ∃ c, c = cs j := ⟨_, rfl⟩
                  rw [← ec] at hc
                  obtain ⟨k0, k1, k2, k3, k4, k5, -, -, -, m0, m1, -, -, -⟩ := hc
                  obtain ⟨act, num, int, flag, tt, tc, text, most⟩ := c
                  simp only at k0 k1 k2 k3 k4 k5 m0 m1
                  clear ec hlt
                  have R0 := R.off ((Off.refl (fun _ => False) _).alloc (.cells #[.int .i64 act, .int .u64 (num : Int), .int .i64 int, .bool flag, .slice tt text.length tc, .int .i64 most] 32)) (fun h => h) (fun _ _ _ h => h)
                  have O0 := O.alloc (.cells #[.int .i64 act, .int .u64 (num : Int), .int .i64 int, .bool flag, .slice tt text.length tc, .int .i64 most] 32)
                  have B0 := Cel.new wr 32 #[.int .i64 act, .int .u64 (num : Int), .int .i64 int, .bool flag, .slice tt text.length tc, .int .i64 most]
                  have hbx : b ≠ wr.heap.size := by have := R.here; omega
                  have HR0 : Hid _ := R0
                  have HO0 : Hid _ := O0
                  have HB0 : Hid _ := B0
                  clear R0 O0 B0 R O
                  go_wp2_with fail
                  refine (rnum_any HR0.out).mono ?_
                  rw [N1.out]
                  rintro e v1 ⟨rfl, R1, p1⟩
                  go_wp2_with fail
                  refine (rint_any R1).mono ?_
                  rw [N2.out]
                  rintro e v2 ⟨rfl, R2, p2⟩
                  go_wp2_with fail
                  refine (rflag_any R2).mono ?_
                  rw [N3.out]
                  rintro e v3 ⟨rfl, R3, p3⟩
                  have B3 := ((HB0.out.off p1 (fun h => hbx h.symm)).off p2 (fun h => hbx h.symm)).off p3 (fun h => hbx h.symm)
                  have b3 : v3.cell? ⟨wr.heap.size, 5, none⟩ = some (.int .i64 most) := by rw [B3.cell]; rfl
                  go_wp2_with fail
                  refine (rtext_any R3 most m0 m1).mono ?_
                  rw [N4.out]
                  rintro e v4 ⟨t4, c4, rfl, own4, hb4, R4, p4⟩
                  have B4 := B3.off p4 (fun h => hbx h.symm)
                  have b4 : v4.cell? ⟨wr.heap.size, 5, none⟩ = some (.int .i64 most) := by rw [B4.cell]; rfl
                  clear own4 hb4
                  go_wp2_with fail
                  refine (rcount_any R4 most m0 m1).mono ?_
                  rw [N5.out]
                  rintro e v5 ⟨rfl, R5, p5⟩
                  go_wp2_with fail
                  refine (rend_any R5).mono ?_
                  rw [end_nil er]
                  rintro e v6 ⟨rfl, hw⟩
                  rw [hw]
                  clear hw v6
                  go_wp2_with fail
                  go_roundw
                  case rel =>
                    refine ⟨j + 1, by go_num, by omega, by omega, R5, ?_⟩
                    exact ((((HO0.out.trans p1 (fun i _ h => by omega)).trans p2 (fun i _ h => by omega)).trans p3 (fun i _ h => by omega)).trans p4 (fun i _ h => by omega)).trans p5 (fun i _ h => by omega)
                  case measure => simp [intOf]; omega
                · have hend : j = len ∨ (j < len ∧ j = 20) := by omega
                  clear hlt
                  rcases hend with hend | ⟨l1, l2⟩
                  · have hd4 : decide ((j : Int) < (len : Int)) = false := by simp; omega
                    have hd4' : decide (j < len) = false := decide_eq_false (by omega)
                    have HEN : Hid _ := hend
                    clear hend
                    go_wp2_with fail
                    refine (awake_any _).mono ?_
                    rintro e w9 ⟨rfl, o9⟩
                    go_wp2_with fail
                    go_ret
                    exact ⟨rfl, (O.trans o9 (fun _ _ h => h.elim)).below (Nat.le_refl _) (fun _ h => h)⟩
                  · subst l2
                    have hd4 : decide ((20 : Int) < (len : Int)) = true := by simp; omega
                    go_wp2_with fail
                    refine (awake_any _).mono ?_
                    rintro e w9 ⟨rfl, o9⟩
                    go_wp2_with fail
                    go_ret
                    exact ⟨rfl, (O.trans o9 (fun _ _ h => h.elim)).below (Nat.le_refl _) (fun _ h => h)⟩
        · have hd2 : (((s.1.length : Nat) : Int) == 0) = false := by rw [beq_eq_false_iff_ne]; omega
          have HZ : Hid _ := hz
          clear hz
          go_wp2_with fail
          go_roundw
          case rel => exact ⟨i + 1, s, by go_num, by omega, R1, O1, HL.out⟩
          case measure => simp [intOf]; omega
    · rename RS => s
      have hfin : 0 < s.1.length → 40 < bs.length := fun h => by have := hs h; omega
      have hdi : decide ((i : Int) < 40) = false := by simp; omega
      have HI : Hid _ := hi40
      clear hs hi40
      have hd0 : Hid (0 < s.1.length → 40 < bs.length) := hfin
      clear hfin
      go_wp2_with fail
      refine (rleft_any R).mono ?_
      rintro e w9 ⟨rfl, hw⟩
      rw [hw]
      clear hw w9
      by_cases hl : 0 < s.1.length
      · have hd1 : decide ((0 : Int) < (s.1.length : Int)) = true := decide_eq_true (by omega)
        have hd1' : decide (0 < s.1.length) = true := decide_eq_true (by omega)
        have hd2 : decide ((40 : Int) < (bs.length : Int)) = true := by have := hd0.out hl; simp; omega
        go_wp2_with fail
        refine (awake_any _).mono ?_
        rintro e w9 ⟨rfl, o9⟩
        go_wp2_with fail
        go_ret
        exact ⟨rfl, (O.trans o9 (fun _ _ h => h.elim)).below (Nat.le_refl _) (fun _ h => h)⟩
      · have hd1 : decide ((0 : Int) < (s.1.length : Int)) = false := decide_eq_false (by omega)
        have hd1' : decide (0 < s.1.length) = false := decide_eq_false (by omega)
        have hl0 : s.1.length = 0 := by omega
        clear hl
        obtain ⟨l, er⟩ := s
        obtain rfl : l = [] := List.eq_nil_of_length_eq_zero hl0
        clear hl0
        go_wp2_with fail
        refine (rend_any R).mono ?_
        rw [end_nil er]
        rintro e w9 ⟨rfl, hw⟩
        rw [hw]
        clear hw w9
        by_cases her : er = 0
        · have hd3 : (((er : Nat) : Int) == 0) = true := by rw [beq_iff_eq]; omega
          go_wp2_with fail
          refine (awake_any _).mono ?_
          rintro e w9 ⟨rfl, o9⟩
          go_wp2_with fail
          go_ret
          exact ⟨rfl, (O.trans o9 (fun _ _ h => h.elim)).below (Nat.le_refl _) (fun _ h => h)⟩
        · have hd3 : (((er : Nat) : Int) == 0) = false := by rw [beq_eq_false_iff_ne]; omega
          have N1 : Hid (numS (([] : List Nat), er) = (0, ([], er))) := num_err her
          have N2 : Hid (intS (([] : List Nat), er) = (0, ([], er))) := int_err her
          have N3 : Hid (flagS (([] : List Nat), er) = (false, ([], er))) := flag_err her
          have N4 : Hid (∀ m, textS m (([] : List Nat), er) = ([], ([], er))) := text_err her
          have N5 : Hid (∀ m, countS m (([] : List Nat), er) = (0, ([], er))) := count_err her
          clear her
          go_wp2_with fail
          go_loopw [8] (fun y wx => ∃ (j : Nat), y = .int .i64 (j : Int) ∧ j ≤ len ∧ j ≤ 20 ∧ Rdr 65 D b ([], er) wx ∧ Off (fun c => w.heap.size ≤ c) w wx) (fun y _ => (20 - intOf y).toNat)
          case atStart => exact ⟨0, rfl, by omega, by omega, R, O⟩
          case round =>
            clear R O
            obtain ⟨j, rfl, hj1, hj2, R, O⟩ := hrel
            by_cases hlt : j < len ∧ j < 20
            · have l1 := hlt.1
              have l2 := hlt.2
              obtain ⟨cb, off, rfl, hcb, hc⟩ := HA.out _ O j l1
              have hcb' := Nat.lt_of_lt_of_le hcb O.size
              obtain ⟨c, ec⟩ : ∃ c, c = cs j := ⟨_, rfl⟩
              rw [← ec] at hc
              obtain ⟨k0, k1, k2, k3, k4, k5, -, -, -, m0, m1, -, -, -⟩ := hc
              obtain ⟨act, num, int, flag, tt, tc, text, most⟩ := c
              simp only at k0 k1 k2 k3 k4 k5 m0 m1
              clear ec hlt
              have R0 := R.off ((Off.refl (fun _ => False) _).alloc (.cells #[.int .i64 act, .int .u64 (num : Int), .int .i64 int, .bool flag, .slice tt text.length tc, .int .i64 most] 32)) (fun h => h) (fun _ _ _ h => h)
              have O0 := O.alloc (.cells #[.int .i64 act, .int .u64 (num : Int), .int .i64 int, .bool flag, .slice tt text.length tc, .int .i64 most] 32)
              have B0 := Cel.new wr 32 #[.int .i64 act, .int .u64 (num : Int), .int .i64 int, .bool flag, .slice tt text.length tc, .int .i64 most]
              have hbx : b ≠ wr.heap.size := by have := R.here; omega
              have HR0 : Hid _ := R0
              have HO0 : Hid _ := O0
              have HB0 : Hid _ := B0
              clear R0 O0 B0 R O
              go_wp2_with fail
              refine (rnum_any HR0.out).mono ?_
              rw [N1.out]
              rintro e v1 ⟨rfl, R1, p1⟩
              go_wp2_with fail
              refine (rint_any R1).mono ?_
              rw [N2.out]
              rintro e v2 ⟨rfl, R2, p2⟩
              go_wp2_with fail
              refine (rflag_any R2).mono ?_
              rw [N3.out]
              rintro e v3 ⟨rfl, R3, p3⟩
              have B3 := ((HB0.out.off p1 (fun h => hbx h.symm)).off p2 (fun h => hbx h.symm)).off p3 (fun h => hbx h.symm)
              have b3 : v3.cell? ⟨wr.heap.size, 5, none⟩ = some (.int .i64 most) := by rw [B3.cell]; rfl
              go_wp2_with fail
              refine (rtext_any R3 most m0 m1).mono ?_
              rw [N4.out]
              rintro e v4 ⟨t4, c4, rfl, own4, hb4, R4, p4⟩
              have B4 := B3.off p4 (fun h => hbx h.symm)
              have b4 : v4.cell? ⟨wr.heap.size, 5, none⟩ = some (.int .i64 most) := by rw [B4.cell]; rfl
              clear own4 hb4
              go_wp2_with fail
              refine (rcount_any R4 most m0 m1).mono ?_
              rw [N5.out]
              rintro e v5 ⟨rfl, R5, p5⟩
              go_wp2_with fail
              refine (rend_any R5).mono ?_
              rw [end_nil er]
              rintro e v6 ⟨rfl, hw⟩
              rw [hw]
              clear hw v6
              go_wp2_with fail
              go_roundw
              case rel =>
                refine ⟨j + 1, by go_num, by omega, by omega, R5, ?_⟩
                exact ((((HO0.out.trans p1 (fun i _ h => by omega)).trans p2 (fun i _ h => by omega)).trans p3 (fun i _ h => by omega)).trans p4 (fun i _ h => by omega)).trans p5 (fun i _ h => by omega)
              case measure => simp [intOf]; omega
            · have hend : j = len ∨ (j < len ∧ j = 20) := by omega
              clear hlt
              rcases hend with hend | ⟨l1, l2⟩
              · have hd4 : decide ((j : Int) < (len : Int)) = false := by simp; omega
                have hd4' : decide (j < len) = false := decide_eq_false (by omega)
                have HEN : Hid _ := hend
                clear hend
                go_wp2_with fail
                refine (awake_any _).mono ?_
                rintro e w9 ⟨rfl, o9⟩
                go_wp2_with fail
                go_ret
                exact ⟨rfl, (O.trans o9 (fun _ _ h => h.elim)).below (Nat.le_refl _) (fun _ h => h)⟩
              · subst l2
                have hd4 : decide ((20 : Int) < (len : Int)) = true := by simp; omega
                go_wp2_with fail
                refine (awake_any _).mono ?_
                rintro e w9 ⟨rfl, o9⟩
                go_wp2_with fail
                go_ret
                exact ⟨rfl, (O.trans o9 (fun _ _ h => h.elim)).below (Nat.le_refl _) (fun _ h => h)⟩

theorem stays_walk (tad : Option Addr) (len0 cap0 : Nat) (bs : List Nat) (a : Option Addr) (len cap1 : Nat) (cs : Nat → CallD) (w : World) (w0 : ArgB w tad len0 cap0 bs) (w1 : ArgC w a len cs) :
    Calls Try.prog 8 #[.slice tad len0 cap0, .slice a len cap1] w fun e w' => e = .returned (.bool true) ∧ Below w.heap.size w w' := by
  obtain ⟨rfl, hlt, hsrc, hb⟩ := w0
  refine stays_nat tad cap0 bs hlt hb a len cap1 cs w hsrc w1.bound (fun w' o i hi => ?_)
  obtain ⟨b, off, e, hb, hc⟩ := w1.at_ i hi
  exact ⟨b, off, e, hb, hc.off o (fun k hk h => by omega)⟩
end Go.Proofs.Ytkjinhbhlcbfdaa
