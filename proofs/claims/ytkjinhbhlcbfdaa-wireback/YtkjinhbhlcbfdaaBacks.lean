/- The walk of WireBack. -/
import Derived.Test.YtkjinhbhlcbfdaaRead
namespace Go.Proofs.Ytkjinhbhlcbfdaa
open Go.RowKit

theorem enc_keep {cs : Nat → CallD} {N j : Nat} (hj : j < N) (ht : (cs j).text.length ≤ 300) : encF cs (N - j) j = encB (cs j) ++ encF cs (N - (j + 1)) (j + 1) := by
  rw [show N - j = (N - (j + 1)) + 1 by omega]
  simp [encF, ht]
theorem enc_skip {cs : Nat → CallD} {N j : Nat} (hj : j < N) (ht : ¬ (cs j).text.length ≤ 300) : encF cs (N - j) j = encF cs (N - (j + 1)) (j + 1) := by
  rw [show N - j = (N - (j + 1)) + 1 by omega]
  simp [encF, ht]

set_option maxRecDepth 100000 in
set_option maxHeartbeats 2000000 in
theorem back_nat (a : Option Addr) (len cap1 : Nat) (cs : Nat → CallD) (cut : Int) (w : World) (hlen : len ≤ 9223372036854775807) (N : Nat) (hN1 : N ≤ len) (hN2 : N ≤ 40) (hN3 : N = len ∨ N = 40)
    (hA : ∀ w', Off (fun c => w.heap.size ≤ c) w w' → ∀ i, i < len → ∃ b off, a = some ⟨b, off, none⟩ ∧ b < w.heap.size ∧ CallOk w' b (off + i * 6) (cs i)) :
    Calls Try.prog 6 #[.slice a len cap1, .int .i64 cut] w fun e w' => e = .returned (.bool true) ∧ Below w.heap.size w w' := by
  have hnot : ∀ (x : Bool) (w : World), (Op.unary .not (.bool x)).run Try.prog w = .ok (.bool (!x)) w := fun _ _ => rfl
  obtain ⟨X, hX⟩ : ∃ X, X = encF cs N 0 := ⟨_, rfl⟩
  have HX : Hid _ := hX
  have HXLT : Hid (∀ x ∈ X, x < 256) := by
    show ∀ x ∈ X, x < 256
    rw [hX]
    refine encF_lt N 0 (fun i _ hi => ?_)
    obtain ⟨b, off, -, -, hc⟩ := hA w (Off.refl _ w) i (by omega)
    exact hc.lt
  clear hX
  obtain ⟨w0, ew0⟩ : ∃ w0, w0 = w.alloc (.cells #[.slice a len cap1] 22) := ⟨_, rfl⟩
  have OB : Off (fun c => w.heap.size ≤ c) w w0 := by rw [ew0]; exact (Off.refl _ w).alloc _
  have s0 : w0.heap.size = w.heap.size + 1 := by rw [ew0]; simp
  have C0 : Cel w.heap.size 22 #[.slice a len cap1] w0 := by rw [ew0]; exact Cel.new w _ _
  have hA0 : ∀ w', Off (fun c => w0.heap.size ≤ c) w0 w' → w'.cell? ⟨w.heap.size, 0, none⟩ = some (.slice a len cap1) ∧ ∀ i, i < len → ∃ b off, a = some ⟨b, off, none⟩ ∧ b < w0.heap.size ∧ CallOk w' b (off + i * 6) (cs i) := fun w' o => by
    refine ⟨by rw [(C0.off o (fun h => by omega)).cell]; rfl, fun i hi => ?_⟩
    obtain ⟨b, off, e, hb, hc⟩ := hA w' (OB.trans o (fun i _ h => by omega)) i hi
    exact ⟨b, off, e, by omega, hc⟩
  have HA0 : Hid _ := hA0
  have EW0 : Hid _ := ew0
  clear hA0 hA C0 ew0
  go_enter Try.func6, Try.ntmps6
  go_wp2_with fail
  rw [← EW0.out]
  refine (newWriter_any 100000 (by decide) w0).mono ?_
  rintro e w1 ⟨rfl, hW, o1⟩
  rw [show Int.toNat 100000 = 100000 from rfl] at hW
  have o2 : Off (fun _ => False) w1 (w1.alloc (.cells #[.slice none 0 0, .int .i64 100000, .bool false] 28)) := (Off.refl _ w1).alloc _
  have W2 := hW.off o2 (fun _ _ _ h => h)
  have M2 : FW (fun c => c = w1.heap.size) w1.heap.size 100000 (some []) (w1.alloc (.cells #[.slice none 0 0, .int .i64 100000, .bool false] 28)) := ⟨rfl, fun c h => by simp [h], by decide, .inr ⟨[], none, 0, rfl, Cel.new w1 _ _, OwnR.nil _, fun k hk => by simp [blk] at hk⟩⟩
  have O2 : Off (fun c => w0.heap.size ≤ c) w0 (w1.alloc (.cells #[.slice none 0 0, .int .i64 100000, .bool false] 28)) := (o1.mono (fun _ _ h => h.elim)).trans o2 (fun _ _ h => h.elim)
  have s1 := hW.lt _ hW.here
  have HW2 : Hid _ := W2
  have HM2 : Hid _ := M2
  have HO2 : Hid _ := O2
  have HS0 : Hid _ := s0
  clear W2 M2 O2 hW o1 o2 EW0 s0
  go_wp2_with fail
  go_loopw [7, 8] (fun x y wr => ∃ (cnt j : Nat) (D E : Nat → Prop) (p : List Nat), x = .int .i64 (cnt : Int) ∧ y = .int .i64 (j : Int) ∧ j ≤ N ∧ Wtr D w0.heap.size 100000 (some p) wr ∧ FW E w1.heap.size 100000 (some p) wr ∧ (∀ c, D c → ¬ E c) ∧ (∀ c, D c → w0.heap.size ≤ c) ∧ (∀ c, E c → w0.heap.size ≤ c) ∧ Off (fun c => w0.heap.size ≤ c) w0 wr ∧ p ++ encF cs (N - j) j = encF cs N 0 ∧ p.length ≤ j * 310 ∧ cnt ≤ p.length) (fun _ y _ => (40 - intOf y).toNat)
  case atStart => exact ⟨0, 0, _, _, [], rfl, rfl, by omega, HW2.out, HM2.out, fun c h1 h2 => by omega, fun c h => by omega, fun c h => by omega, HO2.out, by simp, by simp, by simp⟩
  case round =>
    clear HW2 HM2 HO2
    obtain ⟨cnt, j, D, E, p, rfl, rfl, hj, hW, hM, dj, lD, lE, O, hP, hsz, hcnt⟩ := hrel
    have HP : Hid _ := hP
    clear hP
    obtain ⟨hbox, hcalls⟩ := HA0.out _ O
    by_cases hjN : j < N
    · have l1 : j < len := by omega
      have l2 : j < 40 := by omega
      have hd4' : decide (j < len) = true := decide_eq_true l1
      obtain ⟨cb, off, rfl, hcb, hc⟩ := hcalls j l1
      clear hcalls
      have hS : ∀ w', Off (fun c => D c ∨ E c) wr w' → Src w' (cs j).tt (cs j).tc (cs j).text := fun w' o => by
        obtain ⟨_, _, -, -, hc'⟩ := (HA0.out w' (O.trans o (fun k _ h => h.elim (lD k) (lE k)))).2 j l1
        exact hc'.src
      have hkeep := fun ht => enc_keep (cs := cs) hjN ht
      have hskip := fun ht => enc_skip (cs := cs) hjN ht
      obtain ⟨c, ec⟩ : ∃ c, c = cs j := ⟨_, rfl⟩
      rw [← ec] at hc hS hkeep hskip
      obtain ⟨k0, k1, k2, k3, k4, k5, n0, i0, i1, -, -, -, -, tl⟩ := hc
      have HS : Hid _ := hS
      have hpos := enc_pos c
      have hel : c.text.length ≤ 300 → (encB c).length ≤ 310 := fun h => by have := enc_len c n0 i0 i1 (by omega); omega
      clear ec hS
      obtain ⟨act, num, int, flag, tt, tc, text, mst⟩ := c
      simp only at k0 k1 k2 k3 k4 k5 n0 i0 i1 tl hkeep hskip hel
      have HPOS : Hid _ := hpos
      have HEL : Hid _ := hel
      have HKE : Hid _ := hkeep
      have HSK : Hid _ := hskip
      clear hkeep hskip hel hpos
      by_cases ht : text.length ≤ 300
      · have hd5 : decide ((text.length : Int) ≤ 300) = true := decide_eq_true (by omega)
        have hd5' : decide (text.length ≤ 300) = true := decide_eq_true (by omega)
        go_wp2_with fail
        refine (write_any hW hM dj ⟨act, num, int, flag, tt, tc, text, mst⟩ n0 i0 i1 HS.out (by simp only [Option.getD_some]; omega)).mono ?_
        rintro e w3 ⟨rfl, D', E', W3, M3, dj3, o3, gD, gE⟩
        have hel' := HEL.out ht
        have hput : putS 100000 (some p) (encB ⟨act, num, int, flag, tt, tc, text, mst⟩) = some (p ++ encB ⟨act, num, int, flag, tt, tc, text, mst⟩) := by
          simp only [putS]
          rw [if_pos (by omega)]
        rw [hput] at W3 M3
        have hpos' := HPOS.out
        have hbnd : (p ++ encB ⟨act, num, int, flag, tt, tc, text, mst⟩).length ≤ (j + 1) * 310 ∧ cnt + 1 ≤ (p ++ encB ⟨act, num, int, flag, tt, tc, text, mst⟩).length := by
          rw [List.length_append]
          omega
        have HBN : Hid _ := hbnd
        clear hput hel' hpos' hbnd
        go_wp2_with fail
        go_roundw
        case rel =>
          refine ⟨cnt + 1, j + 1, D', E', _, by go_num, by go_num, by omega, W3, M3, dj3, lo_step lD gD O.size, lo_step lE gE O.size, O.trans o3 (fun k _ h => h.elim (lD k) (lE k)), ?_, HBN.out.1, HBN.out.2⟩
          rw [← HP.out, HKE.out ht, List.append_assoc]
        case measure => simp [intOf]; omega
      · have hd5 : decide ((text.length : Int) ≤ 300) = false := decide_eq_false (by omega)
        have hd5' : decide (text.length ≤ 300) = false := decide_eq_false (by omega)
        go_wp2_with fail
        go_roundw
        case rel =>
          refine ⟨cnt, j + 1, D, E, p, rfl, by go_num, by omega, hW, hM, dj, lD, lE, O, ?_, by omega, hcnt⟩
          rw [← HP.out, HSK.out ht]
        case measure => simp [intOf]; omega
    · obtain rfl : j = N := by omega
      clear hcalls
      by_cases hl : j = len
      · have hd4 : decide ((j : Int) < (len : Int)) = false := decide_eq_false (by omega)
        have hd4' : decide (j < len) = false := decide_eq_false (by omega)
        have HL : Hid _ := hl
        clear hl
        have hp : p = X := by
          have := HP.out
          have e : encF cs (j - j) j = [] := by rw [Nat.sub_self]; rfl
          rw [e, List.append_nil] at this
          rw [this, HX.out]
        have hpl : X.length ≤ 12400 := by rw [← hp]; omega
        have hcl : cnt ≤ X.length := by rw [← hp]; omega
        rw [hp] at hW
        have HPP : Hid _ := hp
        clear hp hM hcnt hsz
        go_wp2_with fail
        refine (done_any hW (by simp; omega)).mono ?_
        rintro e w9 ⟨t9, c9, rfl, own9, hb9, o9⟩
        have O9 := O.trans o9 (fun _ _ h => h.elim)
        replace own9 : OwnR w9 t9 c9 X := own9
        simp only [Option.getD_some, errW]
        have HO9 : Hid (OwnR w9 t9 c9 X) := own9
        have hA9 : ∀ w', Off (fun c => w9.heap.size ≤ c) w9 w' → w'.cell? ⟨w.heap.size, 0, none⟩ = some (.slice a len cap1) ∧ ∀ i, i < len → ∃ b off, a = some ⟨b, off, none⟩ ∧ b < w9.heap.size ∧ CallOk w' b (off + i * 6) (cs i) := fun w' o => by
          have s9 := O9.size
          have := HA0.out w' (O9.trans o (fun i _ h => by omega))
          refine ⟨this.1, fun i hi => ?_⟩
          obtain ⟨b, off, e, hb, hc⟩ := this.2 i hi
          exact ⟨b, off, e, by omega, hc⟩
        have HA9 : Hid _ := hA9
        clear own9 hb9 hW hA9
        go_wp2_with fail
        refine (read_any t9 c9 X X X.length j w.heap.size a len cap1 cs w9 hlen (by omega) (by omega) (by omega) HX.out (by simp) (Nat.le_refl _) (by omega) HXLT.out HO9.out.src HA9.out).mono ?_
        rintro e w10 ⟨ok, er, rfl, hfull, -, o10⟩
        obtain ⟨rfl, rfl⟩ := hfull rfl
        clear hfull
        have O10 := O9.trans o10 (fun _ _ h => h.elim)
        have OW10 : Hid (OwnR w10 t9 c9 X) := HO9.out.off o10 (fun _ _ _ h => h)
        have HA10 : Hid (∀ w', Off (fun c => w10.heap.size ≤ c) w10 w' → w'.cell? ⟨w.heap.size, 0, none⟩ = some (.slice a len cap1) ∧ ∀ i, i < len → ∃ b off, a = some ⟨b, off, none⟩ ∧ b < w10.heap.size ∧ CallOk w' b (off + i * 6) (cs i)) := fun w' o => by
          have s9 := o10.size
          have := HA9.out w' ((o10.mono (fun _ _ h => h.elim)).trans o (fun i _ h => by omega))
          refine ⟨this.1, fun i hi => ?_⟩
          obtain ⟨b, off, e, hb, hc⟩ := this.2 i hi
          exact ⟨b, off, e, by omega, hc⟩
        by_cases hx0 : X.length = 0
        · have hd6 : (((X.length : Nat) : Int) == 0) = true := by rw [beq_iff_eq]; omega
          have hcnt0 : cnt = 0 := by omega
          have hd7 : (((cnt : Nat) : Int) == 0) = true := by rw [beq_iff_eq]; omega
          have HX0 : Hid _ := hx0
          have HC0 : Hid _ := hcnt0
          clear hx0 hcnt0
          go_wp2_with fail
          refine (awake_any _).mono ?_
          rintro e w11 ⟨rfl, o11⟩
          go_wp2_with fail
          go_ret
          exact ⟨rfl, (OB.trans (O10.trans o11 (fun _ _ h => h.elim)) (fun i _ h => by have := OB.size; omega)).below (Nat.le_refl _) (fun _ h => h)⟩
        · have hd6 : (((X.length : Nat) : Int) == 0) = false := by rw [beq_eq_false_iff_ne]; omega
          have hl0 : ¬ ((X.length : Nat) : Int) = 0 := by omega
          have n0 : 0 ≤ (IntKind.u64.wrap cut).tmod (X.length : Int) ∧ (IntKind.u64.wrap cut).tmod (X.length : Int) < (X.length : Int) := by
            rw [IntKind.wrap_u64, Int.tmod_eq_emod_of_nonneg (by omega)]
            exact ⟨Int.emod_nonneg _ (by omega), Int.emod_lt_of_pos _ (by omega)⟩
          obtain ⟨q, eq⟩ := Int.eq_ofNat_of_zero_le n0.1
          have hq : q < X.length := by omega
          clear n0
          have L := (OW10.out.lie (D := fun c => blk t9 = some c) (fun c h => h)).take (k := q) (by omega)
          obtain ⟨hs1, L1⟩ := L
          obtain ⟨Y, eY⟩ : ∃ Y, Y = X.take q := ⟨_, rfl⟩
          rw [← eY] at hs1 L1
          have HL1 : Hid (Lie (fun c => blk t9 = some c) w10 t9 c9 Y) := L1
          have EY : Hid _ := eY
          clear eY L1
          go_wp2_with fail
          refine (read_any t9 c9 Y X q j w.heap.size a len cap1 cs w10 hlen (by omega) (by omega) (by omega) HX.out EY.out (by omega) (by omega) (fun x hx => HXLT.out x (by rw [EY.out] at hx; exact List.mem_of_mem_take hx)) HL1.out.src HA10.out).mono ?_
          rintro e w11 ⟨ok, er, rfl, -, hcutt, o11⟩
          have her := hcutt hq
          clear hcutt
          have O11 := O10.trans o11 (fun _ _ h => h.elim)
          have hd8 : (((er : Nat) : Int) == 0) = false := by rw [beq_eq_false_iff_ne]; omega
          have hd9 : (((er : Nat) : Int) != 0) = true := by rw [bne_iff_ne]; omega
          go_wp2_with fail
          refine (awake_any _).mono ?_
          rintro e w12 ⟨rfl, o12⟩
          go_wp2_with fail
          go_ret
          exact ⟨rfl, (OB.trans (O11.trans o12 (fun _ _ h => h.elim)) (fun i _ h => by have := OB.size; omega)).below (Nat.le_refl _) (fun _ h => h)⟩
      · have hj40 : j = 40 := by omega
        subst hj40
        have hd4 : decide ((40 : Int) < (len : Int)) = true := decide_eq_true (by omega)
        have hd4' : decide (40 < len) = true := decide_eq_true (by omega)
        have hp : p = X := by
          have := HP.out
          have e : encF cs (40 - 40) 40 = [] := by rw [Nat.sub_self]; rfl
          rw [e, List.append_nil] at this
          rw [this, HX.out]
        have hpl : X.length ≤ 12400 := by rw [← hp]; omega
        have hcl : cnt ≤ X.length := by rw [← hp]; omega
        rw [hp] at hW
        have HPP : Hid _ := hp
        clear hp hM hcnt hsz
        go_wp2_with fail
        refine (done_any hW (by simp; omega)).mono ?_
        rintro e w9 ⟨t9, c9, rfl, own9, hb9, o9⟩
        have O9 := O.trans o9 (fun _ _ h => h.elim)
        replace own9 : OwnR w9 t9 c9 X := own9
        simp only [Option.getD_some, errW]
        have HO9 : Hid (OwnR w9 t9 c9 X) := own9
        have hA9 : ∀ w', Off (fun c => w9.heap.size ≤ c) w9 w' → w'.cell? ⟨w.heap.size, 0, none⟩ = some (.slice a len cap1) ∧ ∀ i, i < len → ∃ b off, a = some ⟨b, off, none⟩ ∧ b < w9.heap.size ∧ CallOk w' b (off + i * 6) (cs i) := fun w' o => by
          have s9 := O9.size
          have := HA0.out w' (O9.trans o (fun i _ h => by omega))
          refine ⟨this.1, fun i hi => ?_⟩
          obtain ⟨b, off, e, hb, hc⟩ := this.2 i hi
          exact ⟨b, off, e, by omega, hc⟩
        have HA9 : Hid _ := hA9
        clear own9 hb9 hW hA9
        go_wp2_with fail
        refine (read_any t9 c9 X X X.length 40 w.heap.size a len cap1 cs w9 hlen (by omega) (by omega) (by omega) HX.out (by simp) (Nat.le_refl _) (by omega) HXLT.out HO9.out.src HA9.out).mono ?_
        rintro e w10 ⟨ok, er, rfl, hfull, -, o10⟩
        obtain ⟨rfl, rfl⟩ := hfull rfl
        clear hfull
        have O10 := O9.trans o10 (fun _ _ h => h.elim)
        have OW10 : Hid (OwnR w10 t9 c9 X) := HO9.out.off o10 (fun _ _ _ h => h)
        have HA10 : Hid (∀ w', Off (fun c => w10.heap.size ≤ c) w10 w' → w'.cell? ⟨w.heap.size, 0, none⟩ = some (.slice a len cap1) ∧ ∀ i, i < len → ∃ b off, a = some ⟨b, off, none⟩ ∧ b < w10.heap.size ∧ CallOk w' b (off + i * 6) (cs i)) := fun w' o => by
          have s9 := o10.size
          have := HA9.out w' ((o10.mono (fun _ _ h => h.elim)).trans o (fun i _ h => by omega))
          refine ⟨this.1, fun i hi => ?_⟩
          obtain ⟨b, off, e, hb, hc⟩ := this.2 i hi
          exact ⟨b, off, e, by omega, hc⟩
        by_cases hx0 : X.length = 0
        · have hd6 : (((X.length : Nat) : Int) == 0) = true := by rw [beq_iff_eq]; omega
          have hcnt0 : cnt = 0 := by omega
          have hd7 : (((cnt : Nat) : Int) == 0) = true := by rw [beq_iff_eq]; omega
          have HX0 : Hid _ := hx0
          have HC0 : Hid _ := hcnt0
          clear hx0 hcnt0
          go_wp2_with fail
          refine (awake_any _).mono ?_
          rintro e w11 ⟨rfl, o11⟩
          go_wp2_with fail
          go_ret
          exact ⟨rfl, (OB.trans (O10.trans o11 (fun _ _ h => h.elim)) (fun i _ h => by have := OB.size; omega)).below (Nat.le_refl _) (fun _ h => h)⟩
        · have hd6 : (((X.length : Nat) : Int) == 0) = false := by rw [beq_eq_false_iff_ne]; omega
          have hl0 : ¬ ((X.length : Nat) : Int) = 0 := by omega
          have n0 : 0 ≤ (IntKind.u64.wrap cut).tmod (X.length : Int) ∧ (IntKind.u64.wrap cut).tmod (X.length : Int) < (X.length : Int) := by
            rw [IntKind.wrap_u64, Int.tmod_eq_emod_of_nonneg (by omega)]
            exact ⟨Int.emod_nonneg _ (by omega), Int.emod_lt_of_pos _ (by omega)⟩
          obtain ⟨q, eq⟩ := Int.eq_ofNat_of_zero_le n0.1
          have hq : q < X.length := by omega
          clear n0
          have L := (OW10.out.lie (D := fun c => blk t9 = some c) (fun c h => h)).take (k := q) (by omega)
          obtain ⟨hs1, L1⟩ := L
          obtain ⟨Y, eY⟩ : ∃ Y, Y = X.take q := ⟨_, rfl⟩
          rw [← eY] at hs1 L1
          have HL1 : Hid (Lie (fun c => blk t9 = some c) w10 t9 c9 Y) := L1
          have EY : Hid _ := eY
          clear eY L1
          go_wp2_with fail
          refine (read_any t9 c9 Y X q 40 w.heap.size a len cap1 cs w10 hlen (by omega) (by omega) (by omega) HX.out EY.out (by omega) (by omega) (fun x hx => HXLT.out x (by rw [EY.out] at hx; exact List.mem_of_mem_take hx)) HL1.out.src HA10.out).mono ?_
          rintro e w11 ⟨ok, er, rfl, -, hcutt, o11⟩
          have her := hcutt hq
          clear hcutt
          have O11 := O10.trans o11 (fun _ _ h => h.elim)
          have hd8 : (((er : Nat) : Int) == 0) = false := by rw [beq_eq_false_iff_ne]; omega
          have hd9 : (((er : Nat) : Int) != 0) = true := by rw [bne_iff_ne]; omega
          go_wp2_with fail
          refine (awake_any _).mono ?_
          rintro e w12 ⟨rfl, o12⟩
          go_wp2_with fail
          go_ret
          exact ⟨rfl, (OB.trans (O11.trans o12 (fun _ _ h => h.elim)) (fun i _ h => by have := OB.size; omega)).below (Nat.le_refl _) (fun _ h => h)⟩

theorem back_walk (a : Option Addr) (len cap1 : Nat) (cs : Nat → CallD) (cut : Int) (w : World) (w0 : ArgC w a len cs) (_w1 : (Lit.int .i64 cut).wf = true) :
    Calls Try.prog 6 #[.slice a len cap1, .int .i64 cut] w fun e w' => e = .returned (.bool true) ∧ Below w.heap.size w w' := by
  refine back_nat a len cap1 cs cut w w0.bound (min len 40) (by omega) (by omega) (by omega) (fun w' o i hi => ?_)
  obtain ⟨b, off, e, hb, hc⟩ := w0.at_ i hi
  exact ⟨b, off, e, hb, hc.off o (fun k hk h => by omega)⟩
end Go.Proofs.Ytkjinhbhlcbfdaa
