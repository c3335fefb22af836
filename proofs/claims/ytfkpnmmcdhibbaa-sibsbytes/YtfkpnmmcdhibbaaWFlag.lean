/- Several texts in one. -/
import Derived.Test.YtfkpnmmcdhibbaaWRnum
/- The other calls of a reader. -/
namespace Go.Proofs.Ytfkpnmmcdhibbaa
open Go.RowKit

/-- A call that left the reader as s'. -/
def Took (T : TypeId) (D : Nat → Prop) (b : Nat) (s' : RS) (w w' : World) : Prop := Rdr T D b s' w' ∧ Off (fun c => c = b) w w'

theorem unzig_even {n : Nat} (h : n % 2 = 0) : unzig n = ((n / 2 : Nat) : Int) := by simp [unzig, h]
theorem unzig_odd {n : Nat} (h : n % 2 = 1) : unzig n = -((n / 2 : Nat) : Int) - 1 := by simp [unzig, h]

set_option maxRecDepth 100000 in
theorem rint_any {D : Nat → Prop} {b : Nat} {s : RS} {w : World} (hR : Rdr 111 D b s w) :
    Calls Try.prog 104 #[.pointer (some ⟨b, 0, none⟩)] w fun e w' => e = .returned (.int .i64 (intS s).1) ∧ Rdr 111 D b (intS s).2 w' ∧ Off (fun c => c = b) w w' := by
  have hn := (num_ok hR.ok).2.1
  simp only [intS]
  obtain ⟨n, en⟩ : ∃ n, n = (numS s).1 := ⟨_, rfl⟩
  rw [← en] at hn ⊢
  have h1 := u64_odd n hn
  have hh : (n : Int) / 2 = ((n / 2 : Nat) : Int) := by omega
  have EN : Hid _ := en
  clear en
  obtain ⟨k, ek⟩ : ∃ k, k = n / 2 := ⟨_, rfl⟩
  have hk : k < 9223372036854775808 := by omega
  rw [← ek] at hh
  rcases Nat.mod_two_eq_zero_or_one n with h | h
  · rw [h] at h1
    have hz : Hid (unzig n = (k : Int)) := by rw [ek]; exact unzig_even h
    have x1 : bits .and .u64 (n : Int) 1 = 0 := h1
    have x2 := xor_none k hk
    clear h h1 ek
    go_enter Try.func104, Try.ntmps104
    go_wp2_with fail
    refine (rnum_any hR).mono ?_
    rw [← EN.out]
    rintro e w1 ⟨rfl, R1, o1⟩
    go_wp2_with fail
    go_ret
    rw [hz.out]
    exact ⟨rfl, R1, o1⟩
  · rw [h] at h1
    have hz : Hid (unzig n = -(k : Int) - 1) := by rw [ek]; exact unzig_odd h
    have x1 : bits .and .u64 (n : Int) 1 = 1 := h1
    have x2 := xor_ones k hk
    clear h h1 ek
    go_enter Try.func104, Try.ntmps104
    go_wp2_with fail
    refine (rnum_any hR).mono ?_
    rw [← EN.out]
    rintro e w1 ⟨rfl, R1, o1⟩
    go_wp2_with fail
    go_ret
    rw [hz.out]
    exact ⟨rfl, R1, o1⟩

set_option maxRecDepth 100000 in
theorem rcount_any {D : Nat → Prop} {b : Nat} {s : RS} {w : World} (hR : Rdr 111 D b s w) (m : Int) (hm0 : -9223372036854775808 ≤ m) (hm : m ≤ 9223372036854775807) :
    Calls Try.prog 84 #[.pointer (some ⟨b, 0, none⟩), .int .i64 m] w fun e w' => e = .returned (.int .i64 (((countS m.toNat s).1 : Nat) : Int)) ∧ Rdr 111 D b (countS m.toNat s).2 w' ∧ Off (fun c => c = b) w w' := by
  have hn := (num_ok hR.ok).2.1
  obtain ⟨n, en⟩ : ∃ n, n = (numS s).1 := ⟨_, rfl⟩
  rw [← en] at hn
  have EN : Hid _ := en
  clear en
  by_cases hlong : m.toNat < n
  · have HC : Hid (countS m.toNat s = (0, ([], 4))) := by
      show countS m.toNat s = (0, ([], 4))
      unfold countS
      rw [if_pos (by rw [← EN.out]; exact hlong)]
    have hd : decide (m < (n : Int)) = true := by simp; omega
    have hd' : decide ((0 : Int) < (n : Int)) = true := by simp; omega
    go_enter Try.func84, Try.ntmps84
    go_wp2_with fail
    refine (rnum_any hR).mono ?_
    rw [← EN.out]
    rintro e w1 ⟨rfl, R1, o1⟩
    go_wp2_with fail
    all_goals
      refine (fail_any R1 4 (by omega)).mono ?_
      rintro e w2 ⟨rfl, R2, o2⟩
      go_wp2_with fail
      go_ret
      rw [HC.out]
      exact ⟨rfl, R2, o1.trans o2 (fun _ _ h => h)⟩
  · have HC : Hid (countS m.toNat s = numS s) := by
      show countS m.toNat s = numS s
      unfold countS
      rw [if_neg (by rw [← EN.out]; exact hlong)]
    by_cases hm1 : m ≤ 0
    · have hn0 : n = 0 := by omega
      have hd2 : decide ((0 : Int) < (n : Int)) = false := by simp; omega
      clear hlong
      go_enter Try.func84, Try.ntmps84
      go_wp2_with fail
      refine (rnum_any hR).mono ?_
      rw [← EN.out]
      rintro e w1 ⟨rfl, R1, o1⟩
      go_wp2_with fail
      all_goals
        go_ret
        rw [HC.out, ← EN.out]
        exact ⟨by simp [hn0], R1, o1⟩
    · have hd2 : decide (m < (n : Int)) = false := by simp; omega
      go_enter Try.func84, Try.ntmps84
      go_wp2_with fail
      refine (rnum_any hR).mono ?_
      rw [← EN.out]
      rintro e w1 ⟨rfl, R1, o1⟩
      go_wp2_with fail
      go_ret
      rw [HC.out, ← EN.out]
      exact ⟨rfl, R1, o1⟩

theorem rleft_any {D : Nat → Prop} {b : Nat} {s : RS} {w : World} (hR : Rdr 111 D b s w) :
    Calls Try.prog 109 #[.pointer (some ⟨b, 0, none⟩)] w fun e w' => e = .returned (.int .i64 ((s.1.length : Nat) : Int)) ∧ w' = w := by
  obtain ⟨tad, cap, h1, -⟩ := hR.is
  have c0 : w.cell? ⟨b, 0, none⟩ = some (.slice tad s.1.length cap) := by rw [h1.cell]; rfl
  clear h1 hR
  go_enter Try.func109, Try.ntmps109
  go_wp2_with fail
  go_ret
  exact ⟨rfl, rfl⟩

set_option maxRecDepth 100000 in
theorem rend_any {D : Nat → Prop} {b : Nat} {s : RS} {w : World} (hR : Rdr 111 D b s w) :
    Calls Try.prog 42 #[.pointer (some ⟨b, 0, none⟩)] w fun e w' => e = .returned (.int .i64 ((endS s : Nat) : Int)) ∧ w' = w := by
  obtain ⟨tad, cap, h1, -⟩ := hR.is
  have c0 : w.cell? ⟨b, 0, none⟩ = some (.slice tad s.1.length cap) := by rw [h1.cell]; rfl
  have c1 : w.cell? ⟨b, 1, none⟩ = some (.int .i64 ((s.2 : Nat) : Int)) := by rw [h1.cell]; rfl
  clear h1 hR
  obtain ⟨l, er⟩ := s
  simp only at c0 c1
  by_cases her : er = 0
  · have hd : (((er : Nat) : Int) == 0) = true := by rw [beq_iff_eq]; omega
    by_cases hl : l = []
    · have HE : Hid (endS (l, er) = er) := by
        show endS (l, er) = er
        simp [endS, hl]
      have hd2 : decide (0 < l.length) = false := by simp [hl]
      have HER : Hid _ := her
      clear her hl
      go_enter Try.func42, Try.ntmps42
      go_wp2_with fail
      go_ret
      rw [HE.out]
      exact ⟨rfl, rfl⟩
    · have HE : Hid (endS (l, er) = 3) := by
        show endS (l, er) = 3
        simp [endS, hl, her]
      have hl' : 0 < l.length := List.length_pos_iff.2 hl
      have hd2 : decide (0 < l.length) = true := by simp; omega
      clear her hl
      go_enter Try.func42, Try.ntmps42
      go_wp2_with fail
      go_ret
      rw [HE.out]
      exact ⟨rfl, rfl⟩
  · have HE : Hid (endS (l, er) = er) := by
      show endS (l, er) = er
      simp [endS, her]
    have hd : (((er : Nat) : Int) == 0) = false := by rw [beq_eq_false_iff_ne]; omega
    go_enter Try.func42, Try.ntmps42
    go_wp2_with fail
    go_ret
    rw [HE.out]
    exact ⟨rfl, rfl⟩
end Go.Proofs.Ytfkpnmmcdhibbaa

/- Taking a text. -/
namespace Go.Proofs.Ytfkpnmmcdhibbaa
open Go.RowKit

set_option maxRecDepth 100000 in
set_option maxHeartbeats 1000000 in
theorem rtext_any {D : Nat → Prop} {b : Nat} {s : RS} {w : World} (hR : Rdr 111 D b s w) (m : Int) (hm0 : -9223372036854775808 ≤ m) (hm : m ≤ 9223372036854775807) :
    Calls Try.prog 92 #[.pointer (some ⟨b, 0, none⟩), .int .i64 m] w fun e w' => ∃ t c, e = .returned (.slice t (textS m.toNat s).1.length c) ∧ OwnR w' t c (textS m.toNat s).1 ∧ (∀ k, blk t = some k → w.heap.size ≤ k) ∧ Rdr 111 D b (textS m.toNat s).2 w' ∧ Off (fun c => c = b) w w' := by
  have hco := count_ok m.toNat hR.ok
  obtain ⟨n, l, er, ec⟩ : ∃ n l er, countS m.toNat s = (n, (l, er)) := ⟨_, _, _, rfl⟩
  have hlen := hR.len
  rw [ec] at hco
  have hll : l.length ≤ s.1.length := hco.2.2.2
  have hnm : n ≤ m.toNat := hco.2.1
  have hn63 : (n : Int) ≤ 9223372036854775807 := by omega
  have EC : Hid _ := ec
  clear ec
  by_cases her : er = 0
  · subst her
    by_cases hl : l.length < n
    · have HT : Hid (textS m.toNat s = ([], ([], 2))) := by
        show textS m.toNat s = ([], ([], 2))
        simp [textS, EC.out, hl]
      have hd : decide ((l.length : Int) < (n : Int)) = true := by simp; omega
      have HCO : Hid _ := hco
      clear hco
      go_enter Try.func92, Try.ntmps92
      go_wp2_with fail
      refine (rcount_any hR m hm0 hm).mono ?_
      rw [EC.out]
      rintro e w1 ⟨rfl, R1, o1⟩
      go_wp2_with fail
      refine (failed_any R1).mono ?_
      rintro e w2 ⟨rfl, hw⟩
      rw [hw]
      clear hw w2
      obtain ⟨tad, cap, h1, -⟩ := R1.is
      have c0 : w1.cell? ⟨b, 0, none⟩ = some (.slice tad l.length cap) := by rw [h1.cell]; rfl
      clear h1
      go_wp2_with fail
      refine (fail_any R1 2 (by omega)).mono ?_
      rintro e w2 ⟨rfl, R2, o2⟩
      go_wp2_with fail
      go_ret
      rw [HT.out]
      exact ⟨none, 0, rfl, OwnR.nil _, fun k hk => by simp [blk] at hk, R2, o1.trans o2 (fun _ _ h => h)⟩
    · have HT : Hid (textS m.toNat s = (l.take n, (l.drop n, 0))) := by
        show textS m.toNat s = (l.take n, (l.drop n, 0))
        simp [textS, EC.out, hl]
      have hd : decide ((l.length : Int) < (n : Int)) = false := by simp; omega
      have HCO : Hid _ := hco
      clear hco
      go_enter Try.func92, Try.ntmps92
      go_wp2_with fail
      refine (rcount_any hR m hm0 hm).mono ?_
      rw [EC.out]
      rintro e w1 ⟨rfl, R1, o1⟩
      go_wp2_with fail
      refine (failed_any R1).mono ?_
      rintro e w2 ⟨rfl, hw⟩
      rw [hw]
      clear hw w2
      obtain ⟨tad, cap, h1, h2⟩ := R1.is
      have c0 : w1.cell? ⟨b, 0, none⟩ = some (.slice tad l.length cap) := by rw [h1.cell]; rfl
      obtain ⟨hs1, L1⟩ := h2.take (k := n) (by simp only; omega)
      replace hs1 : ∀ W, (Instr.slice 43 (.slice tad l.length cap) none (some (.int .i64 (n : Int))) none).run Try.prog W = .ok (.slice tad (l.take n).length cap) W := hs1
      obtain ⟨t', hs2, L2⟩ := h2.drop (k := n) (by simp only; omega)
      replace hs2 : ∀ W, (Instr.slice 43 (.slice tad l.length cap) (some (.int .i64 (n : Int))) none none).run Try.prog W = .ok (.slice t' (l.drop n).length (cap - n)) W := hs2
      obtain ⟨x, ex⟩ : ∃ x, x = l.take n := ⟨_, rfl⟩
      obtain ⟨y, ey⟩ : ∃ y, y = l.drop n := ⟨_, rfl⟩
      replace L1 : Lie D w1 tad cap (l.take n) := L1
      replace L2 : Lie D w1 t' (cap - n) (l.drop n) := L2
      have hxl : x.length ≤ l.length := by rw [ex]; simp; omega
      have hyl : y.length ≤ l.length := by rw [ey]; simp
      rw [← ex] at hs1 L1
      rw [← ey] at hs2 L2
      have EX : Hid _ := ex
      have EY : Hid _ := ey
      have H1 : Hid _ := h1
      have HL2 : Hid _ := L2
      clear ex ey h1 h2 L2
      go_wp2_with fail
      refine (clone_any tad cap x (by omega) w1 L1.src).mono ?_
      rintro e w2 ⟨t2, c2, rfl, own2, hb2, o2⟩
      have P2 := H1.out.off o2 (fun h => h)
      have p2 : w2.cell? ⟨b, 0, none⟩ = some (.slice tad l.length cap) := by rw [P2.cell]; rfl
      have f2 := P2.free 0
      have HP2 : Hid _ := P2
      have OWN2 : Hid (OwnR w2 t2 c2 x) := own2
      have HB2 : Hid _ := hb2
      clear P2 own2 hb2
      go_wp2_with fail
      go_ret
      rw [HT.out]
      have O : Off (fun c => c = b) w2 (w2.setCell ⟨b, 0, none⟩ (.slice t' y.length (cap - n))) := (Off.refl (fun c => c = b) w2).setCell (.inl rfl) _
      have hb1 := R1.here
      have hO : Off (fun c => c = b) w (w2.setCell ⟨b, 0, none⟩ (.slice t' y.length (cap - n))) := (o1.trans o2 (fun _ _ h => h.elim)).trans O (fun _ _ h => h)
      have hne : ∀ k, blk t2 = some k → k ≠ b := fun k hk e => by have := HB2.out k hk; omega
      simp only [← EX.out, ← EY.out]
      refine ⟨t2, c2, rfl, OWN2.out.off O (fun c _ e h => hne c e h), fun k hk => Nat.le_trans o1.size (HB2.out k hk), ⟨⟨fun x hx => R1.ok.1 x (by rw [EY.out] at hx; exact List.mem_of_mem_drop hx), by simp, by simp⟩, fun c hc => ?_, R1.ne, ?_, t', cap - n, HP2.out.set 0 _, (HL2.out.off o2 (fun _ _ _ h => h)).off O (fun x _ hx e => R1.ne (e ▸ hx))⟩, hO⟩
      · have := R1.lt c hc
        have := o2.size
        simp
        omega
      · simp only
        omega
  · have HT : Hid (textS m.toNat s = ([], (l, er))) := by
      show textS m.toNat s = ([], (l, er))
      simp [textS, EC.out, her]
    have hd : (((er : Nat) : Int) == 0) = false := by rw [beq_eq_false_iff_ne]; omega
    have HCO : Hid _ := hco
    clear hco
    go_enter Try.func92, Try.ntmps92
    go_wp2_with fail
    refine (rcount_any hR m hm0 hm).mono ?_
    rw [EC.out]
    rintro e w1 ⟨rfl, R1, o1⟩
    go_wp2_with fail
    refine (failed_any R1).mono ?_
    rintro e w2 ⟨rfl, hw⟩
    rw [hw]
    clear hw w2
    go_wp2_with fail
    go_ret
    rw [HT.out]
    exact ⟨none, 0, rfl, OwnR.nil _, fun k hk => by simp [blk] at hk, R1, o1⟩
end Go.Proofs.Ytfkpnmmcdhibbaa

/- Flags, written and taken. -/
namespace Go.Proofs.Ytfkpnmmcdhibbaa
open Go.RowKit

theorem wflag_any {D : Nat → Prop} {b most : Nat} {st : Option (List Nat)} {w : World} (hW : Wtr D b most st w) (f : Bool) (hsz : (st.getD []).length + 1 ≤ 140737488355328 ∨ most ≤ 140737488355328 ∧ (st.getD []).length ≤ most) :
    Calls Try.prog 75 #[.pointer (some ⟨b, 0, none⟩), .bool f] w fun e w' => e = .returned (.tuple #[]) ∧ Put D b most st [if f then 1 else 0] w w' := by
  cases f with
  | true =>
    have o1 : Off (fun _ => False) w (w.alloc (.cells #[.int .u8 1] 5)) := (Off.refl _ w).alloc _
    have s1 := src_new w 1
    go_enter Try.func75, Try.ntmps75
    go_wp2_with fail
    refine (add_any (hW.off o1 (fun _ _ _ h => h)) _ 1 [1] s1 none 0 [] (fun w' _ => Src.nil w') (by simp only [List.length_cons, List.length_nil]; omega)).mono ?_
    rintro e w2 ⟨rfl, P⟩
    go_wp2_with fail
    first | go_end0 | refine bodyPost_ret (results_none rfl _ _ _) rfl ?_
    exact ⟨rfl, Put.after o1 P⟩
  | false =>
    have o1 : Off (fun _ => False) w (w.alloc (.cells #[.int .u8 0] 5)) := (Off.refl _ w).alloc _
    have s1 := src_new w 0
    go_enter Try.func75, Try.ntmps75
    go_wp2_with fail
    refine (add_any (hW.off o1 (fun _ _ _ h => h)) _ 1 [0] s1 none 0 [] (fun w' _ => Src.nil w') (by simp only [List.length_cons, List.length_nil]; omega)).mono ?_
    rintro e w2 ⟨rfl, P⟩
    go_wp2_with fail
    first | go_end0 | refine bodyPost_ret (results_none rfl _ _ _) rfl ?_
    exact ⟨rfl, Put.after o1 P⟩

theorem rflag_any {D : Nat → Prop} {b : Nat} {s : RS} {w : World} (hR : Rdr 111 D b s w) :
    Calls Try.prog 108 #[.pointer (some ⟨b, 0, none⟩)] w fun e w' => e = .returned (.bool (flagS s).1) ∧ Rdr 111 D b (flagS s).2 w' ∧ Off (fun c => c = b) w w' := by
  obtain ⟨l, er⟩ := s
  by_cases her : er = 0
  · subst her
    match l with
    | [] =>
      go_enter Try.func108, Try.ntmps108
      go_wp2_with fail
      refine (rnext_any hR).mono ?_
      rw [show nextS ([], 0) = (0, ([], 2)) from rfl]
      rintro e w1 ⟨rfl, R1, o1⟩
      go_wp2_with fail
      go_ret
      exact ⟨rfl, R1, o1⟩
    | c :: l =>
      have hc : c < 256 := hR.ok.1 c (by simp)
      by_cases h1 : 1 < c
      · have HF : Hid (flagS (c :: l, 0) = (false, ([], 3))) := by
          show flagS (c :: l, 0) = _
          simp [flagS, h1]
        have hd : decide ((1 : Int) < (c : Int)) = true := by simp; omega
        have hd2 : (((c : Nat) : Int) == 1) = false := by rw [beq_eq_false_iff_ne]; omega
        go_enter Try.func108, Try.ntmps108
        go_wp2_with fail
        refine (rnext_any hR).mono ?_
        rw [show nextS (c :: l, 0) = (c, (l, 0)) from rfl]
        rintro e w1 ⟨rfl, R1, o1⟩
        go_wp2_with fail
        refine (fail_any R1 3 (by omega)).mono ?_
        rintro e w2 ⟨rfl, R2, o2⟩
        go_wp2_with fail
        go_ret
        rw [HF.out]
        exact ⟨rfl, R2, o1.trans o2 (fun _ _ h => h)⟩
      · have HF : Hid (flagS (c :: l, 0) = (c == 1, (l, 0))) := by
          show flagS (c :: l, 0) = _
          simp [flagS, h1]
        have hd : decide ((1 : Int) < (c : Int)) = false := by simp; omega
        have HQ : Hid ((((c : Nat) : Int) == 1) = (c == 1)) := by
          show (((c : Nat) : Int) == 1) = (c == 1)
          rw [Bool.eq_iff_iff, beq_iff_eq, beq_iff_eq]
          omega
        go_enter Try.func108, Try.ntmps108
        go_wp2_with fail
        refine (rnext_any hR).mono ?_
        rw [show nextS (c :: l, 0) = (c, (l, 0)) from rfl]
        rintro e w1 ⟨rfl, R1, o1⟩
        go_wp2_with fail
        go_ret
        rw [HF.out]
        exact ⟨by simp only [← HQ.out]; rfl, R1, o1⟩
  · have HF : Hid (flagS (l, er) = (false, (l, er))) := by
      show flagS (l, er) = _
      simp [flagS, her]
    have hx : nextS (l, er) = (0, (l, er)) := by simp [nextS, her]
    go_enter Try.func108, Try.ntmps108
    go_wp2_with fail
    refine (rnext_any hR).mono ?_
    rw [hx]
    rintro e w1 ⟨rfl, R1, o1⟩
    go_wp2_with fail
    go_ret
    rw [HF.out]
    exact ⟨rfl, R1, o1⟩
end Go.Proofs.Ytfkpnmmcdhibbaa
