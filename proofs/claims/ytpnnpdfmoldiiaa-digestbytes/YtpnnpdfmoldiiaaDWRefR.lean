/- Items of several texts. -/
import Derived.Test.YtpnnpdfmoldiiaaDWRefN
namespace Go.Proofs.Ytpnnpdfmoldiiaa
open Go.RowKit
theorem Rdr.cells {T : TypeId} {D : Nat → Prop} {b : Nat} {l : List Nat} {er : Nat} {w : World} (h : Rdr T D b (l, er) w) : ∃ tad cap, w.cell? ⟨b, 0, none⟩ = some (.slice tad l.length cap) ∧ w.cell? ⟨b, 1, none⟩ = some (.int .i64 ((er : Nat) : Int)) ∧ w.frozen? ⟨b, 0, none⟩ = false ∧ Cel b T #[.slice tad l.length cap, .int .i64 ((er : Nat) : Int)] w ∧ Lie D w tad cap l := by
 obtain ⟨tad, cap, h1, h2⟩ := h.is
 exact ⟨tad, cap, by rw [h1.cell]; rfl, by rw [h1.cell]; rfl, h1.free 0, h1, h2⟩
set_option maxRecDepth 100000 in
theorem frint_any {D : Nat → Prop} {b : Nat} {s : RS} {w : World} (hR : Rdr 61 D b s w) :
  Calls Try.prog 117 #[.pointer (some ⟨b, 0, none⟩)] w fun e w' => e = .returned (.int .i64 (intS s).1) ∧ Rdr 61 D b (intS s).2 w' ∧ Off (fun c => c = b) w w' := by
 have hno := num_ok hR.ok
 simp only [intS]
 obtain ⟨n, l, er, en⟩ : ∃ n l er, numS s = (n, (l, er)) := ⟨_, _, _, rfl⟩
 rw [en] at hno ⊢
 have hn : n < 18446744073709551616 := hno.2.1
 have hz0 : er ≠ 0 → n = 0 := hno.2.2.1
 have EN : Hid _ := en
 clear en hno
 by_cases her : er = 0
 ·have hd : (((er : Nat) : Int) == 0) = true := by rw [beq_iff_eq]; omega
  have HER : Hid _ := her
  clear her hz0
  have h1 := u64_odd n hn
  have hh : (n : Int) / 2 = ((n / 2 : Nat) : Int) := by omega
  obtain ⟨k, ek⟩ : ∃ k, k = n / 2 := ⟨_, rfl⟩
  have hk : k < 9223372036854775808 := by omega
  rw [← ek] at hh
  rcases Nat.mod_two_eq_zero_or_one n with h | h
  ·rw [h] at h1
   have hz : Hid (unzig n = (k : Int)) := by rw [ek]; exact unzig_even h
   have x1 : bits .and .u64 (n : Int) 1 = 0 := h1
   have x2 := xor_none k hk
   clear h h1 ek
   go_enter Try.func117, Try.ntmps117
   go_wp2_with fail
   refine (frnum_any hR).mono ?_
   rw [EN.out]
   rintro e w1 ⟨rfl, R1, o1⟩
   obtain ⟨tad, cap, c0, c1, f0, -, -⟩ := R1.cells
   go_wp2_with fail
   go_ret
   simp only [hz.out]
   exact ⟨rfl, R1, o1⟩
  ·rw [h] at h1
   have hz : Hid (unzig n = -(k : Int) - 1) := by rw [ek]; exact unzig_odd h
   have x1 : bits .and .u64 (n : Int) 1 = 1 := h1
   have x2 := xor_ones k hk
   clear h h1 ek
   go_enter Try.func117, Try.ntmps117
   go_wp2_with fail
   refine (frnum_any hR).mono ?_
   rw [EN.out]
   rintro e w1 ⟨rfl, R1, o1⟩
   obtain ⟨tad, cap, c0, c1, f0, -, -⟩ := R1.cells
   go_wp2_with fail
   go_ret
   simp only [hz.out]
   exact ⟨rfl, R1, o1⟩
 ·have hd : (((er : Nat) : Int) == 0) = false := by rw [beq_eq_false_iff_ne]; omega
  have HN0 : Hid (unzig n = 0) := by
   show unzig n = 0
   rw [hz0 her]
   simp [unzig]
  clear hz0
  go_enter Try.func117, Try.ntmps117
  go_wp2_with fail
  refine (frnum_any hR).mono ?_
  rw [EN.out]
  rintro e w1 ⟨rfl, R1, o1⟩
  obtain ⟨tad, cap, c0, c1, f0, -, -⟩ := R1.cells
  go_wp2_with fail
  go_ret
  simp only [HN0.out]
  exact ⟨rfl, R1, o1⟩
set_option maxRecDepth 100000 in
theorem frcount_any {D : Nat → Prop} {b : Nat} {s : RS} {w : World} (hR : Rdr 61 D b s w) (m : Int) (hm0 : -9223372036854775808 ≤ m) (hm : m ≤ 9223372036854775807) :
  Calls Try.prog 78 #[.pointer (some ⟨b, 0, none⟩), .int .i64 m] w fun e w' => e = .returned (.int .i64 (((countS m.toNat s).1 : Nat) : Int)) ∧ Rdr 61 D b (countS m.toNat s).2 w' ∧ Off (fun c => c = b) w w' := by
 have hno := num_ok hR.ok
 obtain ⟨n, l, er, en⟩ : ∃ n l er, numS s = (n, (l, er)) := ⟨_, _, _, rfl⟩
 rw [en] at hno
 have hn : n < 18446744073709551616 := hno.2.1
 have hz0 : er ≠ 0 → n = 0 := hno.2.2.1
 obtain ⟨mm, hmm⟩ : ∃ mm, mm = m.toNat := ⟨_, rfl⟩
 have hmb : mm ≤ 9223372036854775807 := by omega
 have hx : ∀ ts t W, (Builtin.max_ ts t #[.int .i64 0, .int .i64 m]).run Try.prog W = .ok (.int .i64 (mm : Int)) W := by
  intro ts t W
  go_simp
  omega
 rw [← hmm]
 have EN : Hid _ := en
 have HMM : Hid _ := hmm
 clear en hno hmm
 by_cases her : er = 0
 ·subst her
  clear hz0
  by_cases hlong : mm < n
  ·have HC : Hid (countS mm s = (0, ([], 4))) := by
    show countS mm s = (0, ([], 4))
    unfold countS
    rw [EN.out, if_pos hlong]
   have hd : decide ((mm : Int) < (n : Int)) = true := decide_eq_true (by omega)
   have hd' : decide (mm < n) = true := decide_eq_true (by omega)
   go_enter Try.func78, Try.ntmps78
   go_wp2_with fail
   refine (frnum_any hR).mono ?_
   rw [EN.out]
   rintro e w1 ⟨rfl, R1, o1⟩
   obtain ⟨tad, cap, c0, c1, -, -, -⟩ := R1.cells
   replace c1 : w1.cell? ⟨b, 1, none⟩ = some (.int .i64 0) := c1
   go_wp2_with fail
   refine (ffail_any R1 4 (by omega)).mono ?_
   rintro e w2 ⟨rfl, R2, o2⟩
   obtain ⟨tad2, cap2, d0, d1, -, -, -⟩ := R2.cells
   replace d1 : w2.cell? ⟨b, 1, none⟩ = some (.int .i64 4) := d1
   go_wp2_with fail
   go_ret
   rw [HC.out]
   exact ⟨rfl, R2, o1.trans o2 (fun _ _ h => h)⟩
  ·have HC : Hid (countS mm s = (n, (l, 0))) := by
    show countS mm s = (n, (l, 0))
    unfold countS
    rw [EN.out, if_neg hlong]
   have hd : decide ((mm : Int) < (n : Int)) = false := decide_eq_false (by omega)
   have hd' : decide (mm < n) = false := decide_eq_false (by omega)
   go_enter Try.func78, Try.ntmps78
   go_wp2_with fail
   refine (frnum_any hR).mono ?_
   rw [EN.out]
   rintro e w1 ⟨rfl, R1, o1⟩
   obtain ⟨tad, cap, c0, c1, -, -, -⟩ := R1.cells
   replace c1 : w1.cell? ⟨b, 1, none⟩ = some (.int .i64 0) := c1
   go_wp2_with fail
   go_ret
   rw [HC.out]
   exact ⟨rfl, R1, o1⟩
 ·have hd : (((er : Nat) : Int) == 0) = false := by rw [beq_eq_false_iff_ne]; omega
  have HC : Hid (countS mm s = (0, (l, er))) := by
   show countS mm s = (0, (l, er))
   unfold countS
   rw [EN.out, hz0 her, if_neg (by simp)]
  clear hz0
  go_enter Try.func78, Try.ntmps78
  go_wp2_with fail
  refine (frnum_any hR).mono ?_
  rw [EN.out]
  rintro e w1 ⟨rfl, R1, o1⟩
  obtain ⟨tad, cap, c0, c1, -, -, -⟩ := R1.cells
  go_wp2_with fail
  go_ret
  rw [HC.out]
  exact ⟨rfl, R1, o1⟩
set_option maxRecDepth 100000 in
set_option maxHeartbeats 1000000 in
theorem frtext_any {D : Nat → Prop} {b : Nat} {s : RS} {w : World} (hR : Rdr 61 D b s w) (m : Int) (hm0 : -9223372036854775808 ≤ m) (hm : m ≤ 9223372036854775807) :
  Calls Try.prog 76 #[.pointer (some ⟨b, 0, none⟩), .int .i64 m] w fun e w' => ∃ t c, e = .returned (.slice t (textS m.toNat s).1.length c) ∧ OwnR w' t c (textS m.toNat s).1 ∧ (∀ k, blk t = some k → w.heap.size ≤ k) ∧ Rdr 61 D b (textS m.toNat s).2 w' ∧ Off (fun c => c = b) w w' := by
 have hco := count_ok m.toNat hR.ok
 obtain ⟨n, l, er, ec⟩ : ∃ n l er, countS m.toNat s = (n, (l, er)) := ⟨_, _, _, rfl⟩
 have hlen := hR.len
 rw [ec] at hco
 have hll : l.length ≤ s.1.length := hco.2.2.2
 have hnm : n ≤ m.toNat := hco.2.1
 have hn63 : (n : Int) ≤ 9223372036854775807 := by omega
 have EC : Hid _ := ec
 clear ec hco
 by_cases her : er = 0
 ·subst her
  by_cases hl : l.length < n
  ·have HT : Hid (textS m.toNat s = ([], ([], 2))) := by
    show textS m.toNat s = ([], ([], 2))
    simp [textS, EC.out, hl]
   have hd : decide ((l.length : Int) < (n : Int)) = true := decide_eq_true (by omega)
   have hd' : decide (l.length < n) = true := decide_eq_true (by omega)
   go_enter Try.func76, Try.ntmps76
   go_wp2_with fail
   refine (frcount_any hR m hm0 hm).mono ?_
   rw [EC.out]
   rintro e w1 ⟨rfl, R1, o1⟩
   obtain ⟨tad, cap, c0, c1, -, -, -⟩ := R1.cells
   replace c1 : w1.cell? ⟨b, 1, none⟩ = some (.int .i64 0) := c1
   go_wp2_with fail
   refine (ffail_any R1 2 (by omega)).mono ?_
   rintro e w2 ⟨rfl, R2, o2⟩
   obtain ⟨tad2, cap2, d0, d1, -, -, -⟩ := R2.cells
   replace d1 : w2.cell? ⟨b, 1, none⟩ = some (.int .i64 2) := d1
   go_wp2_with fail
   go_ret
   rw [HT.out]
   exact ⟨none, 0, rfl, OwnR.nil _, fun k hk => by simp [blk] at hk, R2, o1.trans o2 (fun _ _ h => h)⟩
  ·have HT : Hid (textS m.toNat s = (l.take n, (l.drop n, 0))) := by
    show textS m.toNat s = (l.take n, (l.drop n, 0))
    simp [textS, EC.out, hl]
   have hd : decide ((l.length : Int) < (n : Int)) = false := decide_eq_false (by omega)
   have hd' : decide (l.length < n) = false := decide_eq_false (by omega)
   go_enter Try.func76, Try.ntmps76
   go_wp2_with fail
   refine (frcount_any hR m hm0 hm).mono ?_
   rw [EC.out]
   rintro e w1 ⟨rfl, R1, o1⟩
   obtain ⟨tad, cap, c0, c1, f0, h1, h2⟩ := R1.cells
   replace c1 : w1.cell? ⟨b, 1, none⟩ = some (.int .i64 0) := c1
   obtain ⟨hs1, L1⟩ := h2.take (k := n) (by omega)
   obtain ⟨t', hs2, L2⟩ := h2.drop (k := n) (by omega)
   obtain ⟨x, ex⟩ : ∃ x, x = l.take n := ⟨_, rfl⟩
   obtain ⟨y, ey⟩ : ∃ y, y = l.drop n := ⟨_, rfl⟩
   have hxl : x.length ≤ l.length := by rw [ex]; simp; omega
   have hyl : y.length ≤ l.length := by rw [ey]; simp
   rw [← ex] at hs1 L1
   rw [← ey] at hs2 L2
   have EX : Hid _ := ex
   have EY : Hid _ := ey
   have H1 : Hid (Cel b 61 #[.slice tad l.length cap, .int .i64 ((0 : Nat) : Int)] w1) := h1
   have HL1 : Hid (Lie D w1 tad cap x) := L1
   have HL2 : Hid (Lie D w1 t' (cap - n) y) := L2
   clear ex ey h1 h2 L1 L2
   go_wp2_with (at_builtin; refine wpList_app rfl (.const (.slice none 0 0)) (.tmp 36) rfl none 0 [] rfl (OwnR.nil _) tad cap x rfl HL1.out.src (by simp; omega) ?_; intro t2 c2 w2 y2 hy2 own2 off2 at2; have o2 : Off (fun _ => False) w1 w2 := off2.mono (fun i _ h => by simp [blk] at h); have P2 : Cel b 61 _ w2 := H1.out.off o2 (fun h => h); have p2 : w2.cell? ⟨b, 0, none⟩ = some (.slice tad l.length cap) := (P2.cell 0).trans rfl; have g2 := P2.free 0; have HP2 : Hid _ := P2; have OWN2 : Hid (OwnR w2 t2 c2 y2) := own2; have hb2 : ∀ k, blk t2 = some k → w1.heap.size ≤ k := (fun k hk => by rcases at2 with a | a <;> (rw [a] at hk; simp [blk] at hk; try omega)); have HB2 : Hid _ := hb2; clear P2 own2 off2 at2 hb2)
   go_ret
   rw [HT.out]
   have ey2 : y2 = x := hy2.out
   have O : Off (fun c => c = b) w2 (w2.setCell ⟨b, 0, none⟩ (.slice t' y.length (cap - n))) := (Off.refl (fun c => c = b) w2).setCell (.inl rfl) _
   have hb1 := R1.here
   have hO : Off (fun c => c = b) w (w2.setCell ⟨b, 0, none⟩ (.slice t' y.length (cap - n))) := (o1.trans o2 (fun _ _ h => h.elim)).trans O (fun _ _ h => h)
   have hne : ∀ k, blk t2 = some k → k ≠ b := fun k hk e => by have := HB2.out k hk; omega
   have OWN3 := OWN2.out
   rw [ey2] at OWN3
   simp only [← EX.out, ← EY.out]
   refine ⟨t2, c2, by rw [← ey2]; rfl, OWN3.off O (fun c _ e h => hne c e h), fun k hk => Nat.le_trans o1.size (HB2.out k hk), ⟨⟨fun x hx => R1.ok.1 x (by rw [EY.out] at hx; exact List.mem_of_mem_drop hx), by simp, by simp⟩, fun c hc => ?_, R1.ne, ?_, t', cap - n, HP2.out.set 0 _, (HL2.out.off o2 (fun _ _ _ h => h)).off O (fun x _ hx e => R1.ne (e ▸ hx))⟩, hO⟩
   ·have := R1.lt c hc
    have := o2.size
    simp
    omega
   ·simp only
    omega
 ·have HT : Hid (textS m.toNat s = ([], (l, er))) := by
   show textS m.toNat s = ([], (l, er))
   simp [textS, EC.out, her]
  have hd : (((er : Nat) : Int) == 0) = false := by rw [beq_eq_false_iff_ne]; omega
  go_enter Try.func76, Try.ntmps76
  go_wp2_with fail
  refine (frcount_any hR m hm0 hm).mono ?_
  rw [EC.out]
  rintro e w1 ⟨rfl, R1, o1⟩
  obtain ⟨tad, cap, c0, c1, -, -, -⟩ := R1.cells
  go_wp2_with fail
  go_ret
  rw [HT.out]
  exact ⟨none, 0, rfl, OwnR.nil _, fun k hk => by simp [blk] at hk, R1, o1⟩
set_option maxRecDepth 100000 in
theorem frend_any {D : Nat → Prop} {b : Nat} {s : RS} {w : World} (hR : Rdr 61 D b s w) :
  Calls Try.prog 33 #[.pointer (some ⟨b, 0, none⟩)] w fun e w' => e = .returned (.int .i64 ((endS s : Nat) : Int)) ∧ w' = w := by
 obtain ⟨l, er⟩ := s
 obtain ⟨tad, cap, c0, c1, -, -, -⟩ := hR.cells
 clear hR
 by_cases her : er = 0
 ·have hd : (((er : Nat) : Int) == 0) = true := by rw [beq_iff_eq]; omega
  by_cases hl : l = []
  ·have HE : Hid (endS (l, er) = er) := by
    show endS (l, er) = er
    simp [endS, hl]
   have hd2 : decide (0 < l.length) = false := by simp [hl]
   have HER : Hid _ := her
   clear her hl
   go_enter Try.func33, Try.ntmps33
   go_wp2_with fail
   go_ret
   rw [HE.out]
   exact ⟨rfl, rfl⟩
  ·have HE : Hid (endS (l, er) = 3) := by
    show endS (l, er) = 3
    simp [endS, hl, her]
   have hl' : 0 < l.length := List.length_pos_iff.2 hl
   have hd2 : decide (0 < l.length) = true := by simp; omega
   clear her hl
   go_enter Try.func33, Try.ntmps33
   go_wp2_with fail
   go_ret
   rw [HE.out]
   exact ⟨rfl, rfl⟩
 ·have HE : Hid (endS (l, er) = er) := by
   show endS (l, er) = er
   simp [endS, her]
  have hd : (((er : Nat) : Int) == 0) = false := by rw [beq_eq_false_iff_ne]; omega
  go_enter Try.func33, Try.ntmps33
  go_wp2_with fail
  go_ret
  rw [HE.out]
  exact ⟨rfl, rfl⟩
end Go.Proofs.Ytpnnpdfmoldiiaa
