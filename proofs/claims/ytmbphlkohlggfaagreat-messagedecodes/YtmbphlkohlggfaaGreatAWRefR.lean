/- Items of several texts. -/
import Derived.Test.YtmbphlkohlggfaaGreatAWFlag
namespace Go.Proofs.YtmbphlkohlggfaaGreat
open Go.RowKit
theorem ffail_any {D : Nat → Prop} {b : Nat} {l : List Nat} {w : World} (hR : Rdr 68 D b (l, 0) w) (er : Nat) (her : er ≤ 4) :
  Calls Tryz.prog 65 #[.pointer (some ⟨b, 0, none⟩), .int .i64 (er : Int)] w fun e w' => e = .returned (.tuple #[]) ∧ Rdr 68 D b ([], er) w' ∧ Off (fun c => c = b) w w' := by
 obtain ⟨tad, cap, h1, -⟩ := hR.is
 have c0 : w.cell? ⟨b, 0, none⟩ = some (.slice tad l.length cap) := by rw [h1.cell]; rfl
 have c1 : w.cell? ⟨b, 1, none⟩ = some (.int .i64 0) := by rw [h1.cell]; rfl
 have f0 := h1.free 0
 have f1 := h1.free 1
 go_enter Tryz.func65, Tryz.ntmps65
 go_wp2_with fail
 go_end0
 refine ⟨rfl, ⟨Ok.err her, fun c h => by simpa using hR.lt c h, hR.ne, by simp, none, 0, (h1.set 1 _).set 0 _, Lie.nil _ _⟩, ((Off.refl (fun c => c = b) w).setCell (.inl rfl) _).setCell (.inl rfl) _⟩
theorem drop_cons {l : List Nat} {i : Nat} (h : i < l.length) : l.drop i = l.getD i 0 :: l.drop (i + 1) := by
 rw [List.drop_eq_getElem_cons h]
 simp [h]
set_option maxRecDepth 100000 in
set_option maxHeartbeats 2000000 in
theorem frnum_any {D : Nat → Prop} {b : Nat} {s : RS} {w : World} (hR : Rdr 68 D b s w) :
  Calls Tryz.prog 23 #[.pointer (some ⟨b, 0, none⟩)] w fun e w' => e = .returned (.int .u64 (((numS s).1 : Nat) : Int)) ∧ Rdr 68 D b (numS s).2 w' ∧ Off (fun c => c = b) w w' := by
 obtain ⟨l0, er⟩ := s
 obtain ⟨tad, cap, h1, h2⟩ := hR.is
 have c0 : w.cell? ⟨b, 0, none⟩ = some (.slice tad l0.length cap) := by rw [h1.cell]; rfl
 have c1 : w.cell? ⟨b, 1, none⟩ = some (.int .i64 ((er : Nat) : Int)) := by rw [h1.cell]; rfl
 have f0 := h1.free 0
 have hlen0 : l0.length ≤ 140737488355328 := hR.len
 have H1 : Hid _ := h1
 have H2 : Hid (Lie D w tad cap l0) := h2
 have HR : Hid (Rdr 68 D b (l0, er) w) := hR
 clear h1 h2 hR
 by_cases her : er = 0
 ·subst her
  have c1 : w.cell? ⟨b, 1, none⟩ = some (.int .i64 0) := c1
  go_enter Tryz.func23, Tryz.ntmps23
  go_wp2_with fail
  go_loopw [3, 4] (fun x y wr => ∃ (acc i : Nat), x = .int .u64 (acc : Int) ∧ y = .int .i64 (i : Int) ∧ i ≤ 9 ∧ i ≤ l0.length ∧ acc < 2 ^ (7 * i) ∧ rdNum i acc (l0.drop i) = rdNum 0 0 l0 ∧ wr = w) (fun _ y _ => (10 - intOf y).toNat)
  case atStart => exact ⟨0, 0, rfl, rfl, by omega, by omega, by simp, by simp, rfl⟩
  case round =>
   obtain ⟨acc, i, rfl, rfl, hi, hil, hacc, heq, hwr⟩ := hrel
   rw [hwr]
   clear hwr wr
   have HE : Hid _ := heq
   have HA : Hid _ := hacc
   clear heq hacc
   by_cases hend : i = l0.length
   ·have HN : Hid (numS (l0, 0) = (0, ([], 2))) := by
     show numS (l0, 0) = (0, ([], 2))
     simp only [numS, ne_eq, not_true_eq_false, if_false]
     rw [← HE.out, hend, List.drop_length]
     rfl
    have hd : decide ((l0.length : Int) ≤ (i : Int)) = true := decide_eq_true (by omega)
    have hd' : decide (l0.length ≤ i) = true := decide_eq_true (by omega)
    have HI : Hid _ := hend
    clear hend HE HA
    go_wp2_with fail
    refine (ffail_any HR.out 2 (by omega)).mono ?_
    rintro e w2 ⟨rfl, R2, o2⟩
    go_wp2_with fail
    go_ret
    rw [HN.out]
    exact ⟨rfl, R2, o2⟩
   ·have hil' : i < l0.length := by omega
    have hd : decide ((l0.length : Int) ≤ (i : Int)) = false := decide_eq_false (by omega)
    have hd' : decide (l0.length ≤ i) = false := decide_eq_false (by omega)
    have hne : decide (l0 = []) = false := decide_eq_false (fun h => by rw [h] at hil'; simp at hil')
    obtain ⟨c, ec⟩ : ∃ c, c = l0.getD i 0 := ⟨_, rfl⟩
    have hdrop := drop_cons hil'
    rw [← ec] at hdrop
    have hc : c < 256 := by
     rw [ec]
     refine HR.out.ok.1 _ ?_
     simp [hil']
    obtain ⟨g, off, rfl, hcell⟩ : ∃ g off, tad = some ⟨g, off, none⟩ ∧ w.cell? ⟨g, off + i, none⟩ = some (.int .u8 (c : Int)) := by
     rcases H2.out.is with ⟨-, h, -⟩ | ⟨g, off, h, -, -, hc⟩
     ·simp [h] at hil'
     ·refine ⟨g, off, h, hc i _ ?_⟩
      rw [vl_get _ _ hil', ec]
    have EC : Hid _ := ec
    have HDR : Hid _ := hdrop
    clear ec hdrop hend
    by_cases hbad : (0 < i ∧ c = 0) ∨ (i = 9 ∧ 1 < c)
    ·have HN : Hid (numS (l0, 0) = (0, ([], 3))) := by
      show numS (l0, 0) = (0, ([], 3))
      simp only [numS, ne_eq, not_true_eq_false, if_false]
      rw [← HE.out, HDR.out]
      simp only [rdNum]
      rw [if_pos hbad]
     clear HE HA
     have split : (i = 9 ∧ 1 < c) ∨ (0 < i ∧ c = 0 ∧ i ≠ 9) ∨ (i = 9 ∧ c = 0) := by omega
     clear hbad
     rcases split with ⟨b1, b2⟩ | ⟨b1, b2, b3⟩ | ⟨b1, b2⟩
     ·subst b1
      have hd2 : decide ((1 : Int) < (c : Int)) = true := by simp; omega
      go_wp2_with fail
      refine (ffail_any HR.out 3 (by omega)).mono ?_
      rintro e w2 ⟨rfl, R2, o2⟩
      go_wp2_with fail
      go_ret
      rw [HN.out]
      exact ⟨rfl, R2, o2⟩
     ·subst b2
      have hd1 : (((i : Nat) : Int) == 9) = false := by rw [beq_eq_false_iff_ne]; omega
      have hd2 : decide ((0 : Int) < (i : Int)) = true := by simp; omega
      go_wp2_with fail
      refine (ffail_any HR.out 3 (by omega)).mono ?_
      rintro e w2 ⟨rfl, R2, o2⟩
      go_wp2_with fail
      go_ret
      rw [HN.out]
      exact ⟨rfl, R2, o2⟩
     ·subst b1 b2
      go_wp2_with fail
      refine (ffail_any HR.out 3 (by omega)).mono ?_
      rintro e w2 ⟨rfl, R2, o2⟩
      go_wp2_with fail
      go_ret
      rw [HN.out]
      exact ⟨rfl, R2, o2⟩
    ·obtain ⟨x, hx⟩ : ∃ x, x = c % 128 := ⟨_, rfl⟩
     have hx128 : x < 128 := by omega
     have hroom := acc_room hi HA.out hx128 (by omega)
     have hacc' := acc_next HA.out hx128
     obtain ⟨y, hy⟩ : ∃ y, y = x * 2 ^ (7 * i) := ⟨_, rfl⟩
     obtain ⟨z, hz⟩ : ∃ z, z = acc + y := ⟨_, rfl⟩
     have x1 : bits .and .u8 (c : Int) 127 = (x : Int) := by rw [hx]; exact and127 c hc
     have x4 : IntKind.u64.wrap ((x : Int) * 2 ^ (7 * i)) = (y : Int) := by
      rw [IntKind.wrap_u64]
      have e : ((x : Int) * 2 ^ (7 * i)) = ((x * 2 ^ (7 * i) : Nat) : Int) := by push_cast; rfl
      rw [e, ← hy]
      omega
     have x3 : bits .or .u64 (acc : Int) (y : Int) = (z : Int) := by
      rw [hz, hy]
      exact or_add HA.out hroom
     have hz64 : z < 18446744073709551616 := by omega
     have HZ : Hid (z = acc + (c % 128) * 2 ^ (7 * i)) := by
      show z = acc + (c % 128) * 2 ^ (7 * i)
      rw [hz, hy, hx]
     have hzb : Hid (z < 2 ^ (7 * (i + 1))) := by
      show z < 2 ^ (7 * (i + 1))
      omega
     have HY : Hid (y = x * 2 ^ (7 * i)) := hy
     clear hz hy hx hroom hacc'
     have HB : Hid _ := hbad
     have split : (i = 0) ∨ (0 < i ∧ i ≠ 9 ∧ c ≠ 0) ∨ (i = 9 ∧ c ≠ 0 ∧ ¬ 1 < c) := by omega
     clear hbad
     by_cases h128 : c < 128
     ·have HN : Hid (numS (l0, 0) = (z, (l0.drop (i + 1), 0))) := by
       show numS (l0, 0) = (z, (l0.drop (i + 1), 0))
       simp only [numS, ne_eq, not_true_eq_false, if_false]
       rw [← HE.out, HDR.out]
       simp only [rdNum]
       rw [if_neg HB.out, if_pos h128]
       simp only [HZ.out, show c % 128 = c by omega]
      have hd0 : decide ((c : Int) < 128) = true := by simp; omega
      obtain ⟨t', hs', hL'⟩ := H2.out.drop (k := i + 1) (by omega)
      obtain ⟨rst, ers⟩ : ∃ rst, rst = l0.drop (i + 1) := ⟨_, rfl⟩
      rw [← ers] at hs' hL'
      have hrl : rst.length ≤ l0.length := by rw [ers]; simp
      have hs1 : ∀ W, (Instr.slice 28 (.slice (some ⟨g, off, none⟩) l0.length cap) (some (.int .i64 ((i : Int) + 1))) none none).run Tryz.prog W = .ok (.slice t' rst.length (cap - (i + 1))) W := by
       intro W
       have := hs' W
       rw [← this]
       rfl
      have ERS : Hid _ := ers
      have HL' : Hid _ := hL'
      clear ers hL' hs'
      rcases split with s0 | ⟨s0, s1, s2⟩ | ⟨s0, s1, s2⟩
      ·have hs0 : ∀ W, (Instr.slice 28 (.slice (some ⟨g, off, none⟩) l0.length cap) (some (.int .i64 1)) none none).run Tryz.prog W = .ok (.slice t' rst.length (cap - (i + 1))) W := by
        intro W
        have := hs1 W
        rw [s0] at this
        rw [s0]
        exact this
       have x5 : bits .or .u64 (acc : Int) (x : Int) = (z : Int) := by
        have e : y = x := by rw [HY.out, s0]; simp
        rw [← e]
        exact x3
       have hcell0 : w.cell? ⟨g, off, none⟩ = some (.int .u8 (c : Int)) := by
        have := hcell
        rw [s0] at this
        exact this
       obtain ⟨cx, ecx⟩ : ∃ cx, cx = cap - (i + 1) := ⟨_, rfl⟩
       rw [← ecx] at hs0 hs1
       have ECX : Hid _ := ecx
       clear ecx
       have S0 : Hid _ := s0
       go_wp2_with fail
       go_ret
       have OO : Off (fun c => c = b) w (w.setCell ⟨b, 0, none⟩ (.slice t' rst.length cx)) := (Off.refl (fun c => c = b) w).setCell (.inl rfl) _
       rw [HN.out]
       refine ⟨rfl, ⟨⟨fun x hx => HR.out.ok.1 x (List.mem_of_mem_drop hx), by simp, by simp⟩, fun x hx => by simpa using HR.out.lt x hx, HR.out.ne, by rw [← ERS.out]; simp only; omega, t', cx, ?_, ?_⟩, OO⟩
       ·rw [← ERS.out]
        exact H1.out.set 0 _
       ·have hL := HL'.out
        rw [← ECX.out] at hL
        rw [← ERS.out]
        exact hL.off OO (fun x _ hx e => HR.out.ne (e ▸ hx))
      ·have hd1 : (((i : Nat) : Int) == 9) = false := by rw [beq_eq_false_iff_ne]; omega
       have hd2 : decide ((0 : Int) < (i : Int)) = true := by simp; omega
       have hd3 : (((c : Nat) : Int) == 0) = false := by rw [beq_eq_false_iff_ne]; omega
       obtain ⟨cx, ecx⟩ : ∃ cx, cx = cap - (i + 1) := ⟨_, rfl⟩
       rw [← ecx] at hs1
       have ECX : Hid _ := ecx
       clear ecx
       go_wp2_with fail
       go_ret
       have OO : Off (fun c => c = b) w (w.setCell ⟨b, 0, none⟩ (.slice t' rst.length cx)) := (Off.refl (fun c => c = b) w).setCell (.inl rfl) _
       rw [HN.out]
       refine ⟨rfl, ⟨⟨fun x hx => HR.out.ok.1 x (List.mem_of_mem_drop hx), by simp, by simp⟩, fun x hx => by simpa using HR.out.lt x hx, HR.out.ne, by rw [← ERS.out]; simp only; omega, t', cx, ?_, ?_⟩, OO⟩
       ·rw [← ERS.out]
        exact H1.out.set 0 _
       ·have hL := HL'.out
        rw [← ECX.out] at hL
        rw [← ERS.out]
        exact hL.off OO (fun x _ hx e => HR.out.ne (e ▸ hx))
      ·have hs0 : ∀ W, (Instr.slice 28 (.slice (some ⟨g, off, none⟩) l0.length cap) (some (.int .i64 10)) none none).run Tryz.prog W = .ok (.slice t' rst.length (cap - (i + 1))) W := by
        intro W
        have := hs1 W
        rw [s0] at this
        rw [s0]
        exact this
       have hd3 : (((c : Nat) : Int) == 0) = false := by rw [beq_eq_false_iff_ne]; omega
       have hd4 : decide ((1 : Int) < (c : Int)) = false := by simp; omega
       have x5 : IntKind.u64.wrap ((x : Int) * 9223372036854775808) = (y : Int) := by
        rw [← x4, s0]
        simp
       have hcell0 : w.cell? ⟨g, off + 9, none⟩ = some (.int .u8 (c : Int)) := by
        have := hcell
        rw [s0] at this
        exact this
       obtain ⟨cx, ecx⟩ : ∃ cx, cx = cap - (i + 1) := ⟨_, rfl⟩
       rw [← ecx] at hs0 hs1
       have ECX : Hid _ := ecx
       clear ecx
       have S0 : Hid _ := s0
       go_wp2_with fail
       go_ret
       have OO : Off (fun c => c = b) w (w.setCell ⟨b, 0, none⟩ (.slice t' rst.length cx)) := (Off.refl (fun c => c = b) w).setCell (.inl rfl) _
       rw [HN.out]
       refine ⟨rfl, ⟨⟨fun x hx => HR.out.ok.1 x (List.mem_of_mem_drop hx), by simp, by simp⟩, fun x hx => by simpa using HR.out.lt x hx, HR.out.ne, by rw [← ERS.out]; simp only; omega, t', cx, ?_, ?_⟩, OO⟩
       ·rw [← ERS.out]
        exact H1.out.set 0 _
       ·have hL := HL'.out
        rw [← ECX.out] at hL
        rw [← ERS.out]
        exact hL.off OO (fun x _ hx e => HR.out.ne (e ▸ hx))
     ·have HN : Hid (rdNum (i + 1) z (l0.drop (i + 1)) = rdNum 0 0 l0) := by
       show rdNum (i + 1) z (l0.drop (i + 1)) = rdNum 0 0 l0
       rw [← HE.out, HDR.out]
       simp only [rdNum]
       rw [if_neg HB.out, if_neg h128, HZ.out, show c - 128 = c % 128 by omega]
      have hd0 : decide ((c : Int) < 128) = false := by simp; omega
      rcases split with s0 | ⟨s0, s1, s2⟩ | ⟨s0, s1, s2⟩
      ·have x5 : bits .or .u64 (acc : Int) (x : Int) = (z : Int) := by
        have e : y = x := by rw [HY.out, s0]; simp
        rw [← e]
        exact x3
       have hcell0 : w.cell? ⟨g, off, none⟩ = some (.int .u8 (c : Int)) := by
        have := hcell
        rw [s0] at this
        exact this
       have S0 : Hid _ := s0
       go_wp2_with fail
       go_roundw
       case rel => exact ⟨z, i + 1, rfl, by go_num, by omega, by omega, hzb.out, HN.out, trivial⟩
       case measure => simp [intOf]; omega
      ·have hd1 : (((i : Nat) : Int) == 9) = false := by rw [beq_eq_false_iff_ne]; omega
       have hd2 : decide ((0 : Int) < (i : Int)) = true := by simp; omega
       have hd3 : (((c : Nat) : Int) == 0) = false := by rw [beq_eq_false_iff_ne]; omega
       go_wp2_with fail
       go_roundw
       case rel => exact ⟨z, i + 1, rfl, by go_num, by omega, by omega, hzb.out, HN.out, trivial⟩
       case measure => simp [intOf]; omega
      ·omega
 ·have hn : numS (l0, er) = (0, (l0, er)) := by simp [numS, her]
  have HN : Hid _ := hn
  clear hn
  have hd : (((er : Nat) : Int) == 0) = false := by rw [beq_eq_false_iff_ne]; omega
  go_enter Tryz.func23, Tryz.ntmps23
  go_wp2_with fail
  go_loopw [3, 4] (fun x y wr => x = .int .u64 0 ∧ y = .int .i64 0 ∧ wr = w) (fun _ _ _ => 0)
  case atStart => exact ⟨rfl, rfl, rfl⟩
  case round =>
   obtain ⟨rfl, rfl, hwr⟩ := hrel
   rw [hwr]
   clear hwr wr
   go_wp2_with fail
   go_ret
   rw [HN.out]
   exact ⟨rfl, HR.out, Off.refl _ _⟩
end Go.Proofs.YtmbphlkohlggfaaGreat

namespace Go.Proofs.YtmbphlkohlggfaaGreat
open Go.RowKit
theorem Rdr.cells {T : TypeId} {D : Nat → Prop} {b : Nat} {l : List Nat} {er : Nat} {w : World} (h : Rdr T D b (l, er) w) : ∃ tad cap, w.cell? ⟨b, 0, none⟩ = some (.slice tad l.length cap) ∧ w.cell? ⟨b, 1, none⟩ = some (.int .i64 ((er : Nat) : Int)) ∧ w.frozen? ⟨b, 0, none⟩ = false ∧ Cel b T #[.slice tad l.length cap, .int .i64 ((er : Nat) : Int)] w ∧ Lie D w tad cap l := by
 obtain ⟨tad, cap, h1, h2⟩ := h.is
 exact ⟨tad, cap, by rw [h1.cell]; rfl, by rw [h1.cell]; rfl, h1.free 0, h1, h2⟩
set_option maxRecDepth 100000 in
theorem frint_any {D : Nat → Prop} {b : Nat} {s : RS} {w : World} (hR : Rdr 68 D b s w) :
  Calls Tryz.prog 24 #[.pointer (some ⟨b, 0, none⟩)] w fun e w' => e = .returned (.int .i64 (intS s).1) ∧ Rdr 68 D b (intS s).2 w' ∧ Off (fun c => c = b) w w' := by
 have hno := num_ok hR.ok
 simp only [intS]
 obtain ⟨n, l, er, en⟩ : ∃ n l er, numS s = (n, (l, er)) := ⟨_, _, _, rfl⟩
 rw [en] at hno ⊢
 have hn : n < 18446744073709551616 := hno.2.1
 have hz0 : er ≠ 0 → n = 0 := hno.2.2.1
 have EN : Hid _ := en
 clear en hno
 by_cases her : er = 0
 ·have hd : (((er : Nat) : Int) == 0) = true := by rw [beq_iff_eq]; omega
  have HER : Hid _ := her
  clear her hz0
  have h1 := u64_odd n hn
  have hh : (n : Int) / 2 = ((n / 2 : Nat) : Int) := by omega
  obtain ⟨k, ek⟩ : ∃ k, k = n / 2 := ⟨_, rfl⟩
  have hk : k < 9223372036854775808 := by omega
  rw [← ek] at hh
  rcases Nat.mod_two_eq_zero_or_one n with h | h
  ·rw [h] at h1
   have hz : Hid (unzig n = (k : Int)) := by rw [ek]; exact unzig_even h
   have x1 : bits .and .u64 (n : Int) 1 = 0 := h1
   have x2 := xor_none k hk
   clear h h1 ek
   go_enter Tryz.func24, Tryz.ntmps24
   go_wp2_with fail
   refine (frnum_any hR).mono ?_
   rw [EN.out]
   rintro e w1 ⟨rfl, R1, o1⟩
   obtain ⟨tad, cap, c0, c1, f0, -, -⟩ := R1.cells
   go_wp2_with fail
   go_ret
   simp only [hz.out]
   exact ⟨rfl, R1, o1⟩
  ·rw [h] at h1
   have hz : Hid (unzig n = -(k : Int) - 1) := by rw [ek]; exact unzig_odd h
   have x1 : bits .and .u64 (n : Int) 1 = 1 := h1
   have x2 := xor_ones k hk
   clear h h1 ek
   go_enter Tryz.func24, Tryz.ntmps24
   go_wp2_with fail
   refine (frnum_any hR).mono ?_
   rw [EN.out]
   rintro e w1 ⟨rfl, R1, o1⟩
   obtain ⟨tad, cap, c0, c1, f0, -, -⟩ := R1.cells
   go_wp2_with fail
   go_ret
   simp only [hz.out]
   exact ⟨rfl, R1, o1⟩
 ·have hd : (((er : Nat) : Int) == 0) = false := by rw [beq_eq_false_iff_ne]; omega
  have HN0 : Hid (unzig n = 0) := by
   show unzig n = 0
   rw [hz0 her]
   simp [unzig]
  clear hz0
  go_enter Tryz.func24, Tryz.ntmps24
  go_wp2_with fail
  refine (frnum_any hR).mono ?_
  rw [EN.out]
  rintro e w1 ⟨rfl, R1, o1⟩
  obtain ⟨tad, cap, c0, c1, f0, -, -⟩ := R1.cells
  go_wp2_with fail
  go_ret
  simp only [HN0.out]
  exact ⟨rfl, R1, o1⟩
set_option maxRecDepth 100000 in
theorem frflag_any {D : Nat → Prop} {b : Nat} {s : RS} {w : World} (hR : Rdr 68 D b s w) :
  Calls Tryz.prog 106 #[.pointer (some ⟨b, 0, none⟩)] w fun e w' => e = .returned (.bool (flagS s).1) ∧ Rdr 68 D b (flagS s).2 w' ∧ Off (fun c => c = b) w w' := by
 obtain ⟨l, er⟩ := s
 obtain ⟨tad, cap, c0, c1, f0, h1, h2⟩ := hR.cells
 have H1 : Hid _ := h1
 have H2 : Hid (Lie D w tad cap l) := h2
 have R : Hid _ := hR
 clear h1 h2
 by_cases her : er = 0
 ·subst her
  replace c1 : w.cell? ⟨b, 1, none⟩ = some (.int .i64 0) := c1
  match l with
  | [] =>
   replace c0 : w.cell? ⟨b, 0, none⟩ = some (.slice tad 0 cap) := c0
   go_enter Tryz.func106, Tryz.ntmps106
   go_wp2_with fail
   refine (ffail_any R.out 2 (by omega)).mono ?_
   rintro e w1 ⟨rfl, R1, o1⟩
   obtain ⟨tad1, cap1, d0, d1, -, -, -⟩ := R1.cells
   replace d1 : w1.cell? ⟨b, 1, none⟩ = some (.int .i64 2) := d1
   go_wp2_with fail
   go_ret
   exact ⟨rfl, R1, o1⟩
  | c :: l =>
   replace c0 : w.cell? ⟨b, 0, none⟩ = some (.slice tad (l.length + 1) cap) := c0
   have hc : c < 256 := hR.ok.1 c (by simp)
   have hlen : l.length < 140737488355328 := by have := hR.len; simp at this; omega
   obtain ⟨g, off, rfl, hcell⟩ : ∃ g off, tad = some ⟨g, off, none⟩ ∧ w.cell? ⟨g, off, none⟩ = some (.int .u8 (c : Int)) := by
    rcases H2.out.is with ⟨-, h, -⟩ | ⟨g, off, h, -, -, hcell⟩
    ·simp at h
    ·exact ⟨g, off, h, hcell 0 _ rfl⟩
   by_cases h1 : 1 < c
   ·have HF : Hid (flagS (c :: l, 0) = (false, ([], 3))) := by
     show flagS (c :: l, 0) = _
     simp [flagS, h1]
    have hd : decide ((1 : Int) < (c : Int)) = true := by simp; omega
    go_enter Tryz.func106, Tryz.ntmps106
    go_wp2_with fail
    refine (ffail_any R.out 3 (by omega)).mono ?_
    rintro e w1 ⟨rfl, R1, o1⟩
    obtain ⟨tad1, cap1, d0, d1, -, -, -⟩ := R1.cells
    replace d1 : w1.cell? ⟨b, 1, none⟩ = some (.int .i64 3) := d1
    go_wp2_with fail
    go_ret
    rw [HF.out]
    exact ⟨rfl, R1, o1⟩
   ·have HF : Hid (flagS (c :: l, 0) = (c == 1, (l, 0))) := by
     show flagS (c :: l, 0) = _
     simp [flagS, h1]
    have hd : decide ((1 : Int) < (c : Int)) = false := by simp; omega
    have HQ : Hid ((((c : Nat) : Int) == 1) = (c == 1)) := by
     show (((c : Nat) : Int) == 1) = (c == 1)
     rw [Bool.eq_iff_iff, beq_iff_eq, beq_iff_eq]
     omega
    obtain ⟨t', hs, hL⟩ := H2.out.drop (k := 1) (by simp)
    simp only [List.drop_succ_cons, List.drop_zero, List.length_cons] at hs hL
    replace hs : ∀ W, (Instr.slice 28 (.slice (some ⟨g, off, none⟩) (l.length + 1) cap) (some (.int .i64 1)) none none).run Tryz.prog W = .ok (.slice t' l.length (cap - 1)) W := hs
    have HL : Hid _ := hL
    clear hL
    go_enter Tryz.func106, Tryz.ntmps106
    go_wp2_with fail
    go_ret
    rw [HF.out]
    have O : Off (fun c => c = b) w (w.setCell ⟨b, 0, none⟩ (.slice t' l.length (cap - 1))) := (Off.refl (fun c => c = b) w).setCell (.inl rfl) _
    exact ⟨by simp only [← HQ.out]; rfl, ⟨⟨fun x hx => R.out.ok.1 x (by simp only at hx; simp [hx]), by simp, by simp⟩, fun x hx => by simpa using R.out.lt x hx, R.out.ne, by simp only; omega, t', cap - 1, H1.out.set 0 _, HL.out.off O (fun x _ hx e => R.out.ne (e ▸ hx))⟩, O⟩
 ·have HF : Hid (flagS (l, er) = (false, (l, er))) := by
   show flagS (l, er) = _
   simp [flagS, her]
  have hd : (((er : Nat) : Int) == 0) = false := by rw [beq_eq_false_iff_ne]; omega
  go_enter Tryz.func106, Tryz.ntmps106
  go_wp2_with fail
  go_ret
  rw [HF.out]
  exact ⟨rfl, R.out, Off.refl _ _⟩
set_option maxRecDepth 100000 in
theorem frcount_any {D : Nat → Prop} {b : Nat} {s : RS} {w : World} (hR : Rdr 68 D b s w) (m : Int) (hm0 : -9223372036854775808 ≤ m) (hm : m ≤ 9223372036854775807) :
  Calls Tryz.prog 26 #[.pointer (some ⟨b, 0, none⟩), .int .i64 m] w fun e w' => e = .returned (.int .i64 (((countS m.toNat s).1 : Nat) : Int)) ∧ Rdr 68 D b (countS m.toNat s).2 w' ∧ Off (fun c => c = b) w w' := by
 have hno := num_ok hR.ok
 obtain ⟨n, l, er, en⟩ : ∃ n l er, numS s = (n, (l, er)) := ⟨_, _, _, rfl⟩
 rw [en] at hno
 have hn : n < 18446744073709551616 := hno.2.1
 have hz0 : er ≠ 0 → n = 0 := hno.2.2.1
 obtain ⟨mm, hmm⟩ : ∃ mm, mm = m.toNat := ⟨_, rfl⟩
 have hmb : mm ≤ 9223372036854775807 := by omega
 have hx : ∀ ts t W, (Builtin.max_ ts t #[.int .i64 0, .int .i64 m]).run Tryz.prog W = .ok (.int .i64 (mm : Int)) W := by
  intro ts t W
  go_simp
  omega
 rw [← hmm]
 have EN : Hid _ := en
 have HMM : Hid _ := hmm
 clear en hno hmm
 by_cases her : er = 0
 ·subst her
  clear hz0
  by_cases hlong : mm < n
  ·have HC : Hid (countS mm s = (0, ([], 4))) := by
    show countS mm s = (0, ([], 4))
    unfold countS
    rw [EN.out, if_pos hlong]
   have hd : decide ((mm : Int) < (n : Int)) = true := decide_eq_true (by omega)
   have hd' : decide (mm < n) = true := decide_eq_true (by omega)
   go_enter Tryz.func26, Tryz.ntmps26
   go_wp2_with fail
   refine (frnum_any hR).mono ?_
   rw [EN.out]
   rintro e w1 ⟨rfl, R1, o1⟩
   obtain ⟨tad, cap, c0, c1, -, -, -⟩ := R1.cells
   replace c1 : w1.cell? ⟨b, 1, none⟩ = some (.int .i64 0) := c1
   go_wp2_with fail
   refine (ffail_any R1 4 (by omega)).mono ?_
   rintro e w2 ⟨rfl, R2, o2⟩
   obtain ⟨tad2, cap2, d0, d1, -, -, -⟩ := R2.cells
   replace d1 : w2.cell? ⟨b, 1, none⟩ = some (.int .i64 4) := d1
   go_wp2_with fail
   go_ret
   rw [HC.out]
   exact ⟨rfl, R2, o1.trans o2 (fun _ _ h => h)⟩
  ·have HC : Hid (countS mm s = (n, (l, 0))) := by
    show countS mm s = (n, (l, 0))
    unfold countS
    rw [EN.out, if_neg hlong]
   have hd : decide ((mm : Int) < (n : Int)) = false := decide_eq_false (by omega)
   have hd' : decide (mm < n) = false := decide_eq_false (by omega)
   go_enter Tryz.func26, Tryz.ntmps26
   go_wp2_with fail
   refine (frnum_any hR).mono ?_
   rw [EN.out]
   rintro e w1 ⟨rfl, R1, o1⟩
   obtain ⟨tad, cap, c0, c1, -, -, -⟩ := R1.cells
   replace c1 : w1.cell? ⟨b, 1, none⟩ = some (.int .i64 0) := c1
   go_wp2_with fail
   go_ret
   rw [HC.out]
   exact ⟨rfl, R1, o1⟩
 ·have hd : (((er : Nat) : Int) == 0) = false := by rw [beq_eq_false_iff_ne]; omega
  have HC : Hid (countS mm s = (0, (l, er))) := by
   show countS mm s = (0, (l, er))
   unfold countS
   rw [EN.out, hz0 her, if_neg (by simp)]
  clear hz0
  go_enter Tryz.func26, Tryz.ntmps26
  go_wp2_with fail
  refine (frnum_any hR).mono ?_
  rw [EN.out]
  rintro e w1 ⟨rfl, R1, o1⟩
  obtain ⟨tad, cap, c0, c1, -, -, -⟩ := R1.cells
  go_wp2_with fail
  go_ret
  rw [HC.out]
  exact ⟨rfl, R1, o1⟩
set_option maxRecDepth 100000 in
set_option maxHeartbeats 1000000 in
theorem frtext_any {D : Nat → Prop} {b : Nat} {s : RS} {w : World} (hR : Rdr 68 D b s w) (m : Int) (hm0 : -9223372036854775808 ≤ m) (hm : m ≤ 9223372036854775807) :
  Calls Tryz.prog 25 #[.pointer (some ⟨b, 0, none⟩), .int .i64 m] w fun e w' => ∃ t c, e = .returned (.slice t (textS m.toNat s).1.length c) ∧ OwnR w' t c (textS m.toNat s).1 ∧ (∀ k, blk t = some k → w.heap.size ≤ k) ∧ Rdr 68 D b (textS m.toNat s).2 w' ∧ Off (fun c => c = b) w w' := by
 have hco := count_ok m.toNat hR.ok
 obtain ⟨n, l, er, ec⟩ : ∃ n l er, countS m.toNat s = (n, (l, er)) := ⟨_, _, _, rfl⟩
 have hlen := hR.len
 rw [ec] at hco
 have hll : l.length ≤ s.1.length := hco.2.2.2
 have hnm : n ≤ m.toNat := hco.2.1
 have hn63 : (n : Int) ≤ 9223372036854775807 := by omega
 have EC : Hid _ := ec
 clear ec hco
 by_cases her : er = 0
 ·subst her
  by_cases hl : l.length < n
  ·have HT : Hid (textS m.toNat s = ([], ([], 2))) := by
    show textS m.toNat s = ([], ([], 2))
    simp [textS, EC.out, hl]
   have hd : decide ((l.length : Int) < (n : Int)) = true := decide_eq_true (by omega)
   have hd' : decide (l.length < n) = true := decide_eq_true (by omega)
   go_enter Tryz.func25, Tryz.ntmps25
   go_wp2_with fail
   refine (frcount_any hR m hm0 hm).mono ?_
   rw [EC.out]
   rintro e w1 ⟨rfl, R1, o1⟩
   obtain ⟨tad, cap, c0, c1, -, -, -⟩ := R1.cells
   replace c1 : w1.cell? ⟨b, 1, none⟩ = some (.int .i64 0) := c1
   go_wp2_with fail
   refine (ffail_any R1 2 (by omega)).mono ?_
   rintro e w2 ⟨rfl, R2, o2⟩
   obtain ⟨tad2, cap2, d0, d1, -, -, -⟩ := R2.cells
   replace d1 : w2.cell? ⟨b, 1, none⟩ = some (.int .i64 2) := d1
   go_wp2_with fail
   go_ret
   rw [HT.out]
   exact ⟨none, 0, rfl, OwnR.nil _, fun k hk => by simp [blk] at hk, R2, o1.trans o2 (fun _ _ h => h)⟩
  ·have HT : Hid (textS m.toNat s = (l.take n, (l.drop n, 0))) := by
    show textS m.toNat s = (l.take n, (l.drop n, 0))
    simp [textS, EC.out, hl]
   have hd : decide ((l.length : Int) < (n : Int)) = false := decide_eq_false (by omega)
   have hd' : decide (l.length < n) = false := decide_eq_false (by omega)
   go_enter Tryz.func25, Tryz.ntmps25
   go_wp2_with fail
   refine (frcount_any hR m hm0 hm).mono ?_
   rw [EC.out]
   rintro e w1 ⟨rfl, R1, o1⟩
   obtain ⟨tad, cap, c0, c1, f0, h1, h2⟩ := R1.cells
   replace c1 : w1.cell? ⟨b, 1, none⟩ = some (.int .i64 0) := c1
   obtain ⟨hs1, L1⟩ := h2.take (k := n) (by omega)
   obtain ⟨t', hs2, L2⟩ := h2.drop (k := n) (by omega)
   obtain ⟨x, ex⟩ : ∃ x, x = l.take n := ⟨_, rfl⟩
   obtain ⟨y, ey⟩ : ∃ y, y = l.drop n := ⟨_, rfl⟩
   have hxl : x.length ≤ l.length := by rw [ex]; simp; omega
   have hyl : y.length ≤ l.length := by rw [ey]; simp
   rw [← ex] at hs1 L1
   rw [← ey] at hs2 L2
   have EX : Hid _ := ex
   have EY : Hid _ := ey
   have H1 : Hid (Cel b 68 #[.slice tad l.length cap, .int .i64 ((0 : Nat) : Int)] w1) := h1
   have HL1 : Hid (Lie D w1 tad cap x) := L1
   have HL2 : Hid (Lie D w1 t' (cap - n) y) := L2
   clear ex ey h1 h2 L1 L2
   go_wp2_with (at_builtin; refine wpList_app rfl (.const (.slice none 0 0)) (.tmp 36) rfl none 0 [] rfl (OwnR.nil _) tad cap x rfl HL1.out.src (by simp; omega) ?_; intro t2 c2 w2 y2 hy2 own2 off2 at2; have o2 : Off (fun _ => False) w1 w2 := off2.mono (fun i _ h => by simp [blk] at h); have P2 : Cel b 68 _ w2 := H1.out.off o2 (fun h => h); have p2 : w2.cell? ⟨b, 0, none⟩ = some (.slice tad l.length cap) := (P2.cell 0).trans rfl; have g2 := P2.free 0; have HP2 : Hid _ := P2; have OWN2 : Hid (OwnR w2 t2 c2 y2) := own2; have hb2 : ∀ k, blk t2 = some k → w1.heap.size ≤ k := (fun k hk => by rcases at2 with a | a <;> (rw [a] at hk; simp [blk] at hk; try omega)); have HB2 : Hid _ := hb2; clear P2 own2 off2 at2 hb2)
   go_ret
   rw [HT.out]
   have ey2 : y2 = x := hy2.out
   have O : Off (fun c => c = b) w2 (w2.setCell ⟨b, 0, none⟩ (.slice t' y.length (cap - n))) := (Off.refl (fun c => c = b) w2).setCell (.inl rfl) _
   have hb1 := R1.here
   have hO : Off (fun c => c = b) w (w2.setCell ⟨b, 0, none⟩ (.slice t' y.length (cap - n))) := (o1.trans o2 (fun _ _ h => h.elim)).trans O (fun _ _ h => h)
   have hne : ∀ k, blk t2 = some k → k ≠ b := fun k hk e => by have := HB2.out k hk; omega
   have OWN3 := OWN2.out
   rw [ey2] at OWN3
   simp only [← EX.out, ← EY.out]
   refine ⟨t2, c2, by rw [← ey2]; rfl, OWN3.off O (fun c _ e h => hne c e h), fun k hk => Nat.le_trans o1.size (HB2.out k hk), ⟨⟨fun x hx => R1.ok.1 x (by rw [EY.out] at hx; exact List.mem_of_mem_drop hx), by simp, by simp⟩, fun c hc => ?_, R1.ne, ?_, t', cap - n, HP2.out.set 0 _, (HL2.out.off o2 (fun _ _ _ h => h)).off O (fun x _ hx e => R1.ne (e ▸ hx))⟩, hO⟩
   ·have := R1.lt c hc
    have := o2.size
    simp
    omega
   ·simp only
    omega
 ·have HT : Hid (textS m.toNat s = ([], (l, er))) := by
   show textS m.toNat s = ([], (l, er))
   simp [textS, EC.out, her]
  have hd : (((er : Nat) : Int) == 0) = false := by rw [beq_eq_false_iff_ne]; omega
  go_enter Tryz.func25, Tryz.ntmps25
  go_wp2_with fail
  refine (frcount_any hR m hm0 hm).mono ?_
  rw [EC.out]
  rintro e w1 ⟨rfl, R1, o1⟩
  obtain ⟨tad, cap, c0, c1, -, -, -⟩ := R1.cells
  go_wp2_with fail
  go_ret
  rw [HT.out]
  exact ⟨none, 0, rfl, OwnR.nil _, fun k hk => by simp [blk] at hk, R1, o1⟩
set_option maxRecDepth 100000 in
theorem frend_any {D : Nat → Prop} {b : Nat} {s : RS} {w : World} (hR : Rdr 68 D b s w) :
  Calls Tryz.prog 29 #[.pointer (some ⟨b, 0, none⟩)] w fun e w' => e = .returned (.int .i64 ((endS s : Nat) : Int)) ∧ w' = w := by
 obtain ⟨l, er⟩ := s
 obtain ⟨tad, cap, c0, c1, -, -, -⟩ := hR.cells
 clear hR
 by_cases her : er = 0
 ·have hd : (((er : Nat) : Int) == 0) = true := by rw [beq_iff_eq]; omega
  by_cases hl : l = []
  ·have HE : Hid (endS (l, er) = er) := by
    show endS (l, er) = er
    simp [endS, hl]
   have hd2 : decide (0 < l.length) = false := by simp [hl]
   have HER : Hid _ := her
   clear her hl
   go_enter Tryz.func29, Tryz.ntmps29
   go_wp2_with fail
   go_ret
   rw [HE.out]
   exact ⟨rfl, rfl⟩
  ·have HE : Hid (endS (l, er) = 3) := by
    show endS (l, er) = 3
    simp [endS, hl, her]
   have hl' : 0 < l.length := List.length_pos_iff.2 hl
   have hd2 : decide (0 < l.length) = true := by simp; omega
   clear her hl
   go_enter Tryz.func29, Tryz.ntmps29
   go_wp2_with fail
   go_ret
   rw [HE.out]
   exact ⟨rfl, rfl⟩
 ·have HE : Hid (endS (l, er) = er) := by
   show endS (l, er) = er
   simp [endS, her]
  have hd : (((er : Nat) : Int) == 0) = false := by rw [beq_eq_false_iff_ne]; omega
  go_enter Tryz.func29, Tryz.ntmps29
  go_wp2_with fail
  go_ret
  rw [HE.out]
  exact ⟨rfl, rfl⟩
end Go.Proofs.YtmbphlkohlggfaaGreat
