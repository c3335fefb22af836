/- Items of several texts. -/
import Derived.Test.YtpnnpdfmoldiiaaDWRtext
namespace Go.Proofs.Ytpnnpdfmoldiiaa
open Go.RowKit
theorem ffail_any {D : Nat → Prop} {b : Nat} {l : List Nat} {w : World} (hR : Rdr 61 D b (l, 0) w) (er : Nat) (her : er ≤ 4) :
  Calls Try.prog 116 #[.pointer (some ⟨b, 0, none⟩), .int .i64 (er : Int)] w fun e w' => e = .returned (.tuple #[]) ∧ Rdr 61 D b ([], er) w' ∧ Off (fun c => c = b) w w' := by
 obtain ⟨tad, cap, h1, -⟩ := hR.is
 have c0 : w.cell? ⟨b, 0, none⟩ = some (.slice tad l.length cap) := by rw [h1.cell]; rfl
 have c1 : w.cell? ⟨b, 1, none⟩ = some (.int .i64 0) := by rw [h1.cell]; rfl
 have f0 := h1.free 0
 have f1 := h1.free 1
 go_enter Try.func116, Try.ntmps116
 go_wp2_with fail
 go_end0
 refine ⟨rfl, ⟨Ok.err her, fun c h => by simpa using hR.lt c h, hR.ne, by simp, none, 0, (h1.set 1 _).set 0 _, Lie.nil _ _⟩, ((Off.refl (fun c => c = b) w).setCell (.inl rfl) _).setCell (.inl rfl) _⟩
theorem drop_cons {l : List Nat} {i : Nat} (h : i < l.length) : l.drop i = l.getD i 0 :: l.drop (i + 1) := by
 rw [List.drop_eq_getElem_cons h]
 simp [h]
set_option maxRecDepth 100000 in
set_option maxHeartbeats 2000000 in
theorem frnum_any {D : Nat → Prop} {b : Nat} {s : RS} {w : World} (hR : Rdr 61 D b s w) :
  Calls Try.prog 118 #[.pointer (some ⟨b, 0, none⟩)] w fun e w' => e = .returned (.int .u64 (((numS s).1 : Nat) : Int)) ∧ Rdr 61 D b (numS s).2 w' ∧ Off (fun c => c = b) w w' := by
 obtain ⟨l0, er⟩ := s
 obtain ⟨tad, cap, h1, h2⟩ := hR.is
 have c0 : w.cell? ⟨b, 0, none⟩ = some (.slice tad l0.length cap) := by rw [h1.cell]; rfl
 have c1 : w.cell? ⟨b, 1, none⟩ = some (.int .i64 ((er : Nat) : Int)) := by rw [h1.cell]; rfl
 have f0 := h1.free 0
 have hlen0 : l0.length ≤ 140737488355328 := hR.len
 have H1 : Hid _ := h1
 have H2 : Hid (Lie D w tad cap l0) := h2
 have HR : Hid (Rdr 61 D b (l0, er) w) := hR
 clear h1 h2 hR
 by_cases her : er = 0
 ·subst her
  have c1 : w.cell? ⟨b, 1, none⟩ = some (.int .i64 0) := c1
  go_enter Try.func118, Try.ntmps118
  go_wp2_with fail
  go_loopw [3, 4] (fun x y wr => ∃ (acc i : Nat), x = .int .u64 (acc : Int) ∧ y = .int .i64 (i : Int) ∧ i ≤ 9 ∧ i ≤ l0.length ∧ acc < 2 ^ (7 * i) ∧ rdNum i acc (l0.drop i) = rdNum 0 0 l0 ∧ wr = w) (fun _ y _ => (10 - intOf y).toNat)
  case atStart => exact ⟨0, 0, rfl, rfl, by omega, by omega, by simp, by simp, rfl⟩
  case round =>
   obtain ⟨acc, i, rfl, rfl, hi, hil, hacc, heq, hwr⟩ := hrel
   rw [hwr]
   clear hwr wr
   have HE : Hid _ := heq
   have HA : Hid _ := hacc
   clear heq hacc
   by_cases hend : i = l0.length
   ·have HN : Hid (numS (l0, 0) = (0, ([], 2))) := by
     show numS (l0, 0) = (0, ([], 2))
     simp only [numS, ne_eq, not_true_eq_false, if_false]
     rw [← HE.out, hend, List.drop_length]
     rfl
    have hd : decide ((l0.length : Int) ≤ (i : Int)) = true := decide_eq_true (by omega)
    have hd' : decide (l0.length ≤ i) = true := decide_eq_true (by omega)
    have HI : Hid _ := hend
    clear hend HE HA
    go_wp2_with fail
    refine (ffail_any HR.out 2 (by omega)).mono ?_
    rintro e w2 ⟨rfl, R2, o2⟩
    go_wp2_with fail
    go_ret
    rw [HN.out]
    exact ⟨rfl, R2, o2⟩
   ·have hil' : i < l0.length := by omega
    have hd : decide ((l0.length : Int) ≤ (i : Int)) = false := decide_eq_false (by omega)
    have hd' : decide (l0.length ≤ i) = false := decide_eq_false (by omega)
    have hne : decide (l0 = []) = false := decide_eq_false (fun h => by rw [h] at hil'; simp at hil')
    obtain ⟨c, ec⟩ : ∃ c, c = l0.getD i 0 := ⟨_, rfl⟩
    have hdrop := drop_cons hil'
    rw [← ec] at hdrop
    have hc : c < 256 := by
     rw [ec]
     refine HR.out.ok.1 _ ?_
     simp [hil']
    obtain ⟨g, off, rfl, hcell⟩ : ∃ g off, tad = some ⟨g, off, none⟩ ∧ w.cell? ⟨g, off + i, none⟩ = some (.int .u8 (c : Int)) := by
     rcases H2.out.is with ⟨-, h, -⟩ | ⟨g, off, h, -, -, hc⟩
     ·simp [h] at hil'
     ·refine ⟨g, off, h, hc i _ ?_⟩
      rw [vl_get _ _ hil', ec]
    have EC : Hid _ := ec
    have HDR : Hid _ := hdrop
    clear ec hdrop hend
    by_cases hbad : (0 < i ∧ c = 0) ∨ (i = 9 ∧ 1 < c)
    ·have HN : Hid (numS (l0, 0) = (0, ([], 3))) := by
      show numS (l0, 0) = (0, ([], 3))
      simp only [numS, ne_eq, not_true_eq_false, if_false]
      rw [← HE.out, HDR.out]
      simp only [rdNum]
      rw [if_pos hbad]
     clear HE HA
     have split : (i = 9 ∧ 1 < c) ∨ (0 < i ∧ c = 0 ∧ i ≠ 9) ∨ (i = 9 ∧ c = 0) := by omega
     clear hbad
     rcases split with ⟨b1, b2⟩ | ⟨b1, b2, b3⟩ | ⟨b1, b2⟩
     ·subst b1
      have hd2 : decide ((1 : Int) < (c : Int)) = true := by simp; omega
      go_wp2_with fail
      refine (ffail_any HR.out 3 (by omega)).mono ?_
      rintro e w2 ⟨rfl, R2, o2⟩
      go_wp2_with fail
      go_ret
      rw [HN.out]
      exact ⟨rfl, R2, o2⟩
     ·subst b2
      have hd1 : (((i : Nat) : Int) == 9) = false := by rw [beq_eq_false_iff_ne]; omega
      have hd2 : decide ((0 : Int) < (i : Int)) = true := by simp; omega
      go_wp2_with fail
      refine (ffail_any HR.out 3 (by omega)).mono ?_
      rintro e w2 ⟨rfl, R2, o2⟩
      go_wp2_with fail
      go_ret
      rw [HN.out]
      exact ⟨rfl, R2, o2⟩
     ·subst b1 b2
      go_wp2_with fail
      refine (ffail_any HR.out 3 (by omega)).mono ?_
      rintro e w2 ⟨rfl, R2, o2⟩
      go_wp2_with fail
      go_ret
      rw [HN.out]
      exact ⟨rfl, R2, o2⟩
    ·obtain ⟨x, hx⟩ : ∃ x, x = c % 128 := ⟨_, rfl⟩
     have hx128 : x < 128 := by omega
     have hroom := acc_room hi HA.out hx128 (by omega)
     have hacc' := acc_next HA.out hx128
     obtain ⟨y, hy⟩ : ∃ y, y = x * 2 ^ (7 * i) := ⟨_, rfl⟩
     obtain ⟨z, hz⟩ : ∃ z, z = acc + y := ⟨_, rfl⟩
     have x1 : bits .and .u8 (c : Int) 127 = (x : Int) := by rw [hx]; exact and127 c hc
     have x4 : IntKind.u64.wrap ((x : Int) * 2 ^ (7 * i)) = (y : Int) := by
      rw [IntKind.wrap_u64]
      have e : ((x : Int) * 2 ^ (7 * i)) = ((x * 2 ^ (7 * i) : Nat) : Int) := by push_cast; rfl
      rw [e, ← hy]
      omega
     have x3 : bits .or .u64 (acc : Int) (y : Int) = (z : Int) := by
      rw [hz, hy]
      exact or_add HA.out hroom
     have hz64 : z < 18446744073709551616 := by omega
     have HZ : Hid (z = acc + (c % 128) * 2 ^ (7 * i)) := by
      show z = acc + (c % 128) * 2 ^ (7 * i)
      rw [hz, hy, hx]
     have hzb : Hid (z < 2 ^ (7 * (i + 1))) := by
      show z < 2 ^ (7 * (i + 1))
      omega
     have HY : Hid (y = x * 2 ^ (7 * i)) := hy
     clear hz hy hx hroom hacc'
     have HB : Hid _ := hbad
     have split : (i = 0) ∨ (0 < i ∧ i ≠ 9 ∧ c ≠ 0) ∨ (i = 9 ∧ c ≠ 0 ∧ ¬ 1 < c) := by omega
     clear hbad
     by_cases h128 : c < 128
     ·have HN : Hid (numS (l0, 0) = (z, (l0.drop (i + 1), 0))) := by
       show numS (l0, 0) = (z, (l0.drop (i + 1), 0))
       simp only [numS, ne_eq, not_true_eq_false, if_false]
       rw [← HE.out, HDR.out]
       simp only [rdNum]
       rw [if_neg HB.out, if_pos h128]
       simp only [HZ.out, show c % 128 = c by omega]
      have hd0 : decide ((c : Int) < 128) = true := by simp; omega
      obtain ⟨t', hs', hL'⟩ := H2.out.drop (k := i + 1) (by omega)
      obtain ⟨rst, ers⟩ : ∃ rst, rst = l0.drop (i + 1) := ⟨_, rfl⟩
      rw [← ers] at hs' hL'
      have hrl : rst.length ≤ l0.length := by rw [ers]; simp
      have hs1 : ∀ W, (Instr.slice 46 (.slice (some ⟨g, off, none⟩) l0.length cap) (some (.int .i64 ((i : Int) + 1))) none none).run Try.prog W = .ok (.slice t' rst.length (cap - (i + 1))) W := by
       intro W
       have := hs' W
       rw [← this]
       rfl
      have ERS : Hid _ := ers
      have HL' : Hid _ := hL'
      clear ers hL' hs'
      rcases split with s0 | ⟨s0, s1, s2⟩ | ⟨s0, s1, s2⟩
      ·have hs0 : ∀ W, (Instr.slice 46 (.slice (some ⟨g, off, none⟩) l0.length cap) (some (.int .i64 1)) none none).run Try.prog W = .ok (.slice t' rst.length (cap - (i + 1))) W := by
        intro W
        have := hs1 W
        rw [s0] at this
        rw [s0]
        exact this
       have x5 : bits .or .u64 (acc : Int) (x : Int) = (z : Int) := by
        have e : y = x := by rw [HY.out, s0]; simp
        rw [← e]
        exact x3
       have hcell0 : w.cell? ⟨g, off, none⟩ = some (.int .u8 (c : Int)) := by
        have := hcell
        rw [s0] at this
        exact this
       obtain ⟨cx, ecx⟩ : ∃ cx, cx = cap - (i + 1) := ⟨_, rfl⟩
       rw [← ecx] at hs0 hs1
       have ECX : Hid _ := ecx
       clear ecx
       have S0 : Hid _ := s0
       go_wp2_with fail
       go_ret
       have OO : Off (fun c => c = b) w (w.setCell ⟨b, 0, none⟩ (.slice t' rst.length cx)) := (Off.refl (fun c => c = b) w).setCell (.inl rfl) _
       rw [HN.out]
       refine ⟨rfl, ⟨⟨fun x hx => HR.out.ok.1 x (List.mem_of_mem_drop hx), by simp, by simp⟩, fun x hx => by simpa using HR.out.lt x hx, HR.out.ne, by rw [← ERS.out]; simp only; omega, t', cx, ?_, ?_⟩, OO⟩
       ·rw [← ERS.out]
        exact H1.out.set 0 _
       ·have hL := HL'.out
        rw [← ECX.out] at hL
        rw [← ERS.out]
        exact hL.off OO (fun x _ hx e => HR.out.ne (e ▸ hx))
      ·have hd1 : (((i : Nat) : Int) == 9) = false := by rw [beq_eq_false_iff_ne]; omega
       have hd2 : decide ((0 : Int) < (i : Int)) = true := by simp; omega
       have hd3 : (((c : Nat) : Int) == 0) = false := by rw [beq_eq_false_iff_ne]; omega
       obtain ⟨cx, ecx⟩ : ∃ cx, cx = cap - (i + 1) := ⟨_, rfl⟩
       rw [← ecx] at hs1
       have ECX : Hid _ := ecx
       clear ecx
       go_wp2_with fail
       go_ret
       have OO : Off (fun c => c = b) w (w.setCell ⟨b, 0, none⟩ (.slice t' rst.length cx)) := (Off.refl (fun c => c = b) w).setCell (.inl rfl) _
       rw [HN.out]
       refine ⟨rfl, ⟨⟨fun x hx => HR.out.ok.1 x (List.mem_of_mem_drop hx), by simp, by simp⟩, fun x hx => by simpa using HR.out.lt x hx, HR.out.ne, by rw [← ERS.out]; simp only; omega, t', cx, ?_, ?_⟩, OO⟩
       ·rw [← ERS.out]
        exact H1.out.set 0 _
       ·have hL := HL'.out
        rw [← ECX.out] at hL
        rw [← ERS.out]
        exact hL.off OO (fun x _ hx e => HR.out.ne (e ▸ hx))
      ·have hs0 : ∀ W, (Instr.slice 46 (.slice (some ⟨g, off, none⟩) l0.length cap) (some (.int .i64 10)) none none).run Try.prog W = .ok (.slice t' rst.length (cap - (i + 1))) W := by
        intro W
        have := hs1 W
        rw [s0] at this
        rw [s0]
        exact this
       have hd3 : (((c : Nat) : Int) == 0) = false := by rw [beq_eq_false_iff_ne]; omega
       have hd4 : decide ((1 : Int) < (c : Int)) = false := by simp; omega
       have x5 : IntKind.u64.wrap ((x : Int) * 9223372036854775808) = (y : Int) := by
        rw [← x4, s0]
        simp
       have hcell0 : w.cell? ⟨g, off + 9, none⟩ = some (.int .u8 (c : Int)) := by
        have := hcell
        rw [s0] at this
        exact this
       obtain ⟨cx, ecx⟩ : ∃ cx, cx = cap - (i + 1) := ⟨_, rfl⟩
       rw [← ecx] at hs0 hs1
       have ECX : Hid _ := ecx
       clear ecx
       have S0 : Hid _ := s0
       go_wp2_with fail
       go_ret
       have OO : Off (fun c => c = b) w (w.setCell ⟨b, 0, none⟩ (.slice t' rst.length cx)) := (Off.refl (fun c => c = b) w).setCell (.inl rfl) _
       rw [HN.out]
       refine ⟨rfl, ⟨⟨fun x hx => HR.out.ok.1 x (List.mem_of_mem_drop hx), by simp, by simp⟩, fun x hx => by simpa using HR.out.lt x hx, HR.out.ne, by rw [← ERS.out]; simp only; omega, t', cx, ?_, ?_⟩, OO⟩
       ·rw [← ERS.out]
        exact H1.out.set 0 _
       ·have hL := HL'.out
        rw [← ECX.out] at hL
        rw [← ERS.out]
        exact hL.off OO (fun x _ hx e => HR.out.ne (e ▸ hx))
     ·have HN : Hid (rdNum (i + 1) z (l0.drop (i + 1)) = rdNum 0 0 l0) := by
       show rdNum (i + 1) z (l0.drop (i + 1)) = rdNum 0 0 l0
       rw [← HE.out, HDR.out]
       simp only [rdNum]
       rw [if_neg HB.out, if_neg h128, HZ.out, show c - 128 = c % 128 by omega]
      have hd0 : decide ((c : Int) < 128) = false := by simp; omega
      rcases split with s0 | ⟨s0, s1, s2⟩ | ⟨s0, s1, s2⟩
      ·have x5 : bits .or .u64 (acc : Int) (x : Int) = (z : Int) := by
        have e : y = x := by rw [HY.out, s0]; simp
        rw [← e]
        exact x3
       have hcell0 : w.cell? ⟨g, off, none⟩ = some (.int .u8 (c : Int)) := by
        have := hcell
        rw [s0] at this
        exact this
       have S0 : Hid _ := s0
       go_wp2_with fail
       go_roundw
       case rel => exact ⟨z, i + 1, rfl, by go_num, by omega, by omega, hzb.out, HN.out, trivial⟩
       case measure => simp [intOf]; omega
      ·have hd1 : (((i : Nat) : Int) == 9) = false := by rw [beq_eq_false_iff_ne]; omega
       have hd2 : decide ((0 : Int) < (i : Int)) = true := by simp; omega
       have hd3 : (((c : Nat) : Int) == 0) = false := by rw [beq_eq_false_iff_ne]; omega
       go_wp2_with fail
       go_roundw
       case rel => exact ⟨z, i + 1, rfl, by go_num, by omega, by omega, hzb.out, HN.out, trivial⟩
       case measure => simp [intOf]; omega
      ·omega
 ·have hn : numS (l0, er) = (0, (l0, er)) := by simp [numS, her]
  have HN : Hid _ := hn
  clear hn
  have hd : (((er : Nat) : Int) == 0) = false := by rw [beq_eq_false_iff_ne]; omega
  go_enter Try.func118, Try.ntmps118
  go_wp2_with fail
  go_loopw [3, 4] (fun x y wr => x = .int .u64 0 ∧ y = .int .i64 0 ∧ wr = w) (fun _ _ _ => 0)
  case atStart => exact ⟨rfl, rfl, rfl⟩
  case round =>
   obtain ⟨rfl, rfl, hwr⟩ := hrel
   rw [hwr]
   clear hwr wr
   go_wp2_with fail
   go_ret
   rw [HN.out]
   exact ⟨rfl, HR.out, Off.refl _ _⟩
end Go.Proofs.Ytpnnpdfmoldiiaa
