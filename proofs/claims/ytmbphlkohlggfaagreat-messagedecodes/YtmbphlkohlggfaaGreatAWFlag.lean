/- Items of several texts. -/
import Derived.Test.YtmbphlkohlggfaaGreatAWRops
namespace Go.Proofs.YtmbphlkohlggfaaGreat
open Go.RowKit
set_option maxRecDepth 100000 in
set_option maxHeartbeats 1000000 in
theorem rtext_any {D : Nat → Prop} {b : Nat} {s : RS} {w : World} (hR : Rdr 96 D b s w) (m : Int) (hm0 : -9223372036854775808 ≤ m) (hm : m ≤ 9223372036854775807) :
  Calls Tryz.prog 48 #[.pointer (some ⟨b, 0, none⟩), .int .i64 m] w fun e w' => ∃ t c, e = .returned (.slice t (textS m.toNat s).1.length c) ∧ OwnR w' t c (textS m.toNat s).1 ∧ (∀ k, blk t = some k → w.heap.size ≤ k) ∧ Rdr 96 D b (textS m.toNat s).2 w' ∧ Off (fun c => c = b) w w' := by
 have hco := count_ok m.toNat hR.ok
 obtain ⟨n, l, er, ec⟩ : ∃ n l er, countS m.toNat s = (n, (l, er)) := ⟨_, _, _, rfl⟩
 have hlen := hR.len
 rw [ec] at hco
 have hll : l.length ≤ s.1.length := hco.2.2.2
 have hnm : n ≤ m.toNat := hco.2.1
 have hn63 : (n : Int) ≤ 9223372036854775807 := by omega
 have EC : Hid _ := ec
 clear ec
 by_cases her : er = 0
 ·subst her
  by_cases hl : l.length < n
  ·have HT : Hid (textS m.toNat s = ([], ([], 2))) := by
    show textS m.toNat s = ([], ([], 2))
    simp [textS, EC.out, hl]
   have hd : decide ((l.length : Int) < (n : Int)) = true := by simp; omega
   have HCO : Hid _ := hco
   clear hco
   go_enter Tryz.func48, Tryz.ntmps48
   go_wp2_with fail
   refine (rcount_any hR m hm0 hm).mono ?_
   rw [EC.out]
   rintro e w1 ⟨rfl, R1, o1⟩
   go_wp2_with fail
   refine (failed_any R1).mono ?_
   rintro e w2 ⟨rfl, hw⟩
   rw [hw]
   clear hw w2
   obtain ⟨tad, cap, h1, -⟩ := R1.is
   have c0 : w1.cell? ⟨b, 0, none⟩ = some (.slice tad l.length cap) := by rw [h1.cell]; rfl
   clear h1
   go_wp2_with fail
   refine (fail_any R1 2 (by omega)).mono ?_
   rintro e w2 ⟨rfl, R2, o2⟩
   go_wp2_with fail
   go_ret
   rw [HT.out]
   exact ⟨none, 0, rfl, OwnR.nil _, fun k hk => by simp [blk] at hk, R2, o1.trans o2 (fun _ _ h => h)⟩
  ·have HT : Hid (textS m.toNat s = (l.take n, (l.drop n, 0))) := by
    show textS m.toNat s = (l.take n, (l.drop n, 0))
    simp [textS, EC.out, hl]
   have hd : decide ((l.length : Int) < (n : Int)) = false := by simp; omega
   have HCO : Hid _ := hco
   clear hco
   go_enter Tryz.func48, Tryz.ntmps48
   go_wp2_with fail
   refine (rcount_any hR m hm0 hm).mono ?_
   rw [EC.out]
   rintro e w1 ⟨rfl, R1, o1⟩
   go_wp2_with fail
   refine (failed_any R1).mono ?_
   rintro e w2 ⟨rfl, hw⟩
   rw [hw]
   clear hw w2
   obtain ⟨tad, cap, h1, h2⟩ := R1.is
   have c0 : w1.cell? ⟨b, 0, none⟩ = some (.slice tad l.length cap) := by rw [h1.cell]; rfl
   obtain ⟨hs1, L1⟩ := h2.take (k := n) (by simp only; omega)
   replace hs1 : ∀ W, (Instr.slice 28 (.slice tad l.length cap) none (some (.int .i64 (n : Int))) none).run Tryz.prog W = .ok (.slice tad (l.take n).length cap) W := hs1
   obtain ⟨t', hs2, L2⟩ := h2.drop (k := n) (by simp only; omega)
   replace hs2 : ∀ W, (Instr.slice 28 (.slice tad l.length cap) (some (.int .i64 (n : Int))) none none).run Tryz.prog W = .ok (.slice t' (l.drop n).length (cap - n)) W := hs2
   obtain ⟨x, ex⟩ : ∃ x, x = l.take n := ⟨_, rfl⟩
   obtain ⟨y, ey⟩ : ∃ y, y = l.drop n := ⟨_, rfl⟩
   replace L1 : Lie D w1 tad cap (l.take n) := L1
   replace L2 : Lie D w1 t' (cap - n) (l.drop n) := L2
   have hxl : x.length ≤ l.length := by rw [ex]; simp; omega
   have hyl : y.length ≤ l.length := by rw [ey]; simp
   rw [← ex] at hs1 L1
   rw [← ey] at hs2 L2
   have EX : Hid _ := ex
   have EY : Hid _ := ey
   have H1 : Hid _ := h1
   have HL2 : Hid _ := L2
   clear ex ey h1 h2 L2
   go_wp2_with fail
   refine (clone_any tad cap x (by omega) w1 L1.src).mono ?_
   rintro e w2 ⟨t2, c2, rfl, own2, hb2, o2⟩
   have P2 := H1.out.off o2 (fun h => h)
   have p2 : w2.cell? ⟨b, 0, none⟩ = some (.slice tad l.length cap) := by rw [P2.cell]; rfl
   have f2 := P2.free 0
   have HP2 : Hid _ := P2
   have OWN2 : Hid (OwnR w2 t2 c2 x) := own2
   have HB2 : Hid _ := hb2
   clear P2 own2 hb2
   go_wp2_with fail
   go_ret
   rw [HT.out]
   have O : Off (fun c => c = b) w2 (w2.setCell ⟨b, 0, none⟩ (.slice t' y.length (cap - n))) := (Off.refl (fun c => c = b) w2).setCell (.inl rfl) _
   have hb1 := R1.here
   have hO : Off (fun c => c = b) w (w2.setCell ⟨b, 0, none⟩ (.slice t' y.length (cap - n))) := (o1.trans o2 (fun _ _ h => h.elim)).trans O (fun _ _ h => h)
   have hne : ∀ k, blk t2 = some k → k ≠ b := fun k hk e => by have := HB2.out k hk; omega
   simp only [← EX.out, ← EY.out]
   refine ⟨t2, c2, rfl, OWN2.out.off O (fun c _ e h => hne c e h), fun k hk => Nat.le_trans o1.size (HB2.out k hk), ⟨⟨fun x hx => R1.ok.1 x (by rw [EY.out] at hx; exact List.mem_of_mem_drop hx), by simp, by simp⟩, fun c hc => ?_, R1.ne, ?_, t', cap - n, HP2.out.set 0 _, (HL2.out.off o2 (fun _ _ _ h => h)).off O (fun x _ hx e => R1.ne (e ▸ hx))⟩, hO⟩
   ·have := R1.lt c hc
    have := o2.size
    simp
    omega
   ·simp only
    omega
 ·have HT : Hid (textS m.toNat s = ([], (l, er))) := by
   show textS m.toNat s = ([], (l, er))
   simp [textS, EC.out, her]
  have hd : (((er : Nat) : Int) == 0) = false := by rw [beq_eq_false_iff_ne]; omega
  have HCO : Hid _ := hco
  clear hco
  go_enter Tryz.func48, Tryz.ntmps48
  go_wp2_with fail
  refine (rcount_any hR m hm0 hm).mono ?_
  rw [EC.out]
  rintro e w1 ⟨rfl, R1, o1⟩
  go_wp2_with fail
  refine (failed_any R1).mono ?_
  rintro e w2 ⟨rfl, hw⟩
  rw [hw]
  clear hw w2
  go_wp2_with fail
  go_ret
  rw [HT.out]
  exact ⟨none, 0, rfl, OwnR.nil _, fun k hk => by simp [blk] at hk, R1, o1⟩
end Go.Proofs.YtmbphlkohlggfaaGreat

namespace Go.Proofs.YtmbphlkohlggfaaGreat
open Go.RowKit
theorem wflag_any {D : Nat → Prop} {b most : Nat} {st : Option (List Nat)} {w : World} (hW : Wtr D b most st w) (f : Bool) (hsz : (st.getD []).length + 1 ≤ 140737488355328 ∨ most ≤ 140737488355328 ∧ (st.getD []).length ≤ most) :
  Calls Tryz.prog 121 #[.pointer (some ⟨b, 0, none⟩), .bool f] w fun e w' => e = .returned (.tuple #[]) ∧ Put D b most st [if f then 1 else 0] w w' := by
 cases f with
 | true =>
  have o1 : Off (fun _ => False) w (w.alloc (.cells #[.int .u8 1] 5)) := (Off.refl _ w).alloc _
  have s1 := src_new w 1
  go_enter Tryz.func121, Tryz.ntmps121
  go_wp2_with fail
  refine (add_any (hW.off o1 (fun _ _ _ h => h)) _ 1 [1] s1 none 0 [] (fun w' _ => Src.nil w') (by simp only [List.length_cons, List.length_nil]; omega)).mono ?_
  rintro e w2 ⟨rfl, P⟩
  go_wp2_with fail
  first | go_end0 | refine bodyPost_ret (results_none rfl _ _ _) rfl ?_
  exact ⟨rfl, Put.after o1 P⟩
 | false =>
  have o1 : Off (fun _ => False) w (w.alloc (.cells #[.int .u8 0] 5)) := (Off.refl _ w).alloc _
  have s1 := src_new w 0
  go_enter Tryz.func121, Tryz.ntmps121
  go_wp2_with fail
  refine (add_any (hW.off o1 (fun _ _ _ h => h)) _ 1 [0] s1 none 0 [] (fun w' _ => Src.nil w') (by simp only [List.length_cons, List.length_nil]; omega)).mono ?_
  rintro e w2 ⟨rfl, P⟩
  go_wp2_with fail
  first | go_end0 | refine bodyPost_ret (results_none rfl _ _ _) rfl ?_
  exact ⟨rfl, Put.after o1 P⟩
theorem rflag_any {D : Nat → Prop} {b : Nat} {s : RS} {w : World} (hR : Rdr 96 D b s w) :
  Calls Tryz.prog 122 #[.pointer (some ⟨b, 0, none⟩)] w fun e w' => e = .returned (.bool (flagS s).1) ∧ Rdr 96 D b (flagS s).2 w' ∧ Off (fun c => c = b) w w' := by
 obtain ⟨l, er⟩ := s
 by_cases her : er = 0
 ·subst her
  match l with
  | [] =>
   go_enter Tryz.func122, Tryz.ntmps122
   go_wp2_with fail
   refine (rnext_any hR).mono ?_
   rw [show nextS ([], 0) = (0, ([], 2)) from rfl]
   rintro e w1 ⟨rfl, R1, o1⟩
   go_wp2_with fail
   go_ret
   exact ⟨rfl, R1, o1⟩
  | c :: l =>
   have hc : c < 256 := hR.ok.1 c (by simp)
   by_cases h1 : 1 < c
   ·have HF : Hid (flagS (c :: l, 0) = (false, ([], 3))) := by
     show flagS (c :: l, 0) = _
     simp [flagS, h1]
    have hd : decide ((1 : Int) < (c : Int)) = true := by simp; omega
    have hd2 : (((c : Nat) : Int) == 1) = false := by rw [beq_eq_false_iff_ne]; omega
    go_enter Tryz.func122, Tryz.ntmps122
    go_wp2_with fail
    refine (rnext_any hR).mono ?_
    rw [show nextS (c :: l, 0) = (c, (l, 0)) from rfl]
    rintro e w1 ⟨rfl, R1, o1⟩
    go_wp2_with fail
    refine (fail_any R1 3 (by omega)).mono ?_
    rintro e w2 ⟨rfl, R2, o2⟩
    go_wp2_with fail
    go_ret
    rw [HF.out]
    exact ⟨rfl, R2, o1.trans o2 (fun _ _ h => h)⟩
   ·have HF : Hid (flagS (c :: l, 0) = (c == 1, (l, 0))) := by
     show flagS (c :: l, 0) = _
     simp [flagS, h1]
    have hd : decide ((1 : Int) < (c : Int)) = false := by simp; omega
    have HQ : Hid ((((c : Nat) : Int) == 1) = (c == 1)) := by
     show (((c : Nat) : Int) == 1) = (c == 1)
     rw [Bool.eq_iff_iff, beq_iff_eq, beq_iff_eq]
     omega
    go_enter Tryz.func122, Tryz.ntmps122
    go_wp2_with fail
    refine (rnext_any hR).mono ?_
    rw [show nextS (c :: l, 0) = (c, (l, 0)) from rfl]
    rintro e w1 ⟨rfl, R1, o1⟩
    go_wp2_with fail
    go_ret
    rw [HF.out]
    exact ⟨by simp only [← HQ.out]; rfl, R1, o1⟩
 ·have HF : Hid (flagS (l, er) = (false, (l, er))) := by
   show flagS (l, er) = _
   simp [flagS, her]
  have hx : nextS (l, er) = (0, (l, er)) := by simp [nextS, her]
  go_enter Tryz.func122, Tryz.ntmps122
  go_wp2_with fail
  refine (rnext_any hR).mono ?_
  rw [hx]
  rintro e w1 ⟨rfl, R1, o1⟩
  go_wp2_with fail
  go_ret
  rw [HF.out]
  exact ⟨rfl, R1, o1⟩
end Go.Proofs.YtmbphlkohlggfaaGreat
