/- Items of several texts. -/
import Derived.Test.YtmbphlkohlggfaaDWWtr
namespace Go.Proofs.Ytmbphlkohlggfaa
open Go.RowKit
def Put (D : Nat → Prop) (b most : Nat) (st : Option (List Nat)) (x : List Nat) (w w' : World) : Prop := ∃ D', Wtr D' b most (putS most st x) w' ∧ Off D w w' ∧ ∀ c, D' c → D c ∨ w.heap.size ≤ c
theorem Put.after {D : Nat → Prop} {b most : Nat} {st : Option (List Nat)} {x : List Nat} {w w1 w' : World} (o : Off (fun _ => False) w w1) (h : Put D b most st x w1 w') : Put D b most st x w w' := by
 obtain ⟨D', h1, h2, h3⟩ := h
 exact ⟨D', h1, (o.mono (fun _ _ h => h.elim)).trans h2 (fun _ _ h => h), fun c hc => (h3 c hc).imp id (fun h => Nat.le_trans o.size h)⟩
theorem wnum_any {D : Nat → Prop} {b most : Nat} {st : Option (List Nat)} {w : World} (hW : Wtr D b most st w) (n : Nat) (hn : n < 18446744073709551616) (hsz : (st.getD []).length + 10 ≤ 140737488355328 ∨ most ≤ 140737488355328 ∧ (st.getD []).length ≤ most) :
  Calls Try.prog 82 #[.pointer (some ⟨b, 0, none⟩), .int .u64 (n : Int)] w fun e w' => e = .returned (.tuple #[]) ∧ Put D b most st (numB n) w w' := by
 have hten := numB_ten hn
 go_enter Try.func82, Try.ntmps82
 go_wp2_with fail
 refine (parts_any n hn w).mono ?_
 rintro e w1 ⟨t, c, rfl, own, hblk, off⟩
 go_wp2_with fail
 refine (add_any (hW.off off (fun _ _ _ h => h)) t c (numB n) own.src none 0 [] (fun w' _ => Src.nil w') (by simp only [List.length_nil]; omega)).mono ?_
 rintro e w2 ⟨rfl, P⟩
 go_wp2_with fail
 go_end0
 rw [List.append_nil] at P
 exact ⟨rfl, Put.after off P⟩
theorem wtext_any {D : Nat → Prop} {b most : Nat} {st : Option (List Nat)} {w : World} (hW : Wtr D b most st w) (bt : Option Addr) (bc : Nat) (bb : List Nat) (hbody : ∀ w', Off D w w' → Src w' bt bc bb) (hsz : (st.getD []).length + 10 + bb.length ≤ 140737488355328 ∨ most ≤ 140737488355328 ∧ (st.getD []).length ≤ most ∧ bb.length ≤ 140737488351232) :
  Calls Try.prog 84 #[.pointer (some ⟨b, 0, none⟩), .slice bt bb.length bc] w fun e w' => e = .returned (.tuple #[]) ∧ Put D b most st (numB bb.length ++ bb) w w' := by
 have hn : bb.length < 18446744073709551616 := by omega
 have hten := numB_ten hn
 have HB : Hid _ := hbody
 clear hbody
 go_enter Try.func84, Try.ntmps84
 go_wp2_with fail
 refine (parts_any bb.length hn w).mono ?_
 rintro e w1 ⟨t, c, rfl, own, hblk, off⟩
 go_wp2_with fail
 refine (add_any (hW.off off (fun _ _ _ h => h)) t c (numB bb.length) own.src bt bc bb (fun w' o => HB.out w' ((off.mono (fun _ _ h => h.elim)).trans o (fun _ _ h => h))) (by omega)).mono ?_
 rintro e w2 ⟨rfl, P⟩
 go_wp2_with fail
 go_end0
 exact ⟨rfl, Put.after off P⟩
theorem wint_any {D : Nat → Prop} {b most : Nat} {st : Option (List Nat)} {w : World} (hW : Wtr D b most st w) (i : Int) (h0 : -9223372036854775808 ≤ i) (h1 : i ≤ 9223372036854775807) (hsz : (st.getD []).length + 10 ≤ 140737488355328 ∨ most ≤ 140737488355328 ∧ (st.getD []).length ≤ most) :
  Calls Try.prog 83 #[.pointer (some ⟨b, 0, none⟩), .int .i64 i] w fun e w' => e = .returned (.tuple #[]) ∧ Put D b most st (numB (zig i)) w w' := by
 obtain ⟨z, hz⟩ : ∃ z, z = zig i := ⟨_, rfl⟩
 have hlt : z < 18446744073709551616 := hz ▸ zig_lt h0 h1
 have hb := zig_bits h0 h1
 rw [← hz] at hb ⊢
 clear hz
 go_enter Try.func83, Try.ntmps83
 go_wp2_with fail
 refine (wnum_any hW z hlt hsz).mono ?_
 rintro e w1 ⟨rfl, P⟩
 go_wp2_with fail
 go_end0
 exact ⟨rfl, P⟩
def errW : Option (List Nat) → Nat
 | none => 4
 | some _ => 0
theorem done_any {D : Nat → Prop} {b most : Nat} {st : Option (List Nat)} {w : World} (hW : Wtr D b most st w) (hsz : (st.getD []).length ≤ 140737488355328) :
  Calls Try.prog 51 #[.pointer (some ⟨b, 0, none⟩)] w fun e w' => ∃ t c, e = .returned (.tuple #[.slice t (st.getD []).length c, .int .i64 ((errW st : Nat) : Int)]) ∧ OwnR w' t c (st.getD []) ∧ (∀ k, blk t = some k → w.heap.size ≤ k) ∧ Off (fun _ => False) w w' := by
 rcases hW.is with ⟨rfl, h1⟩ | ⟨bs, tad, cap, rfl, h1, h2, h3⟩
 ·have c2 : w.cell? ⟨b, 2, none⟩ = some (.bool true) := by rw [h1.cell]; rfl
  clear h1
  go_enter Try.func51, Try.ntmps51
  go_wp2_with fail
  go_ret2
  exact ⟨none, 0, rfl, OwnR.nil w, fun k hk => by simp [blk] at hk, Off.refl _ w⟩
 ·have c1 : w.cell? ⟨b, 1, none⟩ = some (.slice tad bs.length cap) := by rw [h1.cell]; rfl
  have c2 : w.cell? ⟨b, 2, none⟩ = some (.bool false) := by rw [h1.cell]; rfl
  clear h1
  go_enter Try.func51, Try.ntmps51
  go_wp2_with fail
  refine (clone_any tad cap bs hsz w h2.src).mono ?_
  rintro e w1 ⟨t, c, rfl, own, hblk, off⟩
  go_wp2_with fail
  go_ret2
  exact ⟨t, c, rfl, own, hblk, off⟩
end Go.Proofs.Ytmbphlkohlggfaa

namespace Go.Proofs.Ytmbphlkohlggfaa
open Go.RowKit
structure Rdr (T : TypeId) (D : Nat → Prop) (b : Nat) (s : RS) (w : World) : Prop where
 ok : Ok s
 lt : ∀ c, D c → c < w.heap.size
 ne : ¬ D b
 len : s.1.length ≤ 140737488355328
 is : ∃ tad cap, Cel b T #[.slice tad s.1.length cap, .int .i64 ((s.2 : Nat) : Int)] w ∧ Lie D w tad cap s.1
theorem Rdr.here {T : TypeId} {D : Nat → Prop} {b : Nat} {s : RS} {w : World} (h : Rdr T D b s w) : b < w.heap.size := by
 obtain ⟨_, _, h, -⟩ := h.is
 exact h.lt
theorem Rdr.off {T : TypeId} {D E : Nat → Prop} {b : Nat} {s : RS} {w w' : World} (h : Rdr T D b s w) (o : Off E w w') (hb : ¬ E b) (hD : ∀ c, c < w.heap.size → D c → ¬ E c) : Rdr T D b s w' := by
 refine ⟨h.ok, fun c hc => Nat.lt_of_lt_of_le (h.lt c hc) o.size, h.ne, h.len, ?_⟩
 obtain ⟨tad, cap, h1, h2⟩ := h.is
 exact ⟨tad, cap, h1.off o hb, h2.off o hD⟩
theorem newReader_any (t : Option Addr) (c : Nat) (bs : List Nat) (hb : bs.length ≤ 140737488355328) (hlt : ∀ b ∈ bs, b < 256) (w : World) (hs : Src w t c bs) :
  Calls Try.prog 57 #[.slice t bs.length c] w fun e w' => ∃ b D, e = .returned (.pointer (some ⟨b, 0, none⟩)) ∧ w.heap.size ≤ b ∧ (∀ c, D c → w.heap.size ≤ c) ∧ Rdr 125 D b (bs, 0) w' ∧ Off (fun _ => False) w w' := by
 have hlt' : Hid _ := hlt
 clear hlt
 go_enter Try.func57, Try.ntmps57
 go_wp2_with fail
 refine (clone_any t c bs hb w hs).mono ?_
 rintro e w1 ⟨t', c', rfl, own, hblk, off⟩
 go_wp2_with fail
 go_ret
 have hlt1 : ∀ k, blk t' = some k → k < w1.heap.size := own.lt
 refine ⟨w1.heap.size, fun c => blk t' = some c, rfl, off.size, fun c h => hblk c h, ⟨⟨hlt'.out, by simp, by simp⟩, fun c h => ?_, fun h => ?_, hb, t', c', Cel.new w1 _ _, ?_⟩, off.alloc _⟩
 ·have := hlt1 c h
  simp
  omega
 ·have := hlt1 _ h
  omega
 ·exact (own.off ((Off.refl (fun _ => False) _).alloc _) (fun _ _ _ h => h)).lie (fun c h => h)
theorem failed_any {D : Nat → Prop} {b : Nat} {s : RS} {w : World} (hR : Rdr 125 D b s w) :
  Calls Try.prog 119 #[.pointer (some ⟨b, 0, none⟩)] w fun e w' => e = .returned (.bool (!(((s.2 : Nat) : Int) == 0))) ∧ w' = w := by
 obtain ⟨tad, cap, h1, -⟩ := hR.is
 have c1 : w.cell? ⟨b, 1, none⟩ = some (.int .i64 ((s.2 : Nat) : Int)) := by rw [h1.cell]; rfl
 clear h1 hR
 go_enter Try.func119, Try.ntmps119
 go_wp2_with fail
 go_ret
 exact ⟨rfl, rfl⟩
theorem fail_any {D : Nat → Prop} {b : Nat} {s : RS} {w : World} (hR : Rdr 125 D b s w) (er : Nat) (her : er ≤ 4) :
  Calls Try.prog 120 #[.pointer (some ⟨b, 0, none⟩), .int .i64 (er : Int)] w fun e w' => e = .returned (.tuple #[]) ∧ Rdr 125 D b ([], er) w' ∧ Off (fun c => c = b) w w' := by
 obtain ⟨tad, cap, h1, -⟩ := hR.is
 have c0 : w.cell? ⟨b, 0, none⟩ = some (.slice tad s.1.length cap) := by rw [h1.cell]; rfl
 have c1 : w.cell? ⟨b, 1, none⟩ = some (.int .i64 ((s.2 : Nat) : Int)) := by rw [h1.cell]; rfl
 have f0 := h1.free 0
 have f1 := h1.free 1
 go_enter Try.func120, Try.ntmps120
 go_wp2_with fail
 go_end0
 refine ⟨rfl, ⟨Ok.err her, fun c h => by simpa using hR.lt c h, hR.ne, by simp, none, 0, (h1.set 1 _).set 0 _, Lie.nil _ _⟩, ((Off.refl (fun c => c = b) w).setCell (.inl rfl) _).setCell (.inl rfl) _⟩
def nextS (s : RS) : Nat × RS := if s.2 ≠ 0 then (0, s) else match s.1 with
 | [] => (0, ([], 2))
 | c :: l => (c, (l, 0))
theorem rnext_any {D : Nat → Prop} {b : Nat} {s : RS} {w : World} (hR : Rdr 125 D b s w) :
  Calls Try.prog 128 #[.pointer (some ⟨b, 0, none⟩)] w fun e w' => e = .returned (.int .u8 (((nextS s).1 : Nat) : Int)) ∧ Rdr 125 D b (nextS s).2 w' ∧ Off (fun c => c = b) w w' := by
 obtain ⟨l, er⟩ := s
 by_cases her : er = 0
 ·subst her
  match l with
  | [] =>
   have R : Hid _ := hR
   obtain ⟨tad, cap, h1, h2⟩ := hR.is
   have c0 : w.cell? ⟨b, 0, none⟩ = some (.slice tad 0 cap) := by rw [h1.cell]; rfl
   clear h1 h2 hR
   go_enter Try.func128, Try.ntmps128
   go_wp2_with fail
   refine (failed_any R.out).mono ?_
   rintro e w1 ⟨rfl, hw⟩
   rw [hw]
   clear hw w1
   go_wp2_with fail
   refine (fail_any R.out 2 (by omega)).mono ?_
   rintro e w1 ⟨rfl, R1, o1⟩
   go_wp2_with fail
   go_ret
   exact ⟨rfl, R1, o1⟩
  | c :: l =>
   have R : Hid _ := hR
   obtain ⟨tad, cap, h1, h2⟩ := hR.is
   have c0 : w.cell? ⟨b, 0, none⟩ = some (.slice tad (l.length + 1) cap) := by rw [h1.cell]; rfl
   have f0 := h1.free 0
   obtain ⟨t', hs, hL⟩ := h2.drop (k := 1) (by simp)
   obtain ⟨g, off, rfl, hc⟩ : ∃ g off, tad = some ⟨g, off, none⟩ ∧ w.cell? ⟨g, off, none⟩ = some (.int .u8 (c : Int)) := by
    rcases h2.is with ⟨-, h, -⟩ | ⟨g, off, h, -, -, hcell⟩
    ·simp at h
    ·exact ⟨g, off, h, hcell 0 _ rfl⟩
   have hlen : l.length < 140737488355328 := by have := hR.len; simp at this; omega
   simp only [List.drop_succ_cons, List.drop_zero, List.length_cons] at hs hL
   replace hs : ∀ W, (Instr.slice 31 (.slice (some ⟨g, off, none⟩) (l.length + 1) cap) (some (.int .i64 1)) none none).run Try.prog W = .ok (.slice t' l.length (cap - 1)) W := hs
   have HL : Hid _ := hL
   have H1 : Hid _ := h1
   clear h1 h2 hR hL
   go_enter Try.func128, Try.ntmps128
   go_wp2_with fail
   refine (failed_any R.out).mono ?_
   rintro e w1 ⟨rfl, hw⟩
   rw [hw]
   clear hw w1
   go_wp2_with fail
   go_ret
   have O : Off (fun c => c = b) w (w.setCell ⟨b, 0, none⟩ (.slice t' l.length (cap - 1))) := (Off.refl (fun c => c = b) w).setCell (.inl rfl) _
   refine ⟨rfl, ⟨⟨fun x hx => R.out.ok.1 x (by simp [nextS] at hx; simp [hx]), by simp [nextS], by simp [nextS]⟩, fun x hx => by simpa using R.out.lt x hx, R.out.ne, by simp [nextS]; omega, t', cap - 1, H1.out.set 0 _, HL.out.off O (fun x _ hx e => R.out.ne (e ▸ hx))⟩, O⟩
 ·have hne : nextS (l, er) = (0, (l, er)) := by simp [nextS, her]
  rw [hne]
  have hd : (((er : Nat) : Int) == 0) = false := by rw [beq_eq_false_iff_ne]; omega
  have R : Hid _ := hR
  go_enter Try.func128, Try.ntmps128
  go_wp2_with fail
  refine (failed_any R.out).mono ?_
  rintro e w1 ⟨rfl, hw⟩
  rw [hw]
  clear hw w1
  go_wp2_with fail
  go_ret
  exact ⟨rfl, R.out, Off.refl _ _⟩
end Go.Proofs.Ytmbphlkohlggfaa

namespace Go.Proofs.Ytmbphlkohlggfaa
open Go.RowKit
theorem acc_next {i acc x : Nat} (h : acc < 2 ^ (7 * i)) (hx : x < 128) : acc + x * 2 ^ (7 * i) < 2 ^ (7 * (i + 1)) := by
 rw [pow_step]
 have : x * 2 ^ (7 * i) ≤ 127 * 2 ^ (7 * i) := Nat.mul_le_mul_right _ (by omega)
 omega
theorem acc_room {i acc x : Nat} (hi : i ≤ 9) (h : acc < 2 ^ (7 * i)) (hx : x < 128) (h9 : i = 9 → x ≤ 1) : acc + x * 2 ^ (7 * i) < 18446744073709551616 := by
 by_cases h9' : i = 9
 ·have := h9 h9'
  subst h9'
  have : x * 2 ^ (7 * 9) ≤ 1 * 2 ^ (7 * 9) := Nat.mul_le_mul_right _ this
  simp at h this ⊢
  omega
 ·have h1 := acc_next h hx
  have h2 : (2 : Nat) ^ (7 * (i + 1)) ≤ 2 ^ 63 := Nat.pow_le_pow_right (by decide) (by omega)
  omega
set_option maxRecDepth 100000 in
set_option maxHeartbeats 2000000 in
theorem rnum_any {D : Nat → Prop} {b : Nat} {s : RS} {w : World} (hR : Rdr 125 D b s w) :
  Calls Try.prog 117 #[.pointer (some ⟨b, 0, none⟩)] w fun e w' => e = .returned (.int .u64 (((numS s).1 : Nat) : Int)) ∧ Rdr 125 D b (numS s).2 w' ∧ Off (fun c => c = b) w w' := by
 obtain ⟨l0, er⟩ := s
 by_cases her : er = 0
 ·subst her
  go_enter Try.func117, Try.ntmps117
  go_wp2_with fail
  go_loopw [3, 4] (fun x y wr => ∃ (acc i : Nat) (l : List Nat), x = .int .u64 (acc : Int) ∧ y = .int .i64 (i : Int) ∧ i ≤ 9 ∧ acc < 2 ^ (7 * i) ∧ rdNum i acc l = rdNum 0 0 l0 ∧ Rdr 125 D b (l, 0) wr ∧ Off (fun c => c = b) w wr) (fun _ y _ => (10 - intOf y).toNat)
  case atStart => exact ⟨0, 0, l0, rfl, rfl, by omega, by simp, rfl, hR, Off.refl _ w⟩
  case round =>
   clear hR
   obtain ⟨acc, i, l, rfl, rfl, hi, hacc, heq, R, O⟩ := hrel
   have HE : Hid _ := heq
   have HA : Hid _ := hacc
   clear heq hacc
   match l with
   | [] =>
    have HN : Hid (numS (l0, 0) = (0, ([], 2))) := by
     show numS (l0, 0) = (0, ([], 2))
     simp only [numS, ne_eq, not_true_eq_false, if_false]
     rw [← HE.out]
     rfl
    clear HE HA
    go_wp2_with fail
    refine (rnext_any R).mono ?_
    rw [show nextS ([], 0) = (0, ([], 2)) from rfl]
    rintro e w1 ⟨rfl, R1, o1⟩
    go_wp2_with fail
    refine (failed_any R1).mono ?_
    rintro e w2 ⟨rfl, hw⟩
    rw [hw]
    clear hw w2
    go_wp2_with fail
    go_ret
    rw [HN.out]
    exact ⟨rfl, R1, O.trans o1 (fun _ _ h => h)⟩
   | c :: l =>
    have hc : c < 256 := R.ok.1 c (by simp)
    by_cases hbad : (0 < i ∧ c = 0) ∨ (i = 9 ∧ 1 < c)
    ·have HN : Hid (numS (l0, 0) = (0, ([], 3))) := by
      show numS (l0, 0) = (0, ([], 3))
      simp only [numS, ne_eq, not_true_eq_false, if_false]
      rw [← HE.out]
      simp only [rdNum]
      rw [if_pos hbad]
     clear HE HA
     rcases hbad with ⟨b1, b2⟩ | ⟨b1, b2⟩
     ·subst b2
      have hd1 : decide ((0 : Int) < (i : Int)) = true := by simp; omega
      go_wp2_with fail
      refine (rnext_any R).mono ?_
      rw [show nextS (0 :: l, 0) = (0, (l, 0)) from rfl]
      rintro e w1 ⟨rfl, R1, o1⟩
      go_wp2_with fail
      refine (failed_any R1).mono ?_
      rintro e w2 ⟨rfl, hw⟩
      rw [hw]
      clear hw w2
      go_wp2_with fail
      refine (fail_any R1 3 (by omega)).mono ?_
      rintro e w2 ⟨rfl, R2, o2⟩
      go_wp2_with fail
      go_ret
      rw [HN.out]
      exact ⟨rfl, R2, (O.trans o1 (fun _ _ h => h)).trans o2 (fun _ _ h => h)⟩
     ·subst b1
      have hd1 : (((c : Nat) : Int) == 0) = false := by rw [beq_eq_false_iff_ne]; omega
      have hd2 : decide ((1 : Int) < (c : Int)) = true := by simp; omega
      go_wp2_with fail
      refine (rnext_any R).mono ?_
      rw [show nextS (c :: l, 0) = (c, (l, 0)) from rfl]
      rintro e w1 ⟨rfl, R1, o1⟩
      go_wp2_with fail
      refine (failed_any R1).mono ?_
      rintro e w2 ⟨rfl, hw⟩
      rw [hw]
      clear hw w2
      go_wp2_with fail
      refine (fail_any R1 3 (by omega)).mono ?_
      rintro e w2 ⟨rfl, R2, o2⟩
      go_wp2_with fail
      go_ret
      rw [HN.out]
      exact ⟨rfl, R2, (O.trans o1 (fun _ _ h => h)).trans o2 (fun _ _ h => h)⟩
    ·obtain ⟨x, hx⟩ : ∃ x, x = c % 128 := ⟨_, rfl⟩
     have hx128 : x < 128 := by omega
     have hroom := acc_room hi HA.out hx128 (by omega)
     have hacc' := acc_next HA.out hx128
     obtain ⟨y, hy⟩ : ∃ y, y = x * 2 ^ (7 * i) := ⟨_, rfl⟩
     obtain ⟨z, hz⟩ : ∃ z, z = acc + y := ⟨_, rfl⟩
     have x1 : bits .andNot .u8 (c : Int) 128 = (x : Int) := by rw [hx]; exact andNot128 c hc
     have x2 : Op.shift .shl .u64 (x : Int) .i64 ((i : Int) * 7) = pure (.int .u64 (y : Int)) := by
      rw [hy, ← shl_at hi (by omega) .i64]
      congr 1
      omega
     have x4 : IntKind.u64.wrap ((x : Int) * 2 ^ (i * 7)) = (y : Int) := by
      rw [IntKind.wrap_u64, Nat.mul_comm i 7]
      have e : ((x : Int) * 2 ^ (7 * i)) = ((x * 2 ^ (7 * i) : Nat) : Int) := by push_cast; rfl
      rw [e, ← hy]
      omega
     have x3 : bits .or .u64 (acc : Int) (y : Int) = (z : Int) := by
      rw [hz, hy]
      exact or_add HA.out hroom
     have hz64 : z < 18446744073709551616 := by omega
     have HZ : Hid (z = acc + (c % 128) * 2 ^ (7 * i)) := by
      show z = acc + (c % 128) * 2 ^ (7 * i)
      rw [hz, hy, hx]
     have hzb : Hid (z < 2 ^ (7 * (i + 1))) := by
      show z < 2 ^ (7 * (i + 1))
      omega
     have HY : Hid (y = x * 2 ^ (7 * i)) := hy
     clear hz hy hx hroom hacc'
     have HB : Hid _ := hbad
     have split : (i = 0) ∨ (0 < i ∧ i ≠ 9 ∧ c ≠ 0) ∨ (i = 9 ∧ c ≠ 0 ∧ ¬ 1 < c) := by omega
     clear hbad
     by_cases h128 : c < 128
     ·have HN : Hid (numS (l0, 0) = (z, (l, 0))) := by
       show numS (l0, 0) = (z, (l, 0))
       simp only [numS, ne_eq, not_true_eq_false, if_false]
       rw [← HE.out]
       simp only [rdNum]
       rw [if_neg HB.out, if_pos h128]
       simp only [HZ.out, show c % 128 = c by omega]
      have hd0 : decide ((c : Int) < 128) = true := by simp; omega
      rcases split with s0 | ⟨s0, s1, s2⟩ | ⟨s0, s1, s2⟩
      ·have x5 : bits .or .u64 (acc : Int) (x : Int) = (z : Int) := by
        have e : y = x := by rw [HY.out, s0]; simp
        rw [← e]
        exact x3
       have S0 : Hid _ := s0
       go_wp2_with fail
       refine (rnext_any R).mono ?_
       rw [show nextS (c :: l, 0) = (c, (l, 0)) from rfl]
       rintro e w1 ⟨rfl, R1, o1⟩
       go_wp2_with fail
       refine (failed_any R1).mono ?_
       rintro e w2 ⟨rfl, hw⟩
       rw [hw]
       clear hw w2
       go_wp2_with fail
       go_ret
       rw [HN.out]
       exact ⟨rfl, R1, O.trans o1 (fun _ _ h => h)⟩
      ·have hd1 : decide ((0 : Int) < (i : Int)) = true := by simp; omega
       have hd2 : (((c : Nat) : Int) == 0) = false := by rw [beq_eq_false_iff_ne]; omega
       have hd3 : (((i : Nat) : Int) == 9) = false := by rw [beq_eq_false_iff_ne]; omega
       have S0 : Hid _ := s0
       clear s0
       go_wp2_with fail
       refine (rnext_any R).mono ?_
       rw [show nextS (c :: l, 0) = (c, (l, 0)) from rfl]
       rintro e w1 ⟨rfl, R1, o1⟩
       go_wp2_with fail
       refine (failed_any R1).mono ?_
       rintro e w2 ⟨rfl, hw⟩
       rw [hw]
       clear hw w2
       go_wp2_with fail
       go_ret
       rw [HN.out]
       exact ⟨rfl, R1, O.trans o1 (fun _ _ h => h)⟩
      ·have hd1 : decide ((0 : Int) < (i : Int)) = true := by simp; omega
       have hd2 : (((c : Nat) : Int) == 0) = false := by rw [beq_eq_false_iff_ne]; omega
       have hd3 : (((i : Nat) : Int) == 9) = true := by rw [beq_iff_eq]; omega
       have hd4 : decide ((1 : Int) < (c : Int)) = false := by simp; omega
       have x5 : IntKind.u64.wrap ((x : Int) * 9223372036854775808) = (y : Int) := by
        rw [← x4, s0]
        simp
       have S0 : Hid _ := s0
       go_wp2_with fail
       refine (rnext_any R).mono ?_
       rw [show nextS (c :: l, 0) = (c, (l, 0)) from rfl]
       rintro e w1 ⟨rfl, R1, o1⟩
       go_wp2_with fail
       refine (failed_any R1).mono ?_
       rintro e w2 ⟨rfl, hw⟩
       rw [hw]
       clear hw w2
       go_wp2_with fail
       go_ret
       rw [HN.out]
       exact ⟨rfl, R1, O.trans o1 (fun _ _ h => h)⟩
     ·have HN : Hid (rdNum (i + 1) z l = rdNum 0 0 l0) := by
       show rdNum (i + 1) z l = rdNum 0 0 l0
       rw [← HE.out]
       simp only [rdNum]
       rw [if_neg HB.out, if_neg h128, HZ.out, show c - 128 = c % 128 by omega]
      have hd0 : decide ((c : Int) < 128) = false := by simp; omega
      rcases split with s0 | ⟨s0, s1, s2⟩ | ⟨s0, s1, s2⟩
      ·have x5 : bits .or .u64 (acc : Int) (x : Int) = (z : Int) := by
        have e : y = x := by rw [HY.out, s0]; simp
        rw [← e]
        exact x3
       have S0 : Hid _ := s0
       go_wp2_with fail
       refine (rnext_any R).mono ?_
       rw [show nextS (c :: l, 0) = (c, (l, 0)) from rfl]
       rintro e w1 ⟨rfl, R1, o1⟩
       go_wp2_with fail
       refine (failed_any R1).mono ?_
       rintro e w2 ⟨rfl, hw⟩
       rw [hw]
       clear hw w2
       go_wp2_with fail
       go_roundw
       case rel => exact ⟨z, i + 1, l, rfl, by go_num, by have := S0.out; omega, hzb.out, HN.out, R1, O.trans o1 (fun _ _ h => h)⟩
       case measure => simp [intOf]; omega
      ·have hd1 : decide ((0 : Int) < (i : Int)) = true := by simp; omega
       have hd2 : (((c : Nat) : Int) == 0) = false := by rw [beq_eq_false_iff_ne]; omega
       have hd3 : (((i : Nat) : Int) == 9) = false := by rw [beq_eq_false_iff_ne]; omega
       have S0 : Hid _ := s0
       clear s0
       go_wp2_with fail
       refine (rnext_any R).mono ?_
       rw [show nextS (c :: l, 0) = (c, (l, 0)) from rfl]
       rintro e w1 ⟨rfl, R1, o1⟩
       go_wp2_with fail
       refine (failed_any R1).mono ?_
       rintro e w2 ⟨rfl, hw⟩
       rw [hw]
       clear hw w2
       go_wp2_with fail
       go_roundw
       case rel => exact ⟨z, i + 1, l, rfl, by go_num, by have := S0.out; omega, hzb.out, HN.out, R1, O.trans o1 (fun _ _ h => h)⟩
       case measure => simp [intOf]; omega
      ·omega
 ·have hn : numS (l0, er) = (0, (l0, er)) := by simp [numS, her]
  have hx : nextS (l0, er) = (0, (l0, er)) := by simp [nextS, her]
  have HN : Hid _ := hn
  clear hn
  have hd : (((er : Nat) : Int) == 0) = false := by rw [beq_eq_false_iff_ne]; omega
  go_enter Try.func117, Try.ntmps117
  go_wp2_with fail
  go_loopw [3, 4] (fun x y wr => x = .int .u64 0 ∧ y = .int .i64 0 ∧ wr = w) (fun _ _ _ => 0)
  case atStart => exact ⟨rfl, rfl, rfl⟩
  case round =>
   obtain ⟨rfl, rfl, rfl⟩ := hrel
   have R := hR
   go_wp2_with fail
   refine (rnext_any R).mono ?_
   rw [hx]
   rintro e w1 ⟨rfl, R1, o1⟩
   go_wp2_with fail
   refine (failed_any R1).mono ?_
   rintro e w2 ⟨rfl, hw⟩
   rw [hw]
   clear hw w2
   go_wp2_with fail
   go_ret
   rw [HN.out]
   exact ⟨rfl, R1, o1⟩
end Go.Proofs.Ytmbphlkohlggfaa

namespace Go.Proofs.Ytmbphlkohlggfaa
open Go.RowKit
theorem unzig_even {n : Nat} (h : n % 2 = 0) : unzig n = ((n / 2 : Nat) : Int) := by simp [unzig, h]
theorem unzig_odd {n : Nat} (h : n % 2 = 1) : unzig n = -((n / 2 : Nat) : Int) - 1 := by simp [unzig, h]
set_option maxRecDepth 100000 in
theorem rint_any {D : Nat → Prop} {b : Nat} {s : RS} {w : World} (hR : Rdr 125 D b s w) :
  Calls Try.prog 97 #[.pointer (some ⟨b, 0, none⟩)] w fun e w' => e = .returned (.int .i64 (intS s).1) ∧ Rdr 125 D b (intS s).2 w' ∧ Off (fun c => c = b) w w' := by
 have hn := (num_ok hR.ok).2.1
 simp only [intS]
 obtain ⟨n, en⟩ : ∃ n, n = (numS s).1 := ⟨_, rfl⟩
 rw [← en] at hn ⊢
 have h1 := u64_odd n hn
 have hh : (n : Int) / 2 = ((n / 2 : Nat) : Int) := by omega
 have EN : Hid _ := en
 clear en
 obtain ⟨k, ek⟩ : ∃ k, k = n / 2 := ⟨_, rfl⟩
 have hk : k < 9223372036854775808 := by omega
 rw [← ek] at hh
 rcases Nat.mod_two_eq_zero_or_one n with h | h
 ·rw [h] at h1
  have hz : Hid (unzig n = (k : Int)) := by rw [ek]; exact unzig_even h
  have x1 : bits .and .u64 (n : Int) 1 = 0 := h1
  have x2 := xor_none k hk
  clear h h1 ek
  go_enter Try.func97, Try.ntmps97
  go_wp2_with fail
  refine (rnum_any hR).mono ?_
  rw [← EN.out]
  rintro e w1 ⟨rfl, R1, o1⟩
  go_wp2_with fail
  go_ret
  rw [hz.out]
  exact ⟨rfl, R1, o1⟩
 ·rw [h] at h1
  have hz : Hid (unzig n = -(k : Int) - 1) := by rw [ek]; exact unzig_odd h
  have x1 : bits .and .u64 (n : Int) 1 = 1 := h1
  have x2 := xor_ones k hk
  clear h h1 ek
  go_enter Try.func97, Try.ntmps97
  go_wp2_with fail
  refine (rnum_any hR).mono ?_
  rw [← EN.out]
  rintro e w1 ⟨rfl, R1, o1⟩
  go_wp2_with fail
  go_ret
  rw [hz.out]
  exact ⟨rfl, R1, o1⟩
set_option maxRecDepth 100000 in
theorem rcount_any {D : Nat → Prop} {b : Nat} {s : RS} {w : World} (hR : Rdr 125 D b s w) (m : Int) (hm0 : -9223372036854775808 ≤ m) (hm : m ≤ 9223372036854775807) :
  Calls Try.prog 118 #[.pointer (some ⟨b, 0, none⟩), .int .i64 m] w fun e w' => e = .returned (.int .i64 (((countS m.toNat s).1 : Nat) : Int)) ∧ Rdr 125 D b (countS m.toNat s).2 w' ∧ Off (fun c => c = b) w w' := by
 have hn := (num_ok hR.ok).2.1
 obtain ⟨n, en⟩ : ∃ n, n = (numS s).1 := ⟨_, rfl⟩
 rw [← en] at hn
 have EN : Hid _ := en
 clear en
 by_cases hlong : m.toNat < n
 ·have HC : Hid (countS m.toNat s = (0, ([], 4))) := by
   show countS m.toNat s = (0, ([], 4))
   unfold countS
   rw [if_pos (by rw [← EN.out]; exact hlong)]
  have hd : decide (m < (n : Int)) = true := by simp; omega
  have hd' : decide ((0 : Int) < (n : Int)) = true := by simp; omega
  go_enter Try.func118, Try.ntmps118
  go_wp2_with fail
  refine (rnum_any hR).mono ?_
  rw [← EN.out]
  rintro e w1 ⟨rfl, R1, o1⟩
  go_wp2_with fail
  all_goals
   refine (fail_any R1 4 (by omega)).mono ?_
   rintro e w2 ⟨rfl, R2, o2⟩
   go_wp2_with fail
   go_ret
   rw [HC.out]
   exact ⟨rfl, R2, o1.trans o2 (fun _ _ h => h)⟩
 ·have HC : Hid (countS m.toNat s = numS s) := by
   show countS m.toNat s = numS s
   unfold countS
   rw [if_neg (by rw [← EN.out]; exact hlong)]
  by_cases hm1 : m ≤ 0
  ·have hn0 : n = 0 := by omega
   have hd2 : decide ((0 : Int) < (n : Int)) = false := by simp; omega
   clear hlong
   go_enter Try.func118, Try.ntmps118
   go_wp2_with fail
   refine (rnum_any hR).mono ?_
   rw [← EN.out]
   rintro e w1 ⟨rfl, R1, o1⟩
   go_wp2_with fail
   all_goals
    go_ret
    rw [HC.out, ← EN.out]
    exact ⟨by simp [hn0], R1, o1⟩
  ·have hd2 : decide (m < (n : Int)) = false := by simp; omega
   go_enter Try.func118, Try.ntmps118
   go_wp2_with fail
   refine (rnum_any hR).mono ?_
   rw [← EN.out]
   rintro e w1 ⟨rfl, R1, o1⟩
   go_wp2_with fail
   go_ret
   rw [HC.out, ← EN.out]
   exact ⟨rfl, R1, o1⟩
theorem rleft_any {D : Nat → Prop} {b : Nat} {s : RS} {w : World} (hR : Rdr 125 D b s w) :
  Calls Try.prog 132 #[.pointer (some ⟨b, 0, none⟩)] w fun e w' => e = .returned (.int .i64 ((s.1.length : Nat) : Int)) ∧ w' = w := by
 obtain ⟨tad, cap, h1, -⟩ := hR.is
 have c0 : w.cell? ⟨b, 0, none⟩ = some (.slice tad s.1.length cap) := by rw [h1.cell]; rfl
 clear h1 hR
 go_enter Try.func132, Try.ntmps132
 go_wp2_with fail
 go_ret
 exact ⟨rfl, rfl⟩
set_option maxRecDepth 100000 in
theorem rend_any {D : Nat → Prop} {b : Nat} {s : RS} {w : World} (hR : Rdr 125 D b s w) :
  Calls Try.prog 59 #[.pointer (some ⟨b, 0, none⟩)] w fun e w' => e = .returned (.int .i64 ((endS s : Nat) : Int)) ∧ w' = w := by
 obtain ⟨tad, cap, h1, -⟩ := hR.is
 have c0 : w.cell? ⟨b, 0, none⟩ = some (.slice tad s.1.length cap) := by rw [h1.cell]; rfl
 have c1 : w.cell? ⟨b, 1, none⟩ = some (.int .i64 ((s.2 : Nat) : Int)) := by rw [h1.cell]; rfl
 clear h1 hR
 obtain ⟨l, er⟩ := s
 simp only at c0 c1
 by_cases her : er = 0
 ·have hd : (((er : Nat) : Int) == 0) = true := by rw [beq_iff_eq]; omega
  by_cases hl : l = []
  ·have HE : Hid (endS (l, er) = er) := by
    show endS (l, er) = er
    simp [endS, hl]
   have hd2 : decide (0 < l.length) = false := by simp [hl]
   have HER : Hid _ := her
   clear her hl
   go_enter Try.func59, Try.ntmps59
   go_wp2_with fail
   go_ret
   rw [HE.out]
   exact ⟨rfl, rfl⟩
  ·have HE : Hid (endS (l, er) = 3) := by
    show endS (l, er) = 3
    simp [endS, hl, her]
   have hl' : 0 < l.length := List.length_pos_iff.2 hl
   have hd2 : decide (0 < l.length) = true := by simp; omega
   clear her hl
   go_enter Try.func59, Try.ntmps59
   go_wp2_with fail
   go_ret
   rw [HE.out]
   exact ⟨rfl, rfl⟩
 ·have HE : Hid (endS (l, er) = er) := by
   show endS (l, er) = er
   simp [endS, her]
  have hd : (((er : Nat) : Int) == 0) = false := by rw [beq_eq_false_iff_ne]; omega
  go_enter Try.func59, Try.ntmps59
  go_wp2_with fail
  go_ret
  rw [HE.out]
  exact ⟨rfl, rfl⟩
end Go.Proofs.Ytmbphlkohlggfaa
