/- Items of several texts. -/
import Derived.Laws.BitsAll
import Derived.Laws.Entries
import Derived.RegionCalls
import Derived.Test.YtmbphlkohlggfaaAArg5
namespace Go.Proofs.Ytmbphlkohlggfaa
def numG : Nat → Nat → List Nat
 | 0, n => [n]
 | k + 1, n => if n < 128 then [n] else (n % 128 + 128) :: numG k (n / 128)
def numB (n : Nat) : List Nat := numG n n
theorem numG_zero : ∀ k, numG k 0 = [0]
 | 0 => rfl
 | _ + 1 => rfl
theorem numG_same : ∀ k m n, n ≤ k → n ≤ m → numG k n = numG m n
 | 0, m, n, h, _ => by
  obtain rfl : n = 0 := by omega
  rw [numG_zero, numG_zero]
 | k + 1, 0, n, _, h => by
  obtain rfl : n = 0 := by omega
  rw [numG_zero, numG_zero]
 | k + 1, m + 1, n, h1, h2 => by
  by_cases h : n < 128
  ·simp only [numG, if_pos h]
  ·simp only [numG, if_neg h]
   rw [numG_same k m (n / 128) (by omega) (by omega)]
theorem numB_small {n : Nat} (h : n < 128) : numB n = [n] := by
 unfold numB
 cases n with
 | zero => rfl
 | succ n => rw [numG, if_pos h]
theorem numB_big {n : Nat} (h : ¬ n < 128) : numB n = (n % 128 + 128) :: numB (n / 128) := by
 unfold numB
 cases n with
 | zero => omega
 | succ n => rw [numG, if_neg h, numG_same n ((n + 1) / 128) ((n + 1) / 128) (by omega) (by omega)]
theorem numB_pos (n : Nat) : 0 < (numB n).length := by
 by_cases h : n < 128
 ·rw [numB_small h]; simp
 ·rw [numB_big h]; simp
theorem numB_len (k : Nat) : ∀ n, n < 2 ^ (7 * k + 7) → (numB n).length ≤ k + 1 := by
 induction k with
 | zero =>
  intro n hn
  rw [numB_small (by simpa using hn)]
  simp
 | succ k ih =>
  intro n hn
  by_cases h : n < 128
  ·rw [numB_small h]; simp
  ·rw [numB_big h]
   have : n / 128 < 2 ^ (7 * k + 7) := by
    rw [Nat.div_lt_iff_lt_mul (by decide)]
    have : (2 : Nat) ^ (7 * (k + 1) + 7) = 2 ^ (7 * k + 7) * 128 := by rw [show 7 * (k + 1) + 7 = (7 * k + 7) + 7 by omega, Nat.pow_add]
    omega
   have := ih _ this
   simp
   omega
theorem numB_ten {n : Nat} (h : n < 18446744073709551616) : (numB n).length ≤ 10 := numB_len 9 n (by omega)
def zig (i : Int) : Nat := if 0 ≤ i then (2 * i).toNat else (-2 * i - 1).toNat
theorem zig_lt {i : Int} (h0 : -9223372036854775808 ≤ i) (h1 : i ≤ 9223372036854775807) : zig i < 18446744073709551616 := by
 unfold zig
 split <;> omega
end Go.Proofs.Ytmbphlkohlggfaa

namespace Go.Proofs.Ytmbphlkohlggfaa
theorem or128 (m : Nat) : bits .or .u8 ((m % 256 : Nat) : Int) 128 = ((m % 128 + 128 : Nat) : Int) := by
 have h := u8_or_nat (m % 256) 128 (by omega) (by decide)
 have k : ∀ x, x < 256 → x ||| 128 = x % 128 + 128   := by decide +kernel
 rw [k _ (by omega)] at h
 rw [show m % 256 % 128 = m % 128 by omega] at h
 exact h
theorem xor_all (x : Nat) (h : x < 18446744073709551616) : x ^^^ 18446744073709551615 = 18446744073709551615 - x := by
 have e : 18446744073709551615 - x = 2 ^ 64 - (x + 1) := by omega
 have e1 : 18446744073709551615 = 2 ^ 64 - 1 := by decide
 rw [e]
 conv => lhs; rw [e1]
 apply Nat.eq_of_testBit_eq
 intro i
 rw [Nat.testBit_xor, Nat.testBit_two_pow_sub_one, Nat.testBit_two_pow_sub_succ (by omega)]
 by_cases hi : i < 64
 ·simp [hi]
 ·have : x.testBit i = false := Nat.testBit_lt_two_pow (Nat.lt_of_lt_of_le h (by
   have := Nat.pow_le_pow_right (n := 2) (by decide) (show 64 ≤ i by omega)
   simpa using this))
  simp [hi, this]
theorem zig_pos {i : Int} (h0 : 0 ≤ i) (h1 : i ≤ 9223372036854775807) : bits .xor .u64 (IntKind.u64.wrap (IntKind.u64.wrap i * 2)) (IntKind.u64.wrap (i / 9223372036854775808)) = ((zig i : Nat) : Int) := by
 obtain ⟨n, rfl⟩ := Int.eq_ofNat_of_zero_le h0
 rw [IntKind.wrap_u64, IntKind.wrap_u64, IntKind.wrap_u64]
 have e1 : ((n : Int) % 18446744073709551616 * 2 % 18446744073709551616) = ((2 * n : Nat) : Int) := by omega
 have e2 : ((n : Int) / 9223372036854775808 % 18446744073709551616) = ((0 : Nat) : Int) := by omega
 rw [e1, e2, u64_xor_nat _ _ (by omega) (by decide)]
 unfold zig
 rw [if_pos h0]
 simp
 omega
theorem zig_neg {i : Int} (h0 : i < 0) (h1 : -9223372036854775808 ≤ i) : bits .xor .u64 (IntKind.u64.wrap (IntKind.u64.wrap i * 2)) (IntKind.u64.wrap (i / 9223372036854775808)) = ((zig i : Nat) : Int) := by
 obtain ⟨n, hn⟩ := Int.eq_ofNat_of_zero_le (show 0 ≤ -i - 1 by omega)
 obtain rfl : i = -(n : Int) - 1 := by omega
 rw [IntKind.wrap_u64, IntKind.wrap_u64, IntKind.wrap_u64]
 have e1 : ((-(n : Int) - 1) % 18446744073709551616 * 2 % 18446744073709551616) = ((18446744073709551616 - 2 * (n + 1) : Nat) : Int) := by omega
 have e2 : ((-(n : Int) - 1) / 9223372036854775808 % 18446744073709551616) = ((18446744073709551615 : Nat) : Int) := by omega
 rw [e1, e2, u64_xor_nat _ _ (by omega) (by decide), xor_all _ (by omega)]
 unfold zig
 rw [if_neg (by omega)]
 omega
theorem zig_bits {i : Int} (h0 : -9223372036854775808 ≤ i) (h1 : i ≤ 9223372036854775807) : bits .xor .u64 (IntKind.u64.wrap (IntKind.u64.wrap i * 2)) (IntKind.u64.wrap (i / 9223372036854775808)) = ((zig i : Nat) : Int) := by
 by_cases h : 0 ≤ i
 ·exact zig_pos h h1
 ·exact zig_neg (by omega) h0
end Go.Proofs.Ytmbphlkohlggfaa

namespace Go.Proofs.Ytmbphlkohlggfaa
open Go.RowKit
set_option maxRecDepth 100000 in
set_option maxHeartbeats 1000000 in
theorem parts_any (n : Nat) (hn : n < 18446744073709551616) (w : World) :
  Calls Try.prog 113 #[.int .u64 (n : Int)] w fun e w' => ∃ t c, e = .returned (.slice t (numB n).length c) ∧ OwnR w' t c (numB n) ∧ (∀ k, blk t = some k → w.heap.size ≤ k) ∧ Off (fun _ => False) w w' := by
 have hten := numB_ten hn
 go_enter Try.func113, Try.ntmps113
 go_wp2_with fail
 go_loopw [0, 3] (fun x o wr => ∃ (m : Nat) (bs : List Nat) (t : Option Addr) (c : Nat), x = .int .u64 (m : Int) ∧ o = .slice t bs.length c ∧ m < 18446744073709551616 ∧ bs ++ numB m = numB n ∧ OwnR wr t c bs ∧ (∀ k, blk t = some k → w.heap.size ≤ k) ∧ Off (fun _ => False) w wr) (fun x _ _ => (intOf x).toNat)
 case atStart => exact ⟨n, [], none, 0, rfl, rfl, hn, rfl, OwnR.nil w, fun k hk => by simp [blk] at hk, Off.refl _ w⟩
 case round =>
  obtain ⟨m, bs, t, c, rfl, rfl, hm, heq, own, hblk, O⟩ := hrel
  have hlen : bs.length + 1 ≤ 10 := by
   have := congrArg List.length heq
   have h1 := numB_pos m
   simp at this
   omega
  have OW : Hid _ := own
  have HB : Hid _ := hblk
  have HE : Hid _ := heq
  clear own hblk heq
  by_cases h : m < 128
  ·have hd : decide ((128 : Int) ≤ (m : Int)) = false := by simp; omega
   have e2 : (m : Int) % 256 = (m : Int) := by omega
   go_wp2_with (at_builtin; refine wpList_app rfl (.tmp 14) (.tmp 17) rfl t c bs rfl (OW.out.off ((Off.refl (fun _ => False) _).alloc _) (fun _ _ _ h => h)) _ 1 [m] rfl (src_new _ _) (by simp; omega) ?_; intro t' c' w' ys hys own' off' at')
   go_ret
   rw [numB_small h] at HE
   refine ⟨t', c', by rw [← HE.out, ← hys.out]; rfl, by rw [← HE.out, ← hys.out]; exact own', fun k hk => ?_, (O.alloc _).trans off' (fun i hi hb => ?_)⟩
   ·rcases at' with a | a
    ·exact HB.out k (a ▸ hk)
    ·rw [a] at hk
     have := O.size
     simp at hk
     omega
   ·have := HB.out i hb
    omega
  ·have hd : decide ((128 : Int) ≤ (m : Int)) = true := by simp; omega
   obtain ⟨y, hy⟩ : ∃ y, y = m % 128 + 128 := ⟨_, rfl⟩
   have e2 : bits .or .u8 ((m : Int) % 256) 128 = (y : Int) := by rw [hy]; exact or128 m
   have HY : Hid _ := hy
   clear hy
   go_wp2_with (at_builtin; refine wpList_app rfl (.tmp 6) (.tmp 10) rfl t c bs rfl (OW.out.off ((Off.refl (fun _ => False) _).alloc _) (fun _ _ _ h => h)) _ 1 [y] rfl (src_new _ _) (by simp; omega) ?_; intro t' c' w' ys hys own' off' at')
   go_roundw
   case rel =>
    refine ⟨m / 128, ys, t', c', by go_num, rfl, by omega, ?_, own', fun k hk => ?_, (O.alloc _).trans off' (fun i hi hb => ?_)⟩
    ·rw [← HE.out, hys.out, numB_big h, HY.out]
     simp
    ·rcases at' with a | a
     ·exact HB.out k (a ▸ hk)
     ·rw [a] at hk
      have := O.size
      simp at hk
      omega
    ·have := HB.out i hb
     omega
   case measure => simp [intOf]; omega
theorem clone_any (t : Option Addr) (c : Nat) (bs : List Nat) (hb : bs.length ≤ 140737488355328) (w : World) (hs : Src w t c bs) :
  Calls Try.prog 91 #[.slice t bs.length c] w fun e w' => ∃ t' c', e = .returned (.slice t' bs.length c') ∧ OwnR w' t' c' bs ∧ (∀ k, blk t' = some k → w.heap.size ≤ k) ∧ Off (fun _ => False) w w' := by
 have hq := eql_nil
 rcases hs.is with ⟨rfl, rfl, rfl⟩ | ⟨ad, rfl, -⟩
 ·go_enter Try.func91, Try.ntmps91
  go_wp2
  go_ret
  exact ⟨none, 0, rfl, OwnR.nil w, fun k hk => by simp [blk] at hk, Off.refl _ w⟩
 ·have HS : Hid (Src w (some ad) c bs) := hs
  clear hs
  have L0 : OwnR (w.alloc (.cells #[] 5)) (some ⟨w.heap.size, 0, none⟩) 0 [] := ⟨World.ownsRow_lit w #[] 0 (Nat.zero_le _) (by decide) rfl⟩
  have O0 : Off (fun _ => False) w (w.alloc (.cells #[] 5)) := (Off.refl _ w).alloc _
  go_enter Try.func91, Try.ntmps91
  go_wp2_with (at_builtin; refine wpList_app rfl (.tmp 5) (.tmp 6) rfl _ 0 [] rfl L0 _ c bs rfl (HS.out.off O0 (fun _ _ _ h => h)) (by simpa using hb) ?_; intro t' c' w' ys hys own' off' at')
  go_ret
  obtain rfl : ys = bs := hys.out
  refine ⟨t', c', rfl, own', fun k hk => ?_, O0.trans off' (fun i hi hb => ?_)⟩
  ·rcases at' with a | a
   ·rw [a] at hk
    simp [blk] at hk
    omega
   ·rw [a] at hk
    simp at hk
    omega
  ·simp [blk] at hb
   omega
end Go.Proofs.Ytmbphlkohlggfaa

namespace Go.Proofs.Ytmbphlkohlggfaa
open Go.RowKit
def putS (most : Nat) : Option (List Nat) → List Nat → Option (List Nat)
 | none, _ => none
 | some bs, x => if bs.length + x.length ≤ most then some (bs ++ x) else none
structure Wtr (D : Nat → Prop) (b most : Nat) (st : Option (List Nat)) (w : World) : Prop where
 here : D b
 lt : ∀ c, D c → c < w.heap.size
 bound : most ≤ 9223372036854775807
 is : (st = none ∧ Cel b 113 #[.int .i64 (most : Int), .slice none 0 0, .bool true] w) ∨
  ∃ bs tad cap, st = some bs ∧ Cel b 113 #[.int .i64 (most : Int), .slice tad bs.length cap, .bool false] w ∧ OwnR w tad cap bs ∧ ∀ k, blk tad = some k → D k ∧ k ≠ b
theorem Wtr.off {D E : Nat → Prop} {b most : Nat} {st : Option (List Nat)} {w w' : World} (h : Wtr D b most st w) (o : Off E w w') (hD : ∀ c, c < w.heap.size → D c → ¬ E c) : Wtr D b most st w' := by
 refine ⟨h.here, fun c hc => Nat.lt_of_lt_of_le (h.lt c hc) o.size, h.bound, ?_⟩
 rcases h.is with ⟨rfl, h1⟩ | ⟨bs, tad, cap, rfl, h1, h2, h3⟩
 ·exact .inl ⟨rfl, h1.off o (hD b h1.lt h.here)⟩
 ·exact .inr ⟨bs, tad, cap, rfl, h1.off o (hD b h1.lt h.here), h2.off o (fun c hc hb => hD c hc (h3 c hb).1), h3⟩
theorem blk_ne {D : Nat → Prop} {t1 tad : Option Addr} {b N : Nat} (at1 : blk t1 = blk tad ∨ blk t1 = some N) (h : ∀ k, blk tad = some k → D k ∧ k ≠ b) (hb : b < N) : ∀ c, blk t1 = some c → (D c ∨ N ≤ c) ∧ c ≠ b := by
 intro c e
 rcases at1 with a | a
 ·have := h c (a ▸ e)
  exact ⟨.inl this.1, this.2⟩
 ·rw [a] at e
  simp at e
  exact ⟨.inr (by omega), by omega⟩
theorem newWriter_any (m : Int) (hm : m ≤ 9223372036854775807) (w : World) :
  Calls Try.prog 49 #[.int .i64 m] w fun e w' => e = .returned (.pointer (some ⟨w.heap.size, 0, none⟩)) ∧ Wtr (fun c => c = w.heap.size) w.heap.size m.toNat (some []) w' ∧ Off (fun _ => False) w w' := by
 go_enter Try.func49, Try.ntmps49
 go_wp2
 all_goals go_ret
 all_goals refine ⟨rfl, ⟨rfl, fun c hc => by simp [hc], by omega, .inr ⟨[], none, 0, rfl, by (first | (rw [show ((m.toNat : Nat) : Int) = m by omega]; exact Cel.new w _ _) | (rw [show ((m.toNat : Nat) : Int) = 0 by omega]; exact Cel.new w _ _)), OwnR.nil _, fun k hk => by simp [blk] at hk⟩⟩, (Off.refl _ w).alloc _⟩
set_option maxRecDepth 100000 in
set_option maxHeartbeats 1000000 in
theorem add_any {D : Nat → Prop} {b most : Nat} {st : Option (List Nat)} {w : World} (hW : Wtr D b most st w) (ht : Option Addr) (hc : Nat) (hb : List Nat) (hh : Src w ht hc hb) (bt : Option Addr) (bc : Nat) (bb : List Nat) (hbody : ∀ w', Off D w w' → Src w' bt bc bb)
  (hsz : (st.getD []).length + hb.length + bb.length ≤ 140737488355328 ∨ most ≤ 140737488355328 ∧ (st.getD []).length ≤ most ∧ hb.length + bb.length ≤ 281474976710656) :
  Calls Try.prog 112 #[.pointer (some ⟨b, 0, none⟩), .slice ht hb.length hc, .slice bt bb.length bc] w fun e w' => e = .returned (.tuple #[]) ∧ ∃ D', Wtr D' b most (putS most st (hb ++ bb)) w' ∧ Off D w w' ∧ ∀ c, D' c → D c ∨ w.heap.size ≤ c := by
 have HW := hW
 rcases hW.is with ⟨rfl, h1⟩ | ⟨bs, tad, cap, rfl, h1, h2, h3⟩
 ·have c2 : w.cell? ⟨b, 2, none⟩ = some (.bool true) := by rw [h1.cell]; rfl
  clear h1 hW
  go_enter Try.func112, Try.ntmps112
  go_wp2_with fail
  refine bodyPost_ret (results_none rfl _ _ _) rfl ?_
  exact ⟨rfl, D, HW, Off.refl _ _, fun c h => .inl h⟩
 ·have hmost := hW.bound
  simp only [Option.getD_some] at hsz
  have hbb : hb.length + bb.length ≤ 281474976710656 ∧ bs.length ≤ 140737488355328 := by omega
  obtain ⟨hbb, hbs⟩ := hbb
  have c0 : w.cell? ⟨b, 0, none⟩ = some (.int .i64 (most : Int)) := by rw [h1.cell]; rfl
  have c1 : w.cell? ⟨b, 1, none⟩ = some (.slice tad bs.length cap) := by rw [h1.cell]; rfl
  have c2 : w.cell? ⟨b, 2, none⟩ = some (.bool false) := by rw [h1.cell]; rfl
  have f1 := h1.free 1
  have f2 := h1.free 2
  have H1 : Hid (Cel b 113 #[.int .i64 (most : Int), .slice tad bs.length cap, .bool false] w) := h1
  have H2 : Hid (OwnR w tad cap bs) := h2
  have H3 : Hid (∀ k, blk tad = some k → D k ∧ k ≠ b) := h3
  have HB : Hid (∀ w', Off D w w' → Src w' bt bc bb) := hbody
  have HS : Hid (Src w ht hc hb) := hh
  clear h1 h2 h3 hbody hh hW
  by_cases hfit : bs.length + (hb.length + bb.length) ≤ most
  ·have hput : putS most (some bs) (hb ++ bb) = some (bs ++ hb ++ bb) := by simp [putS, hfit]
   have HP : Hid _ := hput
   clear hput
   have hd : decide ((most : Int) - (bs.length : Int) < (hb.length : Int) + (bb.length : Int)) = false := by simp; omega
   go_enter Try.func112, Try.ntmps112
   go_wp2_with fail
   go_region
   go_wp2_with (first
    | (at_builtin; refine wpList_app rfl (.tmp 40) (.tmp 41) rfl tad cap bs rfl (H2.out.off ((Off.refl (fun _ => False) _).drew) (fun _ _ _ h => h)) ht hc hb rfl (HS.out.off ((Off.refl (fun _ => False) _).drew) (fun _ _ _ h => h)) (by omega) ?_; intro t1 cc1 w1 y1 hy1 own1 off1 at1; have P1 : Cel b 113 _ w1 := H1.out.drew.off off1 (fun e => (H3.out b e).2 rfl); have p1 : w1.cell? ⟨b, 1, none⟩ = some (.slice tad bs.length cap) := (P1.cell 1).trans rfl; have g1 := P1.free 1; have O1 : Off D w w1 := ((Off.refl D w).drew).trans off1 (fun i _ e => (H3.out i e).1); have N1 : Hid _ := blk_ne at1 H3.out H1.out.lt; have OW1 : Hid (OwnR w1 t1 cc1 y1) := own1; have S1 := O1.size; have Q1 : Hid _ := P1; clear own1 off1 at1 P1)
    | (at_builtin; refine wpList_app rfl (.tmp 49) (.tmp 50) rfl t1 cc1 y1 rfl (OW1.out.off ((Off.refl (fun c => c = b) _).setCell (.inl rfl) _) (fun c _ e h => (N1.out c e).2 h)) bt bc bb rfl (HB.out _ (O1.setCell (.inl HW.here) _)) (by rw [hy1.out]; simp; omega) ?_; intro t2 cc2 w2 y2 hy2 own2 off2 at2; have P2 : Cel b 113 _ w2 := (Cel.set Q1.out 1 _).off off2 (fun e => (N1.out b e).2 rfl); have p2 : w2.cell? ⟨b, 1, none⟩ = some (.slice t1 y1.length cc1) := (P2.cell 1).trans rfl; have g2 := P2.free 1; have N2 : Hid _ := blk_ne (N := (w1.setCell ⟨b, 1, none⟩ (.slice t1 y1.length cc1)).heap.size) at2 N1.out (Q1.out.set 1 _).lt; have O2 : Off (fun c => D c ∨ w.heap.size ≤ c) w w2 := ((O1.setCell (p := ⟨b, 1, none⟩) (.inl HW.here) (.slice t1 y1.length cc1)).mono (fun _ _ h => .inl h)).trans off2 (fun i _ e => (N1.out i e).1)))
   go_end0
   have hD : ∀ c, blk t2 = some c → D c ∨ w.heap.size ≤ c := by
    intro c e
    rcases (N2.out c e).1 with (h | h) | h
    ·exact .inl h
    ·exact .inr h
    ·simp at h
     exact .inr (by omega)
   have S2 := O2.size
   refine ⟨rfl, fun c => c = b ∨ blk t2 = some c, ?_, (O2.mono (fun i hi h => h.elim id (fun h => by omega))).setCell (.inl HW.here) _, ?_⟩
   ·rw [HP.out]
    refine ⟨.inl rfl, fun c h => ?_, hmost, .inr ⟨y2, t2, cc2, by rw [hy2.out, hy1.out], P2.set 1 _, own2.off ((Off.refl (fun c => c = b) _).setCell (.inl rfl) _) (fun c _ e h => (N2.out c e).2 h), fun k hk => ⟨.inr hk, (N2.out k hk).2⟩⟩⟩
    rcases h with h | h
    ·have := HW.lt b HW.here
     simp
     omega
    ·have := own2.lt c h
     simpa using this
   ·rintro c (rfl | h)
    ·exact .inl HW.here
    ·exact hD c h
  ·have hput : putS most (some bs) (hb ++ bb) = none := by simp [putS]; omega
   have HP : Hid _ := hput
   clear hput
   have hd : decide ((most : Int) - (bs.length : Int) < (hb.length : Int) + (bb.length : Int)) = true := by simp; omega
   go_enter Try.func112, Try.ntmps112
   go_wp2_with fail
   go_region
   go_wp2_with fail
   refine bodyPost_ret (results_none rfl _ _ _) rfl ?_
   refine ⟨rfl, D, ?_, ?_, fun c h => .inl h⟩
   ·rw [HP.out]
    refine ⟨HW.here, fun c h => by simpa using HW.lt c h, hmost, .inl ⟨rfl, ?_⟩⟩
    exact (H1.out.drew.set 1 _).set 2 _
   ·exact (((Off.refl D w).drew).setCell (.inl HW.here) _).setCell (.inl HW.here) _
end Go.Proofs.Ytmbphlkohlggfaa

namespace Go.Proofs.Ytmbphlkohlggfaa
open Go.RowKit
def Put (D : Nat → Prop) (b most : Nat) (st : Option (List Nat)) (x : List Nat) (w w' : World) : Prop := ∃ D', Wtr D' b most (putS most st x) w' ∧ Off D w w' ∧ ∀ c, D' c → D c ∨ w.heap.size ≤ c
theorem Put.after {D : Nat → Prop} {b most : Nat} {st : Option (List Nat)} {x : List Nat} {w w1 w' : World} (o : Off (fun _ => False) w w1) (h : Put D b most st x w1 w') : Put D b most st x w w' := by
 obtain ⟨D', h1, h2, h3⟩ := h
 exact ⟨D', h1, (o.mono (fun _ _ h => h.elim)).trans h2 (fun _ _ h => h), fun c hc => (h3 c hc).imp id (fun h => Nat.le_trans o.size h)⟩
theorem wnum_any {D : Nat → Prop} {b most : Nat} {st : Option (List Nat)} {w : World} (hW : Wtr D b most st w) (n : Nat) (hn : n < 18446744073709551616) (hsz : (st.getD []).length + 10 ≤ 140737488355328 ∨ most ≤ 140737488355328 ∧ (st.getD []).length ≤ most) :
  Calls Try.prog 82 #[.pointer (some ⟨b, 0, none⟩), .int .u64 (n : Int)] w fun e w' => e = .returned (.tuple #[]) ∧ Put D b most st (numB n) w w' := by
 have hten := numB_ten hn
 go_enter Try.func82, Try.ntmps82
 go_wp2_with fail
 refine (parts_any n hn w).mono ?_
 rintro e w1 ⟨t, c, rfl, own, hblk, off⟩
 go_wp2_with fail
 refine (add_any (hW.off off (fun _ _ _ h => h)) t c (numB n) own.src none 0 [] (fun w' _ => Src.nil w') (by simp only [List.length_nil]; omega)).mono ?_
 rintro e w2 ⟨rfl, P⟩
 go_wp2_with fail
 go_end0
 rw [List.append_nil] at P
 exact ⟨rfl, Put.after off P⟩
theorem wtext_any {D : Nat → Prop} {b most : Nat} {st : Option (List Nat)} {w : World} (hW : Wtr D b most st w) (bt : Option Addr) (bc : Nat) (bb : List Nat) (hbody : ∀ w', Off D w w' → Src w' bt bc bb) (hsz : (st.getD []).length + 10 + bb.length ≤ 140737488355328 ∨ most ≤ 140737488355328 ∧ (st.getD []).length ≤ most ∧ bb.length ≤ 140737488351232) :
  Calls Try.prog 84 #[.pointer (some ⟨b, 0, none⟩), .slice bt bb.length bc] w fun e w' => e = .returned (.tuple #[]) ∧ Put D b most st (numB bb.length ++ bb) w w' := by
 have hn : bb.length < 18446744073709551616 := by omega
 have hten := numB_ten hn
 have HB : Hid _ := hbody
 clear hbody
 go_enter Try.func84, Try.ntmps84
 go_wp2_with fail
 refine (parts_any bb.length hn w).mono ?_
 rintro e w1 ⟨t, c, rfl, own, hblk, off⟩
 go_wp2_with fail
 refine (add_any (hW.off off (fun _ _ _ h => h)) t c (numB bb.length) own.src bt bc bb (fun w' o => HB.out w' ((off.mono (fun _ _ h => h.elim)).trans o (fun _ _ h => h))) (by omega)).mono ?_
 rintro e w2 ⟨rfl, P⟩
 go_wp2_with fail
 go_end0
 exact ⟨rfl, Put.after off P⟩
theorem wint_any {D : Nat → Prop} {b most : Nat} {st : Option (List Nat)} {w : World} (hW : Wtr D b most st w) (i : Int) (h0 : -9223372036854775808 ≤ i) (h1 : i ≤ 9223372036854775807) (hsz : (st.getD []).length + 10 ≤ 140737488355328 ∨ most ≤ 140737488355328 ∧ (st.getD []).length ≤ most) :
  Calls Try.prog 83 #[.pointer (some ⟨b, 0, none⟩), .int .i64 i] w fun e w' => e = .returned (.tuple #[]) ∧ Put D b most st (numB (zig i)) w w' := by
 obtain ⟨z, hz⟩ : ∃ z, z = zig i := ⟨_, rfl⟩
 have hlt : z < 18446744073709551616 := hz ▸ zig_lt h0 h1
 have hb := zig_bits h0 h1
 rw [← hz] at hb ⊢
 clear hz
 go_enter Try.func83, Try.ntmps83
 go_wp2_with fail
 refine (wnum_any hW z hlt hsz).mono ?_
 rintro e w1 ⟨rfl, P⟩
 go_wp2_with fail
 go_end0
 exact ⟨rfl, P⟩
def errW : Option (List Nat) → Nat
 | none => 4
 | some _ => 0
theorem done_any {D : Nat → Prop} {b most : Nat} {st : Option (List Nat)} {w : World} (hW : Wtr D b most st w) (hsz : (st.getD []).length ≤ 140737488355328) :
  Calls Try.prog 51 #[.pointer (some ⟨b, 0, none⟩)] w fun e w' => ∃ t c, e = .returned (.tuple #[.slice t (st.getD []).length c, .int .i64 ((errW st : Nat) : Int)]) ∧ OwnR w' t c (st.getD []) ∧ (∀ k, blk t = some k → w.heap.size ≤ k) ∧ Off (fun _ => False) w w' := by
 rcases hW.is with ⟨rfl, h1⟩ | ⟨bs, tad, cap, rfl, h1, h2, h3⟩
 ·have c2 : w.cell? ⟨b, 2, none⟩ = some (.bool true) := by rw [h1.cell]; rfl
  clear h1
  go_enter Try.func51, Try.ntmps51
  go_wp2_with fail
  go_ret2
  exact ⟨none, 0, rfl, OwnR.nil w, fun k hk => by simp [blk] at hk, Off.refl _ w⟩
 ·have c1 : w.cell? ⟨b, 1, none⟩ = some (.slice tad bs.length cap) := by rw [h1.cell]; rfl
  have c2 : w.cell? ⟨b, 2, none⟩ = some (.bool false) := by rw [h1.cell]; rfl
  clear h1
  go_enter Try.func51, Try.ntmps51
  go_wp2_with fail
  refine (clone_any tad cap bs hsz w h2.src).mono ?_
  rintro e w1 ⟨t, c, rfl, own, hblk, off⟩
  go_wp2_with fail
  go_ret2
  exact ⟨t, c, rfl, own, hblk, off⟩
end Go.Proofs.Ytmbphlkohlggfaa
