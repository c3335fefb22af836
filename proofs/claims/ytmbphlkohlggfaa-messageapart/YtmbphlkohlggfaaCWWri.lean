/- Items of several texts. -/
import Derived.Laws.BitsAll
import Derived.Laws.Entries
import Derived.Test.YtmbphlkohlggfaaCArg5
namespace Go.Proofs.Ytmbphlkohlggfaa
def numG : Nat → Nat → List Nat
 | 0, n => [n]
 | k + 1, n => if n < 128 then [n] else (n % 128 + 128) :: numG k (n / 128)
def numB (n : Nat) : List Nat := numG n n
theorem numG_zero : ∀ k, numG k 0 = [0]
 | 0 => rfl
 | _ + 1 => rfl
theorem numG_same : ∀ k m n, n ≤ k → n ≤ m → numG k n = numG m n
 | 0, m, n, h, _ => by
  obtain rfl : n = 0 := by omega
  rw [numG_zero, numG_zero]
 | k + 1, 0, n, _, h => by
  obtain rfl : n = 0 := by omega
  rw [numG_zero, numG_zero]
 | k + 1, m + 1, n, h1, h2 => by
  by_cases h : n < 128
  ·simp only [numG, if_pos h]
  ·simp only [numG, if_neg h]
   rw [numG_same k m (n / 128) (by omega) (by omega)]
theorem numB_small {n : Nat} (h : n < 128) : numB n = [n] := by
 unfold numB
 cases n with
 | zero => rfl
 | succ n => rw [numG, if_pos h]
theorem numB_big {n : Nat} (h : ¬ n < 128) : numB n = (n % 128 + 128) :: numB (n / 128) := by
 unfold numB
 cases n with
 | zero => omega
 | succ n => rw [numG, if_neg h, numG_same n ((n + 1) / 128) ((n + 1) / 128) (by omega) (by omega)]
theorem numB_lt (n : Nat) : ∀ b ∈ numB n, b < 256 := by
 induction n using Nat.strongRecOn with
 | ind n ih =>
  intro b hb
  by_cases h : n < 128
  ·rw [numB_small h] at hb
   simp at hb
   omega
  ·rw [numB_big h] at hb
   simp only [List.mem_cons] at hb
   rcases hb with rfl | hb
   ·omega
   ·exact ih (n / 128) (by omega) b hb
theorem numB_pos (n : Nat) : 0 < (numB n).length := by
 by_cases h : n < 128
 ·rw [numB_small h]; simp
 ·rw [numB_big h]; simp
theorem numB_len (k : Nat) : ∀ n, n < 2 ^ (7 * k + 7) → (numB n).length ≤ k + 1 := by
 induction k with
 | zero =>
  intro n hn
  rw [numB_small (by simpa using hn)]
  simp
 | succ k ih =>
  intro n hn
  by_cases h : n < 128
  ·rw [numB_small h]; simp
  ·rw [numB_big h]
   have : n / 128 < 2 ^ (7 * k + 7) := by
    rw [Nat.div_lt_iff_lt_mul (by decide)]
    have : (2 : Nat) ^ (7 * (k + 1) + 7) = 2 ^ (7 * k + 7) * 128 := by rw [show 7 * (k + 1) + 7 = (7 * k + 7) + 7 by omega, Nat.pow_add]
    omega
   have := ih _ this
   simp
   omega
theorem numB_ten {n : Nat} (h : n < 18446744073709551616) : (numB n).length ≤ 10 := numB_len 9 n (by omega)
def zig (i : Int) : Nat := if 0 ≤ i then (2 * i).toNat else (-2 * i - 1).toNat
def unzig (n : Nat) : Int := if n % 2 = 0 then ((n / 2 : Nat) : Int) else -((n / 2 : Nat) : Int) - 1
theorem unzig_zig (i : Int) : unzig (zig i) = i := by
 unfold zig unzig
 split <;> split <;> omega
theorem zig_lt {i : Int} (h0 : -9223372036854775808 ≤ i) (h1 : i ≤ 9223372036854775807) : zig i < 18446744073709551616 := by
 unfold zig
 split <;> omega
def rdNum (i acc : Nat) : List Nat → Nat ⊕ (Nat × List Nat)
 | [] => .inl 2
 | b :: l => if (0 < i ∧ b = 0) ∨ (i = 9 ∧ 1 < b) then .inl 3 else if b < 128 then .inr (acc + b * 2 ^ (7 * i), l) else rdNum (i + 1) (acc + (b - 128) * 2 ^ (7 * i)) l
theorem pow_step (i : Nat) : 2 ^ (7 * (i + 1)) = 128 * 2 ^ (7 * i) := by
 rw [show 7 * (i + 1) = 7 + 7 * i by omega, Nat.pow_add]
theorem room_step {n i : Nat} (hi : i ≤ 8) (h : n < 2 ^ (64 - 7 * i)) : n / 128 < 2 ^ (64 - 7 * (i + 1)) := by
 rw [Nat.div_lt_iff_lt_mul (by decide)]
 have : (2 : Nat) ^ (64 - 7 * i) = 2 ^ (64 - 7 * (i + 1)) * 128 := by rw [show 64 - 7 * i = (64 - 7 * (i + 1)) + 7 by omega, Nat.pow_add]
 omega
theorem room_nine {n : Nat} (h : n < 2 ^ (64 - 7 * 9)) : n < 2 := by simpa using h
theorem rd_back (l : List Nat) : ∀ n i acc, i ≤ 9 → n < 2 ^ (64 - 7 * i) → (0 < i → 0 < n) → rdNum i acc (numB n ++ l) = .inr (acc + n * 2 ^ (7 * i), l) := by
 intro n
 induction n using Nat.strongRecOn with
 | ind n ih =>
  intro i acc hi hn h0
  by_cases h : n < 128
  ·rw [numB_small h]
   simp only [List.cons_append, List.nil_append, rdNum]
   rw [if_neg, if_pos h]
   rintro (⟨h1, h2⟩ | ⟨h1, h2⟩)
   ·have := h0 h1; omega
   ·subst h1
    have := room_nine hn
    omega
  ·rw [numB_big h]
   simp only [List.cons_append, rdNum]
   have hi9 : i ≠ 9 := by
    rintro rfl
    have := room_nine hn
    omega
   rw [if_neg, if_neg (by omega), ih (n / 128) (by omega) (i + 1) _ (by omega) (room_step (by omega) hn) (by omega)]
   ·congr 2
    rw [pow_step, show n % 128 + 128 - 128 = n % 128 by omega, Nat.add_assoc]
    congr 1
    rw [← Nat.mul_assoc, ← Nat.add_mul]
    congr 1
    omega
   ·rintro (⟨-, h2⟩ | ⟨h1, -⟩)
    ·omega
    ·exact hi9 h1
abbrev RS := List Nat × Nat
def numS (s : RS) : Nat × RS := if s.2 ≠ 0 then (0, s) else match rdNum 0 0 s.1 with
 | .inl e => (0, ([], e))
 | .inr (n, l) => (n, (l, 0))
def intS (s : RS) : Int × RS := (unzig (numS s).1, (numS s).2)
def flagS (s : RS) : Bool × RS := if s.2 ≠ 0 then (false, s) else match s.1 with
 | [] => (false, ([], 2))
 | b :: l => if 1 < b then (false, ([], 3)) else (b == 1, (l, 0))
def countS (most : Nat) (s : RS) : Nat × RS := if most < (numS s).1 then (0, ([], 4)) else numS s
def textS (most : Nat) (s : RS) : List Nat × RS :=
 if (countS most s).2.2 ≠ 0 then ([], (countS most s).2) else if (countS most s).2.1.length < (countS most s).1 then ([], ([], 2)) else ((countS most s).2.1.take (countS most s).1, ((countS most s).2.1.drop (countS most s).1, 0))
end Go.Proofs.Ytmbphlkohlggfaa

namespace Go.Proofs.Ytmbphlkohlggfaa
theorem or128 (m : Nat) : bits .or .u8 ((m % 256 : Nat) : Int) 128 = ((m % 128 + 128 : Nat) : Int) := by
 have h := u8_or_nat (m % 256) 128 (by omega) (by decide)
 have k : ∀ x, x < 256 → x ||| 128 = x % 128 + 128   := by decide +kernel
 rw [k _ (by omega)] at h
 rw [show m % 256 % 128 = m % 128 by omega] at h
 exact h
theorem xor_all (x : Nat) (h : x < 18446744073709551616) : x ^^^ 18446744073709551615 = 18446744073709551615 - x := by
 have e : 18446744073709551615 - x = 2 ^ 64 - (x + 1) := by omega
 have e1 : 18446744073709551615 = 2 ^ 64 - 1 := by decide
 rw [e]
 conv => lhs; rw [e1]
 apply Nat.eq_of_testBit_eq
 intro i
 rw [Nat.testBit_xor, Nat.testBit_two_pow_sub_one, Nat.testBit_two_pow_sub_succ (by omega)]
 by_cases hi : i < 64
 ·simp [hi]
 ·have : x.testBit i = false := Nat.testBit_lt_two_pow (Nat.lt_of_lt_of_le h (by
   have := Nat.pow_le_pow_right (n := 2) (by decide) (show 64 ≤ i by omega)
   simpa using this))
  simp [hi, this]
theorem zig_pos {i : Int} (h0 : 0 ≤ i) (h1 : i ≤ 9223372036854775807) : bits .xor .u64 (IntKind.u64.wrap (IntKind.u64.wrap i * 2)) (IntKind.u64.wrap (i / 9223372036854775808)) = ((zig i : Nat) : Int) := by
 obtain ⟨n, rfl⟩ := Int.eq_ofNat_of_zero_le h0
 rw [IntKind.wrap_u64, IntKind.wrap_u64, IntKind.wrap_u64]
 have e1 : ((n : Int) % 18446744073709551616 * 2 % 18446744073709551616) = ((2 * n : Nat) : Int) := by omega
 have e2 : ((n : Int) / 9223372036854775808 % 18446744073709551616) = ((0 : Nat) : Int) := by omega
 rw [e1, e2, u64_xor_nat _ _ (by omega) (by decide)]
 unfold zig
 rw [if_pos h0]
 simp
 omega
theorem zig_neg {i : Int} (h0 : i < 0) (h1 : -9223372036854775808 ≤ i) : bits .xor .u64 (IntKind.u64.wrap (IntKind.u64.wrap i * 2)) (IntKind.u64.wrap (i / 9223372036854775808)) = ((zig i : Nat) : Int) := by
 obtain ⟨n, hn⟩ := Int.eq_ofNat_of_zero_le (show 0 ≤ -i - 1 by omega)
 obtain rfl : i = -(n : Int) - 1 := by omega
 rw [IntKind.wrap_u64, IntKind.wrap_u64, IntKind.wrap_u64]
 have e1 : ((-(n : Int) - 1) % 18446744073709551616 * 2 % 18446744073709551616) = ((18446744073709551616 - 2 * (n + 1) : Nat) : Int) := by omega
 have e2 : ((-(n : Int) - 1) / 9223372036854775808 % 18446744073709551616) = ((18446744073709551615 : Nat) : Int) := by omega
 rw [e1, e2, u64_xor_nat _ _ (by omega) (by decide), xor_all _ (by omega)]
 unfold zig
 rw [if_neg (by omega)]
 omega
theorem zig_bits {i : Int} (h0 : -9223372036854775808 ≤ i) (h1 : i ≤ 9223372036854775807) : bits .xor .u64 (IntKind.u64.wrap (IntKind.u64.wrap i * 2)) (IntKind.u64.wrap (i / 9223372036854775808)) = ((zig i : Nat) : Int) := by
 by_cases h : 0 ≤ i
 ·exact zig_pos h h1
 ·exact zig_neg (by omega) h0
end Go.Proofs.Ytmbphlkohlggfaa

namespace Go.Proofs.Ytmbphlkohlggfaa
open Go.RowKit
set_option maxRecDepth 100000 in
set_option maxHeartbeats 1000000 in
theorem parts_any (n : Nat) (hn : n < 18446744073709551616) (w : World) :
  Calls Try.prog 113 #[.int .u64 (n : Int)] w fun e w' => ∃ t c, e = .returned (.slice t (numB n).length c) ∧ OwnR w' t c (numB n) ∧ (∀ k, blk t = some k → w.heap.size ≤ k) ∧ Off (fun _ => False) w w' := by
 have hten := numB_ten hn
 go_enter Try.func113, Try.ntmps113
 go_wp2_with fail
 go_loopw [0, 3] (fun x o wr => ∃ (m : Nat) (bs : List Nat) (t : Option Addr) (c : Nat), x = .int .u64 (m : Int) ∧ o = .slice t bs.length c ∧ m < 18446744073709551616 ∧ bs ++ numB m = numB n ∧ OwnR wr t c bs ∧ (∀ k, blk t = some k → w.heap.size ≤ k) ∧ Off (fun _ => False) w wr) (fun x _ _ => (intOf x).toNat)
 case atStart => exact ⟨n, [], none, 0, rfl, rfl, hn, rfl, OwnR.nil w, fun k hk => by simp [blk] at hk, Off.refl _ w⟩
 case round =>
  obtain ⟨m, bs, t, c, rfl, rfl, hm, heq, own, hblk, O⟩ := hrel
  have hlen : bs.length + 1 ≤ 10 := by
   have := congrArg List.length heq
   have h1 := numB_pos m
   simp at this
   omega
  have OW : Hid _ := own
  have HB : Hid _ := hblk
  have HE : Hid _ := heq
  clear own hblk heq
  by_cases h : m < 128
  ·have hd : decide ((128 : Int) ≤ (m : Int)) = false := by simp; omega
   have e2 : (m : Int) % 256 = (m : Int) := by omega
   go_wp2_with (at_builtin; refine wpList_app rfl (.tmp 14) (.tmp 17) rfl t c bs rfl (OW.out.off ((Off.refl (fun _ => False) _).alloc _) (fun _ _ _ h => h)) _ 1 [m] rfl (src_new _ _) (by simp; omega) ?_; intro t' c' w' ys hys own' off' at')
   go_ret
   rw [numB_small h] at HE
   refine ⟨t', c', by rw [← HE.out, ← hys.out]; rfl, by rw [← HE.out, ← hys.out]; exact own', fun k hk => ?_, (O.alloc _).trans off' (fun i hi hb => ?_)⟩
   ·rcases at' with a | a
    ·exact HB.out k (a ▸ hk)
    ·rw [a] at hk
     have := O.size
     simp at hk
     omega
   ·have := HB.out i hb
    omega
  ·have hd : decide ((128 : Int) ≤ (m : Int)) = true := by simp; omega
   obtain ⟨y, hy⟩ : ∃ y, y = m % 128 + 128 := ⟨_, rfl⟩
   have e2 : bits .or .u8 ((m : Int) % 256) 128 = (y : Int) := by rw [hy]; exact or128 m
   have HY : Hid _ := hy
   clear hy
   go_wp2_with (at_builtin; refine wpList_app rfl (.tmp 6) (.tmp 10) rfl t c bs rfl (OW.out.off ((Off.refl (fun _ => False) _).alloc _) (fun _ _ _ h => h)) _ 1 [y] rfl (src_new _ _) (by simp; omega) ?_; intro t' c' w' ys hys own' off' at')
   go_roundw
   case rel =>
    refine ⟨m / 128, ys, t', c', by go_num, rfl, by omega, ?_, own', fun k hk => ?_, (O.alloc _).trans off' (fun i hi hb => ?_)⟩
    ·rw [← HE.out, hys.out, numB_big h, HY.out]
     simp
    ·rcases at' with a | a
     ·exact HB.out k (a ▸ hk)
     ·rw [a] at hk
      have := O.size
      simp at hk
      omega
    ·have := HB.out i hb
     omega
   case measure => simp [intOf]; omega
theorem clone_any (t : Option Addr) (c : Nat) (bs : List Nat) (hb : bs.length ≤ 140737488355328) (w : World) (hs : Src w t c bs) :
  Calls Try.prog 91 #[.slice t bs.length c] w fun e w' => ∃ t' c', e = .returned (.slice t' bs.length c') ∧ OwnR w' t' c' bs ∧ (∀ k, blk t' = some k → w.heap.size ≤ k) ∧ Off (fun _ => False) w w' := by
 have hq := eql_nil
 rcases hs.is with ⟨rfl, rfl, rfl⟩ | ⟨ad, rfl, -⟩
 ·go_enter Try.func91, Try.ntmps91
  go_wp2
  go_ret
  exact ⟨none, 0, rfl, OwnR.nil w, fun k hk => by simp [blk] at hk, Off.refl _ w⟩
 ·have HS : Hid (Src w (some ad) c bs) := hs
  clear hs
  have L0 : OwnR (w.alloc (.cells #[] 5)) (some ⟨w.heap.size, 0, none⟩) 0 [] := ⟨World.ownsRow_lit w #[] 0 (Nat.zero_le _) (by decide) rfl⟩
  have O0 : Off (fun _ => False) w (w.alloc (.cells #[] 5)) := (Off.refl _ w).alloc _
  go_enter Try.func91, Try.ntmps91
  go_wp2_with (at_builtin; refine wpList_app rfl (.tmp 5) (.tmp 6) rfl _ 0 [] rfl L0 _ c bs rfl (HS.out.off O0 (fun _ _ _ h => h)) (by simpa using hb) ?_; intro t' c' w' ys hys own' off' at')
  go_ret
  obtain rfl : ys = bs := hys.out
  refine ⟨t', c', rfl, own', fun k hk => ?_, O0.trans off' (fun i hi hb => ?_)⟩
  ·rcases at' with a | a
   ·rw [a] at hk
    simp [blk] at hk
    omega
   ·rw [a] at hk
    simp at hk
    omega
  ·simp [blk] at hb
   omega
end Go.Proofs.Ytmbphlkohlggfaa
