/- Items of several texts. -/
import Derived.Laws.BitsAll
import Derived.Laws.Entries
import Derived.RegionCalls
import Derived.Test.YtmbphlkohlggfaaGreatAArg5
namespace Go.Proofs.YtmbphlkohlggfaaGreat
def numG : Nat → Nat → List Nat
 | 0, n => [n]
 | k + 1, n => if n < 128 then [n] else (n % 128 + 128) :: numG k (n / 128)
def numB (n : Nat) : List Nat := numG n n
theorem numG_zero : ∀ k, numG k 0 = [0]
 | 0 => rfl
 | _ + 1 => rfl
theorem numG_same : ∀ k m n, n ≤ k → n ≤ m → numG k n = numG m n
 | 0, m, n, h, _ => by
  obtain rfl : n = 0 := by omega
  rw [numG_zero, numG_zero]
 | k + 1, 0, n, _, h => by
  obtain rfl : n = 0 := by omega
  rw [numG_zero, numG_zero]
 | k + 1, m + 1, n, h1, h2 => by
  by_cases h : n < 128
  ·simp only [numG, if_pos h]
  ·simp only [numG, if_neg h]
   rw [numG_same k m (n / 128) (by omega) (by omega)]
theorem numB_small {n : Nat} (h : n < 128) : numB n = [n] := by
 unfold numB
 cases n with
 | zero => rfl
 | succ n => rw [numG, if_pos h]
theorem numB_big {n : Nat} (h : ¬ n < 128) : numB n = (n % 128 + 128) :: numB (n / 128) := by
 unfold numB
 cases n with
 | zero => omega
 | succ n => rw [numG, if_neg h, numG_same n ((n + 1) / 128) ((n + 1) / 128) (by omega) (by omega)]
theorem numB_lt (n : Nat) : ∀ b ∈ numB n, b < 256 := by
 induction n using Nat.strongRecOn with
 | ind n ih =>
  intro b hb
  by_cases h : n < 128
  ·rw [numB_small h] at hb
   simp at hb
   omega
  ·rw [numB_big h] at hb
   simp only [List.mem_cons] at hb
   rcases hb with rfl | hb
   ·omega
   ·exact ih (n / 128) (by omega) b hb
theorem numB_pos (n : Nat) : 0 < (numB n).length := by
 by_cases h : n < 128
 ·rw [numB_small h]; simp
 ·rw [numB_big h]; simp
theorem numB_len (k : Nat) : ∀ n, n < 2 ^ (7 * k + 7) → (numB n).length ≤ k + 1 := by
 induction k with
 | zero =>
  intro n hn
  rw [numB_small (by simpa using hn)]
  simp
 | succ k ih =>
  intro n hn
  by_cases h : n < 128
  ·rw [numB_small h]; simp
  ·rw [numB_big h]
   have : n / 128 < 2 ^ (7 * k + 7) := by
    rw [Nat.div_lt_iff_lt_mul (by decide)]
    have : (2 : Nat) ^ (7 * (k + 1) + 7) = 2 ^ (7 * k + 7) * 128 := by rw [show 7 * (k + 1) + 7 = (7 * k + 7) + 7 by omega, Nat.pow_add]
    omega
   have := ih _ this
   simp
   omega
theorem numB_ten {n : Nat} (h : n < 18446744073709551616) : (numB n).length ≤ 10 := numB_len 9 n (by omega)
def zig (i : Int) : Nat := if 0 ≤ i then (2 * i).toNat else (-2 * i - 1).toNat
def unzig (n : Nat) : Int := if n % 2 = 0 then ((n / 2 : Nat) : Int) else -((n / 2 : Nat) : Int) - 1
theorem zig_lt {i : Int} (h0 : -9223372036854775808 ≤ i) (h1 : i ≤ 9223372036854775807) : zig i < 18446744073709551616 := by
 unfold zig
 split <;> omega
def rdNum (i acc : Nat) : List Nat → Nat ⊕ (Nat × List Nat)
 | [] => .inl 2
 | b :: l => if (0 < i ∧ b = 0) ∨ (i = 9 ∧ 1 < b) then .inl 3 else if b < 128 then .inr (acc + b * 2 ^ (7 * i), l) else rdNum (i + 1) (acc + (b - 128) * 2 ^ (7 * i)) l
theorem pow_step (i : Nat) : 2 ^ (7 * (i + 1)) = 128 * 2 ^ (7 * i) := by
 rw [show 7 * (i + 1) = 7 + 7 * i by omega, Nat.pow_add]
theorem room_step {n i : Nat} (hi : i ≤ 8) (h : n < 2 ^ (64 - 7 * i)) : n / 128 < 2 ^ (64 - 7 * (i + 1)) := by
 rw [Nat.div_lt_iff_lt_mul (by decide)]
 have : (2 : Nat) ^ (64 - 7 * i) = 2 ^ (64 - 7 * (i + 1)) * 128 := by rw [show 64 - 7 * i = (64 - 7 * (i + 1)) + 7 by omega, Nat.pow_add]
 omega
theorem room_nine {n : Nat} (h : n < 2 ^ (64 - 7 * 9)) : n < 2 := by simpa using h
theorem rd_back (l : List Nat) : ∀ n i acc, i ≤ 9 → n < 2 ^ (64 - 7 * i) → (0 < i → 0 < n) → rdNum i acc (numB n ++ l) = .inr (acc + n * 2 ^ (7 * i), l) := by
 intro n
 induction n using Nat.strongRecOn with
 | ind n ih =>
  intro i acc hi hn h0
  by_cases h : n < 128
  ·rw [numB_small h]
   simp only [List.cons_append, List.nil_append, rdNum]
   rw [if_neg, if_pos h]
   rintro (⟨h1, h2⟩ | ⟨h1, h2⟩)
   ·have := h0 h1; omega
   ·subst h1
    have := room_nine hn
    omega
  ·rw [numB_big h]
   simp only [List.cons_append, rdNum]
   have hi9 : i ≠ 9 := by
    rintro rfl
    have := room_nine hn
    omega
   rw [if_neg, if_neg (by omega), ih (n / 128) (by omega) (i + 1) _ (by omega) (room_step (by omega) hn) (by omega)]
   ·congr 2
    rw [pow_step, show n % 128 + 128 - 128 = n % 128 by omega, Nat.add_assoc]
    congr 1
    rw [← Nat.mul_assoc, ← Nat.add_mul]
    congr 1
    omega
   ·rintro (⟨-, h2⟩ | ⟨h1, -⟩)
    ·omega
    ·exact hi9 h1
theorem rd_inv : ∀ (bs : List Nat) i acc v l, (∀ b ∈ bs, b < 256) → i ≤ 9 → rdNum i acc bs = .inr (v, l) → ∃ n, bs = numB n ++ l ∧ v = acc + n * 2 ^ (7 * i) ∧ n < 2 ^ (64 - 7 * i) ∧ (0 < i → 0 < n) := by
 intro bs
 induction bs with
 | nil => intro i acc v l _ _ h; simp [rdNum] at h
 | cons b bs ih =>
  intro i acc v l hb hi h
  simp only [rdNum] at h
  have hb0 := hb b (by simp)
  split at h
  ·cases h
  ·rename_i hc
   split at h
   ·rename_i h128
    simp only [Sum.inr.injEq, Prod.mk.injEq] at h
    obtain ⟨rfl, rfl⟩ := h
    refine ⟨b, by rw [numB_small h128]; rfl, rfl, ?_, by omega⟩
    by_cases h9 : i = 9
    ·subst h9; simp; omega
    ·refine Nat.lt_of_lt_of_le h128 ?_
     exact Nat.pow_le_pow_right (n := 2) (by decide) (show 7 ≤ 64 - 7 * i by omega)
   ·rename_i h128
    have hi9 : i ≠ 9 := by rintro rfl; exact hc (.inr ⟨rfl, by omega⟩)
    obtain ⟨n, rfl, rfl, hn, h0⟩ := ih (i + 1) _ v l (fun c hc => hb c (by simp [hc])) (by omega) h
    have hpos := h0 (by omega)
    refine ⟨n * 128 + (b - 128), ?_, ?_, ?_, fun _ => by omega⟩
    ·rw [numB_big (n := n * 128 + (b - 128)) (by omega), show (n * 128 + (b - 128)) % 128 + 128 = b by omega, show (n * 128 + (b - 128)) / 128 = n by omega]
     rfl
    ·rw [pow_step, Nat.add_mul, ← Nat.mul_assoc]
     omega
    ·have : (2 : Nat) ^ (64 - 7 * i) = 2 ^ (64 - 7 * (i + 1)) * 128 := by rw [show 64 - 7 * i = (64 - 7 * (i + 1)) + 7 by omega, Nat.pow_add]
     omega
theorem rd_err : ∀ (bs : List Nat) i acc e, rdNum i acc bs = .inl e → e = 2 ∨ e = 3 := by
 intro bs
 induction bs with
 | nil => intro i acc e h; simp [rdNum] at h; omega
 | cons b bs ih =>
  intro i acc e h
  simp only [rdNum] at h
  split at h
  ·simp only [Sum.inl.injEq] at h; omega
  ·split at h
   ·cases h
   ·exact ih _ _ _ h
abbrev RS := List Nat × Nat
def numS (s : RS) : Nat × RS := if s.2 ≠ 0 then (0, s) else match rdNum 0 0 s.1 with
 | .inl e => (0, ([], e))
 | .inr (n, l) => (n, (l, 0))
def intS (s : RS) : Int × RS := (unzig (numS s).1, (numS s).2)
def flagS (s : RS) : Bool × RS := if s.2 ≠ 0 then (false, s) else match s.1 with
 | [] => (false, ([], 2))
 | b :: l => if 1 < b then (false, ([], 3)) else (b == 1, (l, 0))
def countS (most : Nat) (s : RS) : Nat × RS := if most < (numS s).1 then (0, ([], 4)) else numS s
def textS (most : Nat) (s : RS) : List Nat × RS :=
 if (countS most s).2.2 ≠ 0 then ([], (countS most s).2) else if (countS most s).2.1.length < (countS most s).1 then ([], ([], 2)) else ((countS most s).2.1.take (countS most s).1, ((countS most s).2.1.drop (countS most s).1, 0))
def endS (s : RS) : Nat := if s.2 = 0 ∧ s.1 ≠ [] then 3 else s.2
def Ok (s : RS) : Prop := (∀ b ∈ s.1, b < 256) ∧ (s.2 ≠ 0 → s.1 = []) ∧ s.2 ≤ 4
theorem Ok.err {e : Nat} (he : e ≤ 4) : Ok ([], e) := ⟨by simp, fun _ => rfl, he⟩
theorem num_ok {s : RS} (h : Ok s) : Ok (numS s).2 ∧ (numS s).1 < 18446744073709551616 ∧ ((numS s).2.2 ≠ 0 → (numS s).1 = 0) ∧ (numS s).2.1.length ≤ s.1.length := by
 unfold numS
 split
 ·exact ⟨h, by simp, fun _ => rfl, Nat.le_refl _⟩
 ·split
  ·rename_i e he
   exact ⟨Ok.err (by have := rd_err _ _ _ _ he; omega), by simp, fun _ => rfl, by simp⟩
  ·rename_i n l he
   obtain ⟨m, h1, h2, h3, -⟩ := rd_inv _ _ _ _ _ h.1 (by omega) he
   refine ⟨⟨fun b hb => h.1 b (by rw [h1]; simp [hb]), by simp, by simp⟩, by simp at h2 h3; omega, by simp, by rw [h1]; simp⟩
theorem flag_ok {s : RS} (h : Ok s) : Ok (flagS s).2 := by
 unfold flagS
 split
 ·exact h
 ·split
  ·exact Ok.err (by omega)
  ·rename_i b l hs
   split
   ·exact Ok.err (by omega)
   ·exact ⟨fun c hc => h.1 c (by rw [hs]; simp at hc; simp [hc]), by simp, by simp⟩
theorem count_ok (most : Nat) {s : RS} (h : Ok s) : Ok (countS most s).2 ∧ (countS most s).1 ≤ most ∧ ((countS most s).2.2 ≠ 0 → (countS most s).1 = 0) ∧ (countS most s).2.1.length ≤ s.1.length := by
 have hn := num_ok h
 unfold countS
 split
 ·exact ⟨Ok.err (by omega), by simp, fun _ => rfl, by simp⟩
 ·exact ⟨hn.1, by omega, hn.2.2.1, hn.2.2.2⟩
theorem text_ok (most : Nat) {s : RS} (h : Ok s) : Ok (textS most s).2 := by
 have hn := count_ok most h
 unfold textS
 split
 ·exact hn.1
 ·split
  ·exact Ok.err (by omega)
  ·exact ⟨fun b hb => hn.1.1 b (List.mem_of_mem_drop hb), by simp, by simp⟩
end Go.Proofs.YtmbphlkohlggfaaGreat

namespace Go.Proofs.YtmbphlkohlggfaaGreat
theorem or128 (m : Nat) : bits .or .u8 ((m % 256 : Nat) : Int) 128 = ((m % 128 + 128 : Nat) : Int) := by
 have h := u8_or_nat (m % 256) 128 (by omega) (by decide)
 have k : ∀ x, x < 256 → x ||| 128 = x % 128 + 128   := by decide +kernel
 rw [k _ (by omega)] at h
 rw [show m % 256 % 128 = m % 128 by omega] at h
 exact h
theorem andNot128 (b : Nat) (h : b < 256) : bits .andNot .u8 (b : Int) 128 = ((b % 128 : Nat) : Int) := by
 have h1 := u8_andNot_nat b 128 h (by decide)
 have k : ∀ x, x < 256 → x &&& (255 - 128) = x % 128   := by decide +kernel
 rw [k _ h] at h1
 exact h1
theorem and127 (b : Nat) (h : b < 256) : bits .and .u8 (b : Int) 127 = ((b % 128 : Nat) : Int) := by
 have h1 := u8_and_nat b 127 h (by decide)
 have k : ∀ x, x < 256 → x &&& 127 = x % 128   := by decide +kernel
 rw [k _ h] at h1
 exact h1
theorem or_add {a c i : Nat} (ha : a < 2 ^ i) (h : a + c * 2 ^ i < 18446744073709551616) : bits .or .u64 (a : Int) ((c * 2 ^ i : Nat) : Int) = ((a + c * 2 ^ i : Nat) : Int) := by
 have h1 := u64_or_nat a (c * 2 ^ i) (by omega) (by omega)
 rw [h1]
 congr 1
 have h2 := Nat.shiftLeft_add_eq_or_of_lt ha c
 rw [Nat.shiftLeft_eq] at h2
 rw [Nat.or_comm, ← h2]
 omega
theorem shl_at {c i : Nat} (hi : i ≤ 9) (h : c * 2 ^ (7 * i) < 18446744073709551616) (yk : IntKind) : Op.shift .shl .u64 (c : Int) yk ((7 * i : Nat) : Int) = pure (.int .u64 ((c * 2 ^ (7 * i) : Nat) : Int)) := by
 rw [shift_shl .u64 yk _ _ (by omega) (by simp [IntKind.bits]; omega)]
 congr 2
 rw [show ((7 * i : Nat) : Int).toNat = 7 * i by omega, IntKind.wrap_u64]
 have : ((c : Int) * 2 ^ (7 * i)) = ((c * 2 ^ (7 * i) : Nat) : Int) := by push_cast; rfl
 rw [this]
 omega
theorem xor_all (x : Nat) (h : x < 18446744073709551616) : x ^^^ 18446744073709551615 = 18446744073709551615 - x := by
 have e : 18446744073709551615 - x = 2 ^ 64 - (x + 1) := by omega
 have e1 : 18446744073709551615 = 2 ^ 64 - 1 := by decide
 rw [e]
 conv => lhs; rw [e1]
 apply Nat.eq_of_testBit_eq
 intro i
 rw [Nat.testBit_xor, Nat.testBit_two_pow_sub_one, Nat.testBit_two_pow_sub_succ (by omega)]
 by_cases hi : i < 64
 ·simp [hi]
 ·have : x.testBit i = false := Nat.testBit_lt_two_pow (Nat.lt_of_lt_of_le h (by
   have := Nat.pow_le_pow_right (n := 2) (by decide) (show 64 ≤ i by omega)
   simpa using this))
  simp [hi, this]
theorem zig_pos {i : Int} (h0 : 0 ≤ i) (h1 : i ≤ 9223372036854775807) : bits .xor .u64 (IntKind.u64.wrap (IntKind.u64.wrap i * 2)) (IntKind.u64.wrap (i / 9223372036854775808)) = ((zig i : Nat) : Int) := by
 obtain ⟨n, rfl⟩ := Int.eq_ofNat_of_zero_le h0
 rw [IntKind.wrap_u64, IntKind.wrap_u64, IntKind.wrap_u64]
 have e1 : ((n : Int) % 18446744073709551616 * 2 % 18446744073709551616) = ((2 * n : Nat) : Int) := by omega
 have e2 : ((n : Int) / 9223372036854775808 % 18446744073709551616) = ((0 : Nat) : Int) := by omega
 rw [e1, e2, u64_xor_nat _ _ (by omega) (by decide)]
 unfold zig
 rw [if_pos h0]
 simp
 omega
theorem zig_neg {i : Int} (h0 : i < 0) (h1 : -9223372036854775808 ≤ i) : bits .xor .u64 (IntKind.u64.wrap (IntKind.u64.wrap i * 2)) (IntKind.u64.wrap (i / 9223372036854775808)) = ((zig i : Nat) : Int) := by
 obtain ⟨n, hn⟩ := Int.eq_ofNat_of_zero_le (show 0 ≤ -i - 1 by omega)
 obtain rfl : i = -(n : Int) - 1 := by omega
 rw [IntKind.wrap_u64, IntKind.wrap_u64, IntKind.wrap_u64]
 have e1 : ((-(n : Int) - 1) % 18446744073709551616 * 2 % 18446744073709551616) = ((18446744073709551616 - 2 * (n + 1) : Nat) : Int) := by omega
 have e2 : ((-(n : Int) - 1) / 9223372036854775808 % 18446744073709551616) = ((18446744073709551615 : Nat) : Int) := by omega
 rw [e1, e2, u64_xor_nat _ _ (by omega) (by decide), xor_all _ (by omega)]
 unfold zig
 rw [if_neg (by omega)]
 omega
theorem zig_bits {i : Int} (h0 : -9223372036854775808 ≤ i) (h1 : i ≤ 9223372036854775807) : bits .xor .u64 (IntKind.u64.wrap (IntKind.u64.wrap i * 2)) (IntKind.u64.wrap (i / 9223372036854775808)) = ((zig i : Nat) : Int) := by
 by_cases h : 0 ≤ i
 ·exact zig_pos h h1
 ·exact zig_neg (by omega) h0
theorem u64_odd (n : Nat) (h : n < 18446744073709551616) : bits .and .u64 (n : Int) 1 = ((n % 2 : Nat) : Int) := by
 have := u64_and_nat n 1 h (by decide)
 rw [Nat.and_one_is_mod] at this
 exact this
theorem xor_none (a : Nat) (ha : a < 9223372036854775808) : bits .xor .i64 (a : Int) 0 = (a : Int) := by
 show IntKind.i64.wrap ((BitVec.ofInt 64 (a : Int) ^^^ BitVec.ofInt 64 0).toNat : Int) = _
 have h1 : BitVec.ofInt 64 0 = 0#64 := by decide
 rw [h1, BitVec.xor_zero, ofInt_u64 a (by omega)]
 simp [IntKind.wrap, IntKind.bits, IntKind.signed]
 omega
theorem xor_ones (a : Nat) (ha : a < 9223372036854775808) : bits .xor .i64 (a : Int) (-1) = -(a : Int) - 1 := by
 show IntKind.i64.wrap ((BitVec.ofInt 64 (a : Int) ^^^ BitVec.ofInt 64 (-1)).toNat : Int) = _
 have h1 : BitVec.ofInt 64 (-1) = BitVec.allOnes 64 := by decide
 rw [h1, BitVec.xor_allOnes, BitVec.toNat_not, ofInt_u64 a (by omega)]
 simp [IntKind.wrap, IntKind.bits, IntKind.signed]
 omega
end Go.Proofs.YtmbphlkohlggfaaGreat

namespace Go.Proofs.YtmbphlkohlggfaaGreat
open Go.RowKit
set_option maxRecDepth 100000 in
set_option maxHeartbeats 1000000 in
theorem parts_any (n : Nat) (hn : n < 18446744073709551616) (w : World) :
  Calls Tryz.prog 108 #[.int .u64 (n : Int)] w fun e w' => ∃ t c, e = .returned (.slice t (numB n).length c) ∧ OwnR w' t c (numB n) ∧ (∀ k, blk t = some k → w.heap.size ≤ k) ∧ Off (fun _ => False) w w' := by
 have hten := numB_ten hn
 go_enter Tryz.func108, Tryz.ntmps108
 go_wp2_with fail
 go_loopw [0, 3] (fun x o wr => ∃ (m : Nat) (bs : List Nat) (t : Option Addr) (c : Nat), x = .int .u64 (m : Int) ∧ o = .slice t bs.length c ∧ m < 18446744073709551616 ∧ bs ++ numB m = numB n ∧ OwnR wr t c bs ∧ (∀ k, blk t = some k → w.heap.size ≤ k) ∧ Off (fun _ => False) w wr) (fun x _ _ => (intOf x).toNat)
 case atStart => exact ⟨n, [], none, 0, rfl, rfl, hn, rfl, OwnR.nil w, fun k hk => by simp [blk] at hk, Off.refl _ w⟩
 case round =>
  obtain ⟨m, bs, t, c, rfl, rfl, hm, heq, own, hblk, O⟩ := hrel
  have hlen : bs.length + 1 ≤ 10 := by
   have := congrArg List.length heq
   have h1 := numB_pos m
   simp at this
   omega
  have OW : Hid _ := own
  have HB : Hid _ := hblk
  have HE : Hid _ := heq
  clear own hblk heq
  by_cases h : m < 128
  ·have hd : decide ((128 : Int) ≤ (m : Int)) = false := by simp; omega
   have e2 : (m : Int) % 256 = (m : Int) := by omega
   go_wp2_with (at_builtin; refine wpList_app rfl (.tmp 14) (.tmp 17) rfl t c bs rfl (OW.out.off ((Off.refl (fun _ => False) _).alloc _) (fun _ _ _ h => h)) _ 1 [m] rfl (src_new _ _) (by simp; omega) ?_; intro t' c' w' ys hys own' off' at')
   go_ret
   rw [numB_small h] at HE
   refine ⟨t', c', by rw [← HE.out, ← hys.out]; rfl, by rw [← HE.out, ← hys.out]; exact own', fun k hk => ?_, (O.alloc _).trans off' (fun i hi hb => ?_)⟩
   ·rcases at' with a | a
    ·exact HB.out k (a ▸ hk)
    ·rw [a] at hk
     have := O.size
     simp at hk
     omega
   ·have := HB.out i hb
    omega
  ·have hd : decide ((128 : Int) ≤ (m : Int)) = true := by simp; omega
   obtain ⟨y, hy⟩ : ∃ y, y = m % 128 + 128 := ⟨_, rfl⟩
   have e2 : bits .or .u8 ((m : Int) % 256) 128 = (y : Int) := by rw [hy]; exact or128 m
   have HY : Hid _ := hy
   clear hy
   go_wp2_with (at_builtin; refine wpList_app rfl (.tmp 6) (.tmp 10) rfl t c bs rfl (OW.out.off ((Off.refl (fun _ => False) _).alloc _) (fun _ _ _ h => h)) _ 1 [y] rfl (src_new _ _) (by simp; omega) ?_; intro t' c' w' ys hys own' off' at')
   go_roundw
   case rel =>
    refine ⟨m / 128, ys, t', c', by go_num, rfl, by omega, ?_, own', fun k hk => ?_, (O.alloc _).trans off' (fun i hi hb => ?_)⟩
    ·rw [← HE.out, hys.out, numB_big h, HY.out]
     simp
    ·rcases at' with a | a
     ·exact HB.out k (a ▸ hk)
     ·rw [a] at hk
      have := O.size
      simp at hk
      omega
    ·have := HB.out i hb
     omega
   case measure => simp [intOf]; omega
theorem clone_any (t : Option Addr) (c : Nat) (bs : List Nat) (hb : bs.length ≤ 140737488355328) (w : World) (hs : Src w t c bs) :
  Calls Tryz.prog 44 #[.slice t bs.length c] w fun e w' => ∃ t' c', e = .returned (.slice t' bs.length c') ∧ OwnR w' t' c' bs ∧ (∀ k, blk t' = some k → w.heap.size ≤ k) ∧ Off (fun _ => False) w w' := by
 have hq := eql_nil
 rcases hs.is with ⟨rfl, rfl, rfl⟩ | ⟨ad, rfl, -⟩
 ·go_enter Tryz.func44, Tryz.ntmps44
  go_wp2
  go_ret
  exact ⟨none, 0, rfl, OwnR.nil w, fun k hk => by simp [blk] at hk, Off.refl _ w⟩
 ·have HS : Hid (Src w (some ad) c bs) := hs
  clear hs
  have L0 : OwnR (w.alloc (.cells #[] 5)) (some ⟨w.heap.size, 0, none⟩) 0 [] := ⟨World.ownsRow_lit w #[] 0 (Nat.zero_le _) (by decide) rfl⟩
  have O0 : Off (fun _ => False) w (w.alloc (.cells #[] 5)) := (Off.refl _ w).alloc _
  go_enter Tryz.func44, Tryz.ntmps44
  go_wp2_with (at_builtin; refine wpList_app rfl (.tmp 5) (.tmp 6) rfl _ 0 [] rfl L0 _ c bs rfl (HS.out.off O0 (fun _ _ _ h => h)) (by simpa using hb) ?_; intro t' c' w' ys hys own' off' at')
  go_ret
  obtain rfl : ys = bs := hys.out
  refine ⟨t', c', rfl, own', fun k hk => ?_, O0.trans off' (fun i hi hb => ?_)⟩
  ·rcases at' with a | a
   ·rw [a] at hk
    simp [blk] at hk
    omega
   ·rw [a] at hk
    simp at hk
    omega
  ·simp [blk] at hb
   omega
end Go.Proofs.YtmbphlkohlggfaaGreat

namespace Go.Proofs.YtmbphlkohlggfaaGreat
open Go.RowKit
def putS (most : Nat) : Option (List Nat) → List Nat → Option (List Nat)
 | none, _ => none
 | some bs, x => if bs.length + x.length ≤ most then some (bs ++ x) else none
structure Wtr (D : Nat → Prop) (b most : Nat) (st : Option (List Nat)) (w : World) : Prop where
 here : D b
 lt : ∀ c, D c → c < w.heap.size
 bound : most ≤ 9223372036854775807
 is : (st = none ∧ Cel b 124 #[.int .i64 (most : Int), .slice none 0 0, .bool true] w) ∨
  ∃ bs tad cap, st = some bs ∧ Cel b 124 #[.int .i64 (most : Int), .slice tad bs.length cap, .bool false] w ∧ OwnR w tad cap bs ∧ ∀ k, blk tad = some k → D k ∧ k ≠ b
theorem Wtr.off {D E : Nat → Prop} {b most : Nat} {st : Option (List Nat)} {w w' : World} (h : Wtr D b most st w) (o : Off E w w') (hD : ∀ c, c < w.heap.size → D c → ¬ E c) : Wtr D b most st w' := by
 refine ⟨h.here, fun c hc => Nat.lt_of_lt_of_le (h.lt c hc) o.size, h.bound, ?_⟩
 rcases h.is with ⟨rfl, h1⟩ | ⟨bs, tad, cap, rfl, h1, h2, h3⟩
 ·exact .inl ⟨rfl, h1.off o (hD b h1.lt h.here)⟩
 ·exact .inr ⟨bs, tad, cap, rfl, h1.off o (hD b h1.lt h.here), h2.off o (fun c hc hb => hD c hc (h3 c hb).1), h3⟩
theorem blk_ne {D : Nat → Prop} {t1 tad : Option Addr} {b N : Nat} (at1 : blk t1 = blk tad ∨ blk t1 = some N) (h : ∀ k, blk tad = some k → D k ∧ k ≠ b) (hb : b < N) : ∀ c, blk t1 = some c → (D c ∨ N ≤ c) ∧ c ≠ b := by
 intro c e
 rcases at1 with a | a
 ·have := h c (a ▸ e)
  exact ⟨.inl this.1, this.2⟩
 ·rw [a] at e
  simp at e
  exact ⟨.inr (by omega), by omega⟩
theorem newWriter_any (m : Int) (hm : m ≤ 9223372036854775807) (w : World) :
  Calls Tryz.prog 33 #[.int .i64 m] w fun e w' => e = .returned (.pointer (some ⟨w.heap.size, 0, none⟩)) ∧ Wtr (fun c => c = w.heap.size) w.heap.size m.toNat (some []) w' ∧ Off (fun _ => False) w w' := by
 go_enter Tryz.func33, Tryz.ntmps33
 go_wp2
 all_goals go_ret
 all_goals refine ⟨rfl, ⟨rfl, fun c hc => by simp [hc], by omega, .inr ⟨[], none, 0, rfl, by (first | (rw [show ((m.toNat : Nat) : Int) = m by omega]; exact Cel.new w _ _) | (rw [show ((m.toNat : Nat) : Int) = 0 by omega]; exact Cel.new w _ _)), OwnR.nil _, fun k hk => by simp [blk] at hk⟩⟩, (Off.refl _ w).alloc _⟩
set_option maxRecDepth 100000 in
set_option maxHeartbeats 1000000 in
theorem add_any {D : Nat → Prop} {b most : Nat} {st : Option (List Nat)} {w : World} (hW : Wtr D b most st w) (ht : Option Addr) (hc : Nat) (hb : List Nat) (hh : Src w ht hc hb) (bt : Option Addr) (bc : Nat) (bb : List Nat) (hbody : ∀ w', Off D w w' → Src w' bt bc bb)
  (hsz : (st.getD []).length + hb.length + bb.length ≤ 140737488355328 ∨ most ≤ 140737488355328 ∧ (st.getD []).length ≤ most ∧ hb.length + bb.length ≤ 281474976710656) :
  Calls Tryz.prog 107 #[.pointer (some ⟨b, 0, none⟩), .slice ht hb.length hc, .slice bt bb.length bc] w fun e w' => e = .returned (.tuple #[]) ∧ ∃ D', Wtr D' b most (putS most st (hb ++ bb)) w' ∧ Off D w w' ∧ ∀ c, D' c → D c ∨ w.heap.size ≤ c := by
 have HW := hW
 rcases hW.is with ⟨rfl, h1⟩ | ⟨bs, tad, cap, rfl, h1, h2, h3⟩
 ·have c2 : w.cell? ⟨b, 2, none⟩ = some (.bool true) := by rw [h1.cell]; rfl
  clear h1 hW
  go_enter Tryz.func107, Tryz.ntmps107
  go_wp2_with fail
  refine bodyPost_ret (results_none rfl _ _ _) rfl ?_
  exact ⟨rfl, D, HW, Off.refl _ _, fun c h => .inl h⟩
 ·have hmost := hW.bound
  simp only [Option.getD_some] at hsz
  have hbb : hb.length + bb.length ≤ 281474976710656 ∧ bs.length ≤ 140737488355328 := by omega
  obtain ⟨hbb, hbs⟩ := hbb
  have c0 : w.cell? ⟨b, 0, none⟩ = some (.int .i64 (most : Int)) := by rw [h1.cell]; rfl
  have c1 : w.cell? ⟨b, 1, none⟩ = some (.slice tad bs.length cap) := by rw [h1.cell]; rfl
  have c2 : w.cell? ⟨b, 2, none⟩ = some (.bool false) := by rw [h1.cell]; rfl
  have f1 := h1.free 1
  have f2 := h1.free 2
  have H1 : Hid (Cel b 124 #[.int .i64 (most : Int), .slice tad bs.length cap, .bool false] w) := h1
  have H2 : Hid (OwnR w tad cap bs) := h2
  have H3 : Hid (∀ k, blk tad = some k → D k ∧ k ≠ b) := h3
  have HB : Hid (∀ w', Off D w w' → Src w' bt bc bb) := hbody
  have HS : Hid (Src w ht hc hb) := hh
  clear h1 h2 h3 hbody hh hW
  by_cases hfit : bs.length + (hb.length + bb.length) ≤ most
  ·have hput : putS most (some bs) (hb ++ bb) = some (bs ++ hb ++ bb) := by simp [putS, hfit]
   have HP : Hid _ := hput
   clear hput
   have hd : decide ((most : Int) - (bs.length : Int) < (hb.length : Int) + (bb.length : Int)) = false := by simp; omega
   go_enter Tryz.func107, Tryz.ntmps107
   go_wp2_with fail
   go_region
   go_wp2_with (first
    | (at_builtin; refine wpList_app rfl (.tmp 40) (.tmp 41) rfl tad cap bs rfl (H2.out.off ((Off.refl (fun _ => False) _).drew) (fun _ _ _ h => h)) ht hc hb rfl (HS.out.off ((Off.refl (fun _ => False) _).drew) (fun _ _ _ h => h)) (by omega) ?_; intro t1 cc1 w1 y1 hy1 own1 off1 at1; have P1 : Cel b 124 _ w1 := H1.out.drew.off off1 (fun e => (H3.out b e).2 rfl); have p1 : w1.cell? ⟨b, 1, none⟩ = some (.slice tad bs.length cap) := (P1.cell 1).trans rfl; have g1 := P1.free 1; have O1 : Off D w w1 := ((Off.refl D w).drew).trans off1 (fun i _ e => (H3.out i e).1); have N1 : Hid _ := blk_ne at1 H3.out H1.out.lt; have OW1 : Hid (OwnR w1 t1 cc1 y1) := own1; have S1 := O1.size; have Q1 : Hid _ := P1; clear own1 off1 at1 P1)
    | (at_builtin; refine wpList_app rfl (.tmp 49) (.tmp 50) rfl t1 cc1 y1 rfl (OW1.out.off ((Off.refl (fun c => c = b) _).setCell (.inl rfl) _) (fun c _ e h => (N1.out c e).2 h)) bt bc bb rfl (HB.out _ (O1.setCell (.inl HW.here) _)) (by rw [hy1.out]; simp; omega) ?_; intro t2 cc2 w2 y2 hy2 own2 off2 at2; have P2 : Cel b 124 _ w2 := (Cel.set Q1.out 1 _).off off2 (fun e => (N1.out b e).2 rfl); have p2 : w2.cell? ⟨b, 1, none⟩ = some (.slice t1 y1.length cc1) := (P2.cell 1).trans rfl; have g2 := P2.free 1; have N2 : Hid _ := blk_ne (N := (w1.setCell ⟨b, 1, none⟩ (.slice t1 y1.length cc1)).heap.size) at2 N1.out (Q1.out.set 1 _).lt; have O2 : Off (fun c => D c ∨ w.heap.size ≤ c) w w2 := ((O1.setCell (p := ⟨b, 1, none⟩) (.inl HW.here) (.slice t1 y1.length cc1)).mono (fun _ _ h => .inl h)).trans off2 (fun i _ e => (N1.out i e).1)))
   go_end0
   have hD : ∀ c, blk t2 = some c → D c ∨ w.heap.size ≤ c := by
    intro c e
    rcases (N2.out c e).1 with (h | h) | h
    ·exact .inl h
    ·exact .inr h
    ·simp at h
     exact .inr (by omega)
   have S2 := O2.size
   refine ⟨rfl, fun c => c = b ∨ blk t2 = some c, ?_, (O2.mono (fun i hi h => h.elim id (fun h => by omega))).setCell (.inl HW.here) _, ?_⟩
   ·rw [HP.out]
    refine ⟨.inl rfl, fun c h => ?_, hmost, .inr ⟨y2, t2, cc2, by rw [hy2.out, hy1.out], P2.set 1 _, own2.off ((Off.refl (fun c => c = b) _).setCell (.inl rfl) _) (fun c _ e h => (N2.out c e).2 h), fun k hk => ⟨.inr hk, (N2.out k hk).2⟩⟩⟩
    rcases h with h | h
    ·have := HW.lt b HW.here
     simp
     omega
    ·have := own2.lt c h
     simpa using this
   ·rintro c (rfl | h)
    ·exact .inl HW.here
    ·exact hD c h
  ·have hput : putS most (some bs) (hb ++ bb) = none := by simp [putS]; omega
   have HP : Hid _ := hput
   clear hput
   have hd : decide ((most : Int) - (bs.length : Int) < (hb.length : Int) + (bb.length : Int)) = true := by simp; omega
   go_enter Tryz.func107, Tryz.ntmps107
   go_wp2_with fail
   go_region
   go_wp2_with fail
   refine bodyPost_ret (results_none rfl _ _ _) rfl ?_
   refine ⟨rfl, D, ?_, ?_, fun c h => .inl h⟩
   ·rw [HP.out]
    refine ⟨HW.here, fun c h => by simpa using HW.lt c h, hmost, .inl ⟨rfl, ?_⟩⟩
    exact (H1.out.drew.set 1 _).set 2 _
   ·exact (((Off.refl D w).drew).setCell (.inl HW.here) _).setCell (.inl HW.here) _
end Go.Proofs.YtmbphlkohlggfaaGreat

namespace Go.Proofs.YtmbphlkohlggfaaGreat
open Go.RowKit
def Put (D : Nat → Prop) (b most : Nat) (st : Option (List Nat)) (x : List Nat) (w w' : World) : Prop := ∃ D', Wtr D' b most (putS most st x) w' ∧ Off D w w' ∧ ∀ c, D' c → D c ∨ w.heap.size ≤ c
theorem Put.after {D : Nat → Prop} {b most : Nat} {st : Option (List Nat)} {x : List Nat} {w w1 w' : World} (o : Off (fun _ => False) w w1) (h : Put D b most st x w1 w') : Put D b most st x w w' := by
 obtain ⟨D', h1, h2, h3⟩ := h
 exact ⟨D', h1, (o.mono (fun _ _ h => h.elim)).trans h2 (fun _ _ h => h), fun c hc => (h3 c hc).imp id (fun h => Nat.le_trans o.size h)⟩
theorem wnum_any {D : Nat → Prop} {b most : Nat} {st : Option (List Nat)} {w : World} (hW : Wtr D b most st w) (n : Nat) (hn : n < 18446744073709551616) (hsz : (st.getD []).length + 10 ≤ 140737488355328 ∨ most ≤ 140737488355328 ∧ (st.getD []).length ≤ most) :
  Calls Tryz.prog 71 #[.pointer (some ⟨b, 0, none⟩), .int .u64 (n : Int)] w fun e w' => e = .returned (.tuple #[]) ∧ Put D b most st (numB n) w w' := by
 have hten := numB_ten hn
 go_enter Tryz.func71, Tryz.ntmps71
 go_wp2_with fail
 refine (parts_any n hn w).mono ?_
 rintro e w1 ⟨t, c, rfl, own, hblk, off⟩
 go_wp2_with fail
 refine (add_any (hW.off off (fun _ _ _ h => h)) t c (numB n) own.src none 0 [] (fun w' _ => Src.nil w') (by simp only [List.length_nil]; omega)).mono ?_
 rintro e w2 ⟨rfl, P⟩
 go_wp2_with fail
 go_end0
 rw [List.append_nil] at P
 exact ⟨rfl, Put.after off P⟩
theorem wtext_any {D : Nat → Prop} {b most : Nat} {st : Option (List Nat)} {w : World} (hW : Wtr D b most st w) (bt : Option Addr) (bc : Nat) (bb : List Nat) (hbody : ∀ w', Off D w w' → Src w' bt bc bb) (hsz : (st.getD []).length + 10 + bb.length ≤ 140737488355328 ∨ most ≤ 140737488355328 ∧ (st.getD []).length ≤ most ∧ bb.length ≤ 140737488351232) :
  Calls Tryz.prog 73 #[.pointer (some ⟨b, 0, none⟩), .slice bt bb.length bc] w fun e w' => e = .returned (.tuple #[]) ∧ Put D b most st (numB bb.length ++ bb) w w' := by
 have hn : bb.length < 18446744073709551616 := by omega
 have hten := numB_ten hn
 have HB : Hid _ := hbody
 clear hbody
 go_enter Tryz.func73, Tryz.ntmps73
 go_wp2_with fail
 refine (parts_any bb.length hn w).mono ?_
 rintro e w1 ⟨t, c, rfl, own, hblk, off⟩
 go_wp2_with fail
 refine (add_any (hW.off off (fun _ _ _ h => h)) t c (numB bb.length) own.src bt bc bb (fun w' o => HB.out w' ((off.mono (fun _ _ h => h.elim)).trans o (fun _ _ h => h))) (by omega)).mono ?_
 rintro e w2 ⟨rfl, P⟩
 go_wp2_with fail
 go_end0
 exact ⟨rfl, Put.after off P⟩
theorem wint_any {D : Nat → Prop} {b most : Nat} {st : Option (List Nat)} {w : World} (hW : Wtr D b most st w) (i : Int) (h0 : -9223372036854775808 ≤ i) (h1 : i ≤ 9223372036854775807) (hsz : (st.getD []).length + 10 ≤ 140737488355328 ∨ most ≤ 140737488355328 ∧ (st.getD []).length ≤ most) :
  Calls Tryz.prog 72 #[.pointer (some ⟨b, 0, none⟩), .int .i64 i] w fun e w' => e = .returned (.tuple #[]) ∧ Put D b most st (numB (zig i)) w w' := by
 obtain ⟨z, hz⟩ : ∃ z, z = zig i := ⟨_, rfl⟩
 have hlt : z < 18446744073709551616 := hz ▸ zig_lt h0 h1
 have hb := zig_bits h0 h1
 rw [← hz] at hb ⊢
 clear hz
 go_enter Tryz.func72, Tryz.ntmps72
 go_wp2_with fail
 refine (wnum_any hW z hlt hsz).mono ?_
 rintro e w1 ⟨rfl, P⟩
 go_wp2_with fail
 go_end0
 exact ⟨rfl, P⟩
def errW : Option (List Nat) → Nat
 | none => 4
 | some _ => 0
theorem done_any {D : Nat → Prop} {b most : Nat} {st : Option (List Nat)} {w : World} (hW : Wtr D b most st w) (hsz : (st.getD []).length ≤ 140737488355328) :
  Calls Tryz.prog 35 #[.pointer (some ⟨b, 0, none⟩)] w fun e w' => ∃ t c, e = .returned (.tuple #[.slice t (st.getD []).length c, .int .i64 ((errW st : Nat) : Int)]) ∧ OwnR w' t c (st.getD []) ∧ (∀ k, blk t = some k → w.heap.size ≤ k) ∧ Off (fun _ => False) w w' := by
 rcases hW.is with ⟨rfl, h1⟩ | ⟨bs, tad, cap, rfl, h1, h2, h3⟩
 ·have c2 : w.cell? ⟨b, 2, none⟩ = some (.bool true) := by rw [h1.cell]; rfl
  clear h1
  go_enter Tryz.func35, Tryz.ntmps35
  go_wp2_with fail
  go_ret2
  exact ⟨none, 0, rfl, OwnR.nil w, fun k hk => by simp [blk] at hk, Off.refl _ w⟩
 ·have c1 : w.cell? ⟨b, 1, none⟩ = some (.slice tad bs.length cap) := by rw [h1.cell]; rfl
  have c2 : w.cell? ⟨b, 2, none⟩ = some (.bool false) := by rw [h1.cell]; rfl
  clear h1
  go_enter Tryz.func35, Tryz.ntmps35
  go_wp2_with fail
  refine (clone_any tad cap bs hsz w h2.src).mono ?_
  rintro e w1 ⟨t, c, rfl, own, hblk, off⟩
  go_wp2_with fail
  go_ret2
  exact ⟨t, c, rfl, own, hblk, off⟩
end Go.Proofs.YtmbphlkohlggfaaGreat

namespace Go.Proofs.YtmbphlkohlggfaaGreat
open Go.RowKit
structure Rdr (T : TypeId) (D : Nat → Prop) (b : Nat) (s : RS) (w : World) : Prop where
 ok : Ok s
 lt : ∀ c, D c → c < w.heap.size
 ne : ¬ D b
 len : s.1.length ≤ 140737488355328
 is : ∃ tad cap, Cel b T #[.slice tad s.1.length cap, .int .i64 ((s.2 : Nat) : Int)] w ∧ Lie D w tad cap s.1
theorem Rdr.here {T : TypeId} {D : Nat → Prop} {b : Nat} {s : RS} {w : World} (h : Rdr T D b s w) : b < w.heap.size := by
 obtain ⟨_, _, h, -⟩ := h.is
 exact h.lt
theorem Rdr.off {T : TypeId} {D E : Nat → Prop} {b : Nat} {s : RS} {w w' : World} (h : Rdr T D b s w) (o : Off E w w') (hb : ¬ E b) (hD : ∀ c, c < w.heap.size → D c → ¬ E c) : Rdr T D b s w' := by
 refine ⟨h.ok, fun c hc => Nat.lt_of_lt_of_le (h.lt c hc) o.size, h.ne, h.len, ?_⟩
 obtain ⟨tad, cap, h1, h2⟩ := h.is
 exact ⟨tad, cap, h1.off o hb, h2.off o hD⟩
theorem newReader_any (t : Option Addr) (c : Nat) (bs : List Nat) (hb : bs.length ≤ 140737488355328) (hlt : ∀ b ∈ bs, b < 256) (w : World) (hs : Src w t c bs) :
  Calls Tryz.prog 18 #[.slice t bs.length c] w fun e w' => ∃ b D, e = .returned (.pointer (some ⟨b, 0, none⟩)) ∧ w.heap.size ≤ b ∧ (∀ c, D c → w.heap.size ≤ c) ∧ Rdr 96 D b (bs, 0) w' ∧ Off (fun _ => False) w w' := by
 have hlt' : Hid _ := hlt
 clear hlt
 go_enter Tryz.func18, Tryz.ntmps18
 go_wp2_with fail
 refine (clone_any t c bs hb w hs).mono ?_
 rintro e w1 ⟨t', c', rfl, own, hblk, off⟩
 go_wp2_with fail
 go_ret
 have hlt1 : ∀ k, blk t' = some k → k < w1.heap.size := own.lt
 refine ⟨w1.heap.size, fun c => blk t' = some c, rfl, off.size, fun c h => hblk c h, ⟨⟨hlt'.out, by simp, by simp⟩, fun c h => ?_, fun h => ?_, hb, t', c', Cel.new w1 _ _, ?_⟩, off.alloc _⟩
 ·have := hlt1 c h
  simp
  omega
 ·have := hlt1 _ h
  omega
 ·exact (own.off ((Off.refl (fun _ => False) _).alloc _) (fun _ _ _ h => h)).lie (fun c h => h)
theorem failed_any {D : Nat → Prop} {b : Nat} {s : RS} {w : World} (hR : Rdr 96 D b s w) :
  Calls Tryz.prog 88 #[.pointer (some ⟨b, 0, none⟩)] w fun e w' => e = .returned (.bool (!(((s.2 : Nat) : Int) == 0))) ∧ w' = w := by
 obtain ⟨tad, cap, h1, -⟩ := hR.is
 have c1 : w.cell? ⟨b, 1, none⟩ = some (.int .i64 ((s.2 : Nat) : Int)) := by rw [h1.cell]; rfl
 clear h1 hR
 go_enter Tryz.func88, Tryz.ntmps88
 go_wp2_with fail
 go_ret
 exact ⟨rfl, rfl⟩
theorem fail_any {D : Nat → Prop} {b : Nat} {s : RS} {w : World} (hR : Rdr 96 D b s w) (er : Nat) (her : er ≤ 4) :
  Calls Tryz.prog 89 #[.pointer (some ⟨b, 0, none⟩), .int .i64 (er : Int)] w fun e w' => e = .returned (.tuple #[]) ∧ Rdr 96 D b ([], er) w' ∧ Off (fun c => c = b) w w' := by
 obtain ⟨tad, cap, h1, -⟩ := hR.is
 have c0 : w.cell? ⟨b, 0, none⟩ = some (.slice tad s.1.length cap) := by rw [h1.cell]; rfl
 have c1 : w.cell? ⟨b, 1, none⟩ = some (.int .i64 ((s.2 : Nat) : Int)) := by rw [h1.cell]; rfl
 have f0 := h1.free 0
 have f1 := h1.free 1
 go_enter Tryz.func89, Tryz.ntmps89
 go_wp2_with fail
 go_end0
 refine ⟨rfl, ⟨Ok.err her, fun c h => by simpa using hR.lt c h, hR.ne, by simp, none, 0, (h1.set 1 _).set 0 _, Lie.nil _ _⟩, ((Off.refl (fun c => c = b) w).setCell (.inl rfl) _).setCell (.inl rfl) _⟩
def nextS (s : RS) : Nat × RS := if s.2 ≠ 0 then (0, s) else match s.1 with
 | [] => (0, ([], 2))
 | c :: l => (c, (l, 0))
theorem rnext_any {D : Nat → Prop} {b : Nat} {s : RS} {w : World} (hR : Rdr 96 D b s w) :
  Calls Tryz.prog 111 #[.pointer (some ⟨b, 0, none⟩)] w fun e w' => e = .returned (.int .u8 (((nextS s).1 : Nat) : Int)) ∧ Rdr 96 D b (nextS s).2 w' ∧ Off (fun c => c = b) w w' := by
 obtain ⟨l, er⟩ := s
 by_cases her : er = 0
 ·subst her
  match l with
  | [] =>
   have R : Hid _ := hR
   obtain ⟨tad, cap, h1, h2⟩ := hR.is
   have c0 : w.cell? ⟨b, 0, none⟩ = some (.slice tad 0 cap) := by rw [h1.cell]; rfl
   clear h1 h2 hR
   go_enter Tryz.func111, Tryz.ntmps111
   go_wp2_with fail
   refine (failed_any R.out).mono ?_
   rintro e w1 ⟨rfl, hw⟩
   rw [hw]
   clear hw w1
   go_wp2_with fail
   refine (fail_any R.out 2 (by omega)).mono ?_
   rintro e w1 ⟨rfl, R1, o1⟩
   go_wp2_with fail
   go_ret
   exact ⟨rfl, R1, o1⟩
  | c :: l =>
   have R : Hid _ := hR
   obtain ⟨tad, cap, h1, h2⟩ := hR.is
   have c0 : w.cell? ⟨b, 0, none⟩ = some (.slice tad (l.length + 1) cap) := by rw [h1.cell]; rfl
   have f0 := h1.free 0
   obtain ⟨t', hs, hL⟩ := h2.drop (k := 1) (by simp)
   obtain ⟨g, off, rfl, hc⟩ : ∃ g off, tad = some ⟨g, off, none⟩ ∧ w.cell? ⟨g, off, none⟩ = some (.int .u8 (c : Int)) := by
    rcases h2.is with ⟨-, h, -⟩ | ⟨g, off, h, -, -, hcell⟩
    ·simp at h
    ·exact ⟨g, off, h, hcell 0 _ rfl⟩
   have hlen : l.length < 140737488355328 := by have := hR.len; simp at this; omega
   simp only [List.drop_succ_cons, List.drop_zero, List.length_cons] at hs hL
   replace hs : ∀ W, (Instr.slice 28 (.slice (some ⟨g, off, none⟩) (l.length + 1) cap) (some (.int .i64 1)) none none).run Tryz.prog W = .ok (.slice t' l.length (cap - 1)) W := hs
   have HL : Hid _ := hL
   have H1 : Hid _ := h1
   clear h1 h2 hR hL
   go_enter Tryz.func111, Tryz.ntmps111
   go_wp2_with fail
   refine (failed_any R.out).mono ?_
   rintro e w1 ⟨rfl, hw⟩
   rw [hw]
   clear hw w1
   go_wp2_with fail
   go_ret
   have O : Off (fun c => c = b) w (w.setCell ⟨b, 0, none⟩ (.slice t' l.length (cap - 1))) := (Off.refl (fun c => c = b) w).setCell (.inl rfl) _
   refine ⟨rfl, ⟨⟨fun x hx => R.out.ok.1 x (by simp [nextS] at hx; simp [hx]), by simp [nextS], by simp [nextS]⟩, fun x hx => by simpa using R.out.lt x hx, R.out.ne, by simp [nextS]; omega, t', cap - 1, H1.out.set 0 _, HL.out.off O (fun x _ hx e => R.out.ne (e ▸ hx))⟩, O⟩
 ·have hne : nextS (l, er) = (0, (l, er)) := by simp [nextS, her]
  rw [hne]
  have hd : (((er : Nat) : Int) == 0) = false := by rw [beq_eq_false_iff_ne]; omega
  have R : Hid _ := hR
  go_enter Tryz.func111, Tryz.ntmps111
  go_wp2_with fail
  refine (failed_any R.out).mono ?_
  rintro e w1 ⟨rfl, hw⟩
  rw [hw]
  clear hw w1
  go_wp2_with fail
  go_ret
  exact ⟨rfl, R.out, Off.refl _ _⟩
end Go.Proofs.YtmbphlkohlggfaaGreat

namespace Go.Proofs.YtmbphlkohlggfaaGreat
open Go.RowKit
theorem acc_next {i acc x : Nat} (h : acc < 2 ^ (7 * i)) (hx : x < 128) : acc + x * 2 ^ (7 * i) < 2 ^ (7 * (i + 1)) := by
 rw [pow_step]
 have : x * 2 ^ (7 * i) ≤ 127 * 2 ^ (7 * i) := Nat.mul_le_mul_right _ (by omega)
 omega
theorem acc_room {i acc x : Nat} (hi : i ≤ 9) (h : acc < 2 ^ (7 * i)) (hx : x < 128) (h9 : i = 9 → x ≤ 1) : acc + x * 2 ^ (7 * i) < 18446744073709551616 := by
 by_cases h9' : i = 9
 ·have := h9 h9'
  subst h9'
  have : x * 2 ^ (7 * 9) ≤ 1 * 2 ^ (7 * 9) := Nat.mul_le_mul_right _ this
  simp at h this ⊢
  omega
 ·have h1 := acc_next h hx
  have h2 : (2 : Nat) ^ (7 * (i + 1)) ≤ 2 ^ 63 := Nat.pow_le_pow_right (by decide) (by omega)
  omega
set_option maxRecDepth 100000 in
set_option maxHeartbeats 2000000 in
theorem rnum_any {D : Nat → Prop} {b : Nat} {s : RS} {w : World} (hR : Rdr 96 D b s w) :
  Calls Tryz.prog 86 #[.pointer (some ⟨b, 0, none⟩)] w fun e w' => e = .returned (.int .u64 (((numS s).1 : Nat) : Int)) ∧ Rdr 96 D b (numS s).2 w' ∧ Off (fun c => c = b) w w' := by
 obtain ⟨l0, er⟩ := s
 by_cases her : er = 0
 ·subst her
  go_enter Tryz.func86, Tryz.ntmps86
  go_wp2_with fail
  go_loopw [3, 4] (fun x y wr => ∃ (acc i : Nat) (l : List Nat), x = .int .u64 (acc : Int) ∧ y = .int .i64 (i : Int) ∧ i ≤ 9 ∧ acc < 2 ^ (7 * i) ∧ rdNum i acc l = rdNum 0 0 l0 ∧ Rdr 96 D b (l, 0) wr ∧ Off (fun c => c = b) w wr) (fun _ y _ => (10 - intOf y).toNat)
  case atStart => exact ⟨0, 0, l0, rfl, rfl, by omega, by simp, rfl, hR, Off.refl _ w⟩
  case round =>
   clear hR
   obtain ⟨acc, i, l, rfl, rfl, hi, hacc, heq, R, O⟩ := hrel
   have HE : Hid _ := heq
   have HA : Hid _ := hacc
   clear heq hacc
   match l with
   | [] =>
    have HN : Hid (numS (l0, 0) = (0, ([], 2))) := by
     show numS (l0, 0) = (0, ([], 2))
     simp only [numS, ne_eq, not_true_eq_false, if_false]
     rw [← HE.out]
     rfl
    clear HE HA
    go_wp2_with fail
    refine (rnext_any R).mono ?_
    rw [show nextS ([], 0) = (0, ([], 2)) from rfl]
    rintro e w1 ⟨rfl, R1, o1⟩
    go_wp2_with fail
    refine (failed_any R1).mono ?_
    rintro e w2 ⟨rfl, hw⟩
    rw [hw]
    clear hw w2
    go_wp2_with fail
    go_ret
    rw [HN.out]
    exact ⟨rfl, R1, O.trans o1 (fun _ _ h => h)⟩
   | c :: l =>
    have hc : c < 256 := R.ok.1 c (by simp)
    by_cases hbad : (0 < i ∧ c = 0) ∨ (i = 9 ∧ 1 < c)
    ·have HN : Hid (numS (l0, 0) = (0, ([], 3))) := by
      show numS (l0, 0) = (0, ([], 3))
      simp only [numS, ne_eq, not_true_eq_false, if_false]
      rw [← HE.out]
      simp only [rdNum]
      rw [if_pos hbad]
     clear HE HA
     rcases hbad with ⟨b1, b2⟩ | ⟨b1, b2⟩
     ·subst b2
      have hd1 : decide ((0 : Int) < (i : Int)) = true := by simp; omega
      go_wp2_with fail
      refine (rnext_any R).mono ?_
      rw [show nextS (0 :: l, 0) = (0, (l, 0)) from rfl]
      rintro e w1 ⟨rfl, R1, o1⟩
      go_wp2_with fail
      refine (failed_any R1).mono ?_
      rintro e w2 ⟨rfl, hw⟩
      rw [hw]
      clear hw w2
      go_wp2_with fail
      refine (fail_any R1 3 (by omega)).mono ?_
      rintro e w2 ⟨rfl, R2, o2⟩
      go_wp2_with fail
      go_ret
      rw [HN.out]
      exact ⟨rfl, R2, (O.trans o1 (fun _ _ h => h)).trans o2 (fun _ _ h => h)⟩
     ·subst b1
      have hd1 : (((c : Nat) : Int) == 0) = false := by rw [beq_eq_false_iff_ne]; omega
      have hd2 : decide ((1 : Int) < (c : Int)) = true := by simp; omega
      go_wp2_with fail
      refine (rnext_any R).mono ?_
      rw [show nextS (c :: l, 0) = (c, (l, 0)) from rfl]
      rintro e w1 ⟨rfl, R1, o1⟩
      go_wp2_with fail
      refine (failed_any R1).mono ?_
      rintro e w2 ⟨rfl, hw⟩
      rw [hw]
      clear hw w2
      go_wp2_with fail
      refine (fail_any R1 3 (by omega)).mono ?_
      rintro e w2 ⟨rfl, R2, o2⟩
      go_wp2_with fail
      go_ret
      rw [HN.out]
      exact ⟨rfl, R2, (O.trans o1 (fun _ _ h => h)).trans o2 (fun _ _ h => h)⟩
    ·obtain ⟨x, hx⟩ : ∃ x, x = c % 128 := ⟨_, rfl⟩
     have hx128 : x < 128 := by omega
     have hroom := acc_room hi HA.out hx128 (by omega)
     have hacc' := acc_next HA.out hx128
     obtain ⟨y, hy⟩ : ∃ y, y = x * 2 ^ (7 * i) := ⟨_, rfl⟩
     obtain ⟨z, hz⟩ : ∃ z, z = acc + y := ⟨_, rfl⟩
     have x1 : bits .andNot .u8 (c : Int) 128 = (x : Int) := by rw [hx]; exact andNot128 c hc
     have x2 : Op.shift .shl .u64 (x : Int) .i64 ((i : Int) * 7) = pure (.int .u64 (y : Int)) := by
      rw [hy, ← shl_at hi (by omega) .i64]
      congr 1
      omega
     have x4 : IntKind.u64.wrap ((x : Int) * 2 ^ (i * 7)) = (y : Int) := by
      rw [IntKind.wrap_u64, Nat.mul_comm i 7]
      have e : ((x : Int) * 2 ^ (7 * i)) = ((x * 2 ^ (7 * i) : Nat) : Int) := by push_cast; rfl
      rw [e, ← hy]
      omega
     have x3 : bits .or .u64 (acc : Int) (y : Int) = (z : Int) := by
      rw [hz, hy]
      exact or_add HA.out hroom
     have hz64 : z < 18446744073709551616 := by omega
     have HZ : Hid (z = acc + (c % 128) * 2 ^ (7 * i)) := by
      show z = acc + (c % 128) * 2 ^ (7 * i)
      rw [hz, hy, hx]
     have hzb : Hid (z < 2 ^ (7 * (i + 1))) := by
      show z < 2 ^ (7 * (i + 1))
      omega
     have HY : Hid (y = x * 2 ^ (7 * i)) := hy
     clear hz hy hx hroom hacc'
     have HB : Hid _ := hbad
     have split : (i = 0) ∨ (0 < i ∧ i ≠ 9 ∧ c ≠ 0) ∨ (i = 9 ∧ c ≠ 0 ∧ ¬ 1 < c) := by omega
     clear hbad
     by_cases h128 : c < 128
     ·have HN : Hid (numS (l0, 0) = (z, (l, 0))) := by
       show numS (l0, 0) = (z, (l, 0))
       simp only [numS, ne_eq, not_true_eq_false, if_false]
       rw [← HE.out]
       simp only [rdNum]
       rw [if_neg HB.out, if_pos h128]
       simp only [HZ.out, show c % 128 = c by omega]
      have hd0 : decide ((c : Int) < 128) = true := by simp; omega
      rcases split with s0 | ⟨s0, s1, s2⟩ | ⟨s0, s1, s2⟩
      ·have x5 : bits .or .u64 (acc : Int) (x : Int) = (z : Int) := by
        have e : y = x := by rw [HY.out, s0]; simp
        rw [← e]
        exact x3
       have S0 : Hid _ := s0
       go_wp2_with fail
       refine (rnext_any R).mono ?_
       rw [show nextS (c :: l, 0) = (c, (l, 0)) from rfl]
       rintro e w1 ⟨rfl, R1, o1⟩
       go_wp2_with fail
       refine (failed_any R1).mono ?_
       rintro e w2 ⟨rfl, hw⟩
       rw [hw]
       clear hw w2
       go_wp2_with fail
       go_ret
       rw [HN.out]
       exact ⟨rfl, R1, O.trans o1 (fun _ _ h => h)⟩
      ·have hd1 : decide ((0 : Int) < (i : Int)) = true := by simp; omega
       have hd2 : (((c : Nat) : Int) == 0) = false := by rw [beq_eq_false_iff_ne]; omega
       have hd3 : (((i : Nat) : Int) == 9) = false := by rw [beq_eq_false_iff_ne]; omega
       have S0 : Hid _ := s0
       clear s0
       go_wp2_with fail
       refine (rnext_any R).mono ?_
       rw [show nextS (c :: l, 0) = (c, (l, 0)) from rfl]
       rintro e w1 ⟨rfl, R1, o1⟩
       go_wp2_with fail
       refine (failed_any R1).mono ?_
       rintro e w2 ⟨rfl, hw⟩
       rw [hw]
       clear hw w2
       go_wp2_with fail
       go_ret
       rw [HN.out]
       exact ⟨rfl, R1, O.trans o1 (fun _ _ h => h)⟩
      ·have hd1 : decide ((0 : Int) < (i : Int)) = true := by simp; omega
       have hd2 : (((c : Nat) : Int) == 0) = false := by rw [beq_eq_false_iff_ne]; omega
       have hd3 : (((i : Nat) : Int) == 9) = true := by rw [beq_iff_eq]; omega
       have hd4 : decide ((1 : Int) < (c : Int)) = false := by simp; omega
       have x5 : IntKind.u64.wrap ((x : Int) * 9223372036854775808) = (y : Int) := by
        rw [← x4, s0]
        simp
       have S0 : Hid _ := s0
       go_wp2_with fail
       refine (rnext_any R).mono ?_
       rw [show nextS (c :: l, 0) = (c, (l, 0)) from rfl]
       rintro e w1 ⟨rfl, R1, o1⟩
       go_wp2_with fail
       refine (failed_any R1).mono ?_
       rintro e w2 ⟨rfl, hw⟩
       rw [hw]
       clear hw w2
       go_wp2_with fail
       go_ret
       rw [HN.out]
       exact ⟨rfl, R1, O.trans o1 (fun _ _ h => h)⟩
     ·have HN : Hid (rdNum (i + 1) z l = rdNum 0 0 l0) := by
       show rdNum (i + 1) z l = rdNum 0 0 l0
       rw [← HE.out]
       simp only [rdNum]
       rw [if_neg HB.out, if_neg h128, HZ.out, show c - 128 = c % 128 by omega]
      have hd0 : decide ((c : Int) < 128) = false := by simp; omega
      rcases split with s0 | ⟨s0, s1, s2⟩ | ⟨s0, s1, s2⟩
      ·have x5 : bits .or .u64 (acc : Int) (x : Int) = (z : Int) := by
        have e : y = x := by rw [HY.out, s0]; simp
        rw [← e]
        exact x3
       have S0 : Hid _ := s0
       go_wp2_with fail
       refine (rnext_any R).mono ?_
       rw [show nextS (c :: l, 0) = (c, (l, 0)) from rfl]
       rintro e w1 ⟨rfl, R1, o1⟩
       go_wp2_with fail
       refine (failed_any R1).mono ?_
       rintro e w2 ⟨rfl, hw⟩
       rw [hw]
       clear hw w2
       go_wp2_with fail
       go_roundw
       case rel => exact ⟨z, i + 1, l, rfl, by go_num, by have := S0.out; omega, hzb.out, HN.out, R1, O.trans o1 (fun _ _ h => h)⟩
       case measure => simp [intOf]; omega
      ·have hd1 : decide ((0 : Int) < (i : Int)) = true := by simp; omega
       have hd2 : (((c : Nat) : Int) == 0) = false := by rw [beq_eq_false_iff_ne]; omega
       have hd3 : (((i : Nat) : Int) == 9) = false := by rw [beq_eq_false_iff_ne]; omega
       have S0 : Hid _ := s0
       clear s0
       go_wp2_with fail
       refine (rnext_any R).mono ?_
       rw [show nextS (c :: l, 0) = (c, (l, 0)) from rfl]
       rintro e w1 ⟨rfl, R1, o1⟩
       go_wp2_with fail
       refine (failed_any R1).mono ?_
       rintro e w2 ⟨rfl, hw⟩
       rw [hw]
       clear hw w2
       go_wp2_with fail
       go_roundw
       case rel => exact ⟨z, i + 1, l, rfl, by go_num, by have := S0.out; omega, hzb.out, HN.out, R1, O.trans o1 (fun _ _ h => h)⟩
       case measure => simp [intOf]; omega
      ·omega
 ·have hn : numS (l0, er) = (0, (l0, er)) := by simp [numS, her]
  have hx : nextS (l0, er) = (0, (l0, er)) := by simp [nextS, her]
  have HN : Hid _ := hn
  clear hn
  have hd : (((er : Nat) : Int) == 0) = false := by rw [beq_eq_false_iff_ne]; omega
  go_enter Tryz.func86, Tryz.ntmps86
  go_wp2_with fail
  go_loopw [3, 4] (fun x y wr => x = .int .u64 0 ∧ y = .int .i64 0 ∧ wr = w) (fun _ _ _ => 0)
  case atStart => exact ⟨rfl, rfl, rfl⟩
  case round =>
   obtain ⟨rfl, rfl, rfl⟩ := hrel
   have R := hR
   go_wp2_with fail
   refine (rnext_any R).mono ?_
   rw [hx]
   rintro e w1 ⟨rfl, R1, o1⟩
   go_wp2_with fail
   refine (failed_any R1).mono ?_
   rintro e w2 ⟨rfl, hw⟩
   rw [hw]
   clear hw w2
   go_wp2_with fail
   go_ret
   rw [HN.out]
   exact ⟨rfl, R1, o1⟩
end Go.Proofs.YtmbphlkohlggfaaGreat

namespace Go.Proofs.YtmbphlkohlggfaaGreat
open Go.RowKit
theorem unzig_even {n : Nat} (h : n % 2 = 0) : unzig n = ((n / 2 : Nat) : Int) := by simp [unzig, h]
theorem unzig_odd {n : Nat} (h : n % 2 = 1) : unzig n = -((n / 2 : Nat) : Int) - 1 := by simp [unzig, h]
set_option maxRecDepth 100000 in
theorem rint_any {D : Nat → Prop} {b : Nat} {s : RS} {w : World} (hR : Rdr 96 D b s w) :
  Calls Tryz.prog 47 #[.pointer (some ⟨b, 0, none⟩)] w fun e w' => e = .returned (.int .i64 (intS s).1) ∧ Rdr 96 D b (intS s).2 w' ∧ Off (fun c => c = b) w w' := by
 have hn := (num_ok hR.ok).2.1
 simp only [intS]
 obtain ⟨n, en⟩ : ∃ n, n = (numS s).1 := ⟨_, rfl⟩
 rw [← en] at hn ⊢
 have h1 := u64_odd n hn
 have hh : (n : Int) / 2 = ((n / 2 : Nat) : Int) := by omega
 have EN : Hid _ := en
 clear en
 obtain ⟨k, ek⟩ : ∃ k, k = n / 2 := ⟨_, rfl⟩
 have hk : k < 9223372036854775808 := by omega
 rw [← ek] at hh
 rcases Nat.mod_two_eq_zero_or_one n with h | h
 ·rw [h] at h1
  have hz : Hid (unzig n = (k : Int)) := by rw [ek]; exact unzig_even h
  have x1 : bits .and .u64 (n : Int) 1 = 0 := h1
  have x2 := xor_none k hk
  clear h h1 ek
  go_enter Tryz.func47, Tryz.ntmps47
  go_wp2_with fail
  refine (rnum_any hR).mono ?_
  rw [← EN.out]
  rintro e w1 ⟨rfl, R1, o1⟩
  go_wp2_with fail
  go_ret
  rw [hz.out]
  exact ⟨rfl, R1, o1⟩
 ·rw [h] at h1
  have hz : Hid (unzig n = -(k : Int) - 1) := by rw [ek]; exact unzig_odd h
  have x1 : bits .and .u64 (n : Int) 1 = 1 := h1
  have x2 := xor_ones k hk
  clear h h1 ek
  go_enter Tryz.func47, Tryz.ntmps47
  go_wp2_with fail
  refine (rnum_any hR).mono ?_
  rw [← EN.out]
  rintro e w1 ⟨rfl, R1, o1⟩
  go_wp2_with fail
  go_ret
  rw [hz.out]
  exact ⟨rfl, R1, o1⟩
set_option maxRecDepth 100000 in
theorem rcount_any {D : Nat → Prop} {b : Nat} {s : RS} {w : World} (hR : Rdr 96 D b s w) (m : Int) (hm0 : -9223372036854775808 ≤ m) (hm : m ≤ 9223372036854775807) :
  Calls Tryz.prog 87 #[.pointer (some ⟨b, 0, none⟩), .int .i64 m] w fun e w' => e = .returned (.int .i64 (((countS m.toNat s).1 : Nat) : Int)) ∧ Rdr 96 D b (countS m.toNat s).2 w' ∧ Off (fun c => c = b) w w' := by
 have hn := (num_ok hR.ok).2.1
 obtain ⟨n, en⟩ : ∃ n, n = (numS s).1 := ⟨_, rfl⟩
 rw [← en] at hn
 have EN : Hid _ := en
 clear en
 by_cases hlong : m.toNat < n
 ·have HC : Hid (countS m.toNat s = (0, ([], 4))) := by
   show countS m.toNat s = (0, ([], 4))
   unfold countS
   rw [if_pos (by rw [← EN.out]; exact hlong)]
  have hd : decide (m < (n : Int)) = true := by simp; omega
  have hd' : decide ((0 : Int) < (n : Int)) = true := by simp; omega
  go_enter Tryz.func87, Tryz.ntmps87
  go_wp2_with fail
  refine (rnum_any hR).mono ?_
  rw [← EN.out]
  rintro e w1 ⟨rfl, R1, o1⟩
  go_wp2_with fail
  all_goals
   refine (fail_any R1 4 (by omega)).mono ?_
   rintro e w2 ⟨rfl, R2, o2⟩
   go_wp2_with fail
   go_ret
   rw [HC.out]
   exact ⟨rfl, R2, o1.trans o2 (fun _ _ h => h)⟩
 ·have HC : Hid (countS m.toNat s = numS s) := by
   show countS m.toNat s = numS s
   unfold countS
   rw [if_neg (by rw [← EN.out]; exact hlong)]
  by_cases hm1 : m ≤ 0
  ·have hn0 : n = 0 := by omega
   have hd2 : decide ((0 : Int) < (n : Int)) = false := by simp; omega
   clear hlong
   go_enter Tryz.func87, Tryz.ntmps87
   go_wp2_with fail
   refine (rnum_any hR).mono ?_
   rw [← EN.out]
   rintro e w1 ⟨rfl, R1, o1⟩
   go_wp2_with fail
   all_goals
    go_ret
    rw [HC.out, ← EN.out]
    exact ⟨by simp [hn0], R1, o1⟩
  ·have hd2 : decide (m < (n : Int)) = false := by simp; omega
   go_enter Tryz.func87, Tryz.ntmps87
   go_wp2_with fail
   refine (rnum_any hR).mono ?_
   rw [← EN.out]
   rintro e w1 ⟨rfl, R1, o1⟩
   go_wp2_with fail
   go_ret
   rw [HC.out, ← EN.out]
   exact ⟨rfl, R1, o1⟩
theorem rleft_any {D : Nat → Prop} {b : Nat} {s : RS} {w : World} (hR : Rdr 96 D b s w) :
  Calls Tryz.prog 115 #[.pointer (some ⟨b, 0, none⟩)] w fun e w' => e = .returned (.int .i64 ((s.1.length : Nat) : Int)) ∧ w' = w := by
 obtain ⟨tad, cap, h1, -⟩ := hR.is
 have c0 : w.cell? ⟨b, 0, none⟩ = some (.slice tad s.1.length cap) := by rw [h1.cell]; rfl
 clear h1 hR
 go_enter Tryz.func115, Tryz.ntmps115
 go_wp2_with fail
 go_ret
 exact ⟨rfl, rfl⟩
set_option maxRecDepth 100000 in
theorem rend_any {D : Nat → Prop} {b : Nat} {s : RS} {w : World} (hR : Rdr 96 D b s w) :
  Calls Tryz.prog 20 #[.pointer (some ⟨b, 0, none⟩)] w fun e w' => e = .returned (.int .i64 ((endS s : Nat) : Int)) ∧ w' = w := by
 obtain ⟨tad, cap, h1, -⟩ := hR.is
 have c0 : w.cell? ⟨b, 0, none⟩ = some (.slice tad s.1.length cap) := by rw [h1.cell]; rfl
 have c1 : w.cell? ⟨b, 1, none⟩ = some (.int .i64 ((s.2 : Nat) : Int)) := by rw [h1.cell]; rfl
 clear h1 hR
 obtain ⟨l, er⟩ := s
 simp only at c0 c1
 by_cases her : er = 0
 ·have hd : (((er : Nat) : Int) == 0) = true := by rw [beq_iff_eq]; omega
  by_cases hl : l = []
  ·have HE : Hid (endS (l, er) = er) := by
    show endS (l, er) = er
    simp [endS, hl]
   have hd2 : decide (0 < l.length) = false := by simp [hl]
   have HER : Hid _ := her
   clear her hl
   go_enter Tryz.func20, Tryz.ntmps20
   go_wp2_with fail
   go_ret
   rw [HE.out]
   exact ⟨rfl, rfl⟩
  ·have HE : Hid (endS (l, er) = 3) := by
    show endS (l, er) = 3
    simp [endS, hl, her]
   have hl' : 0 < l.length := List.length_pos_iff.2 hl
   have hd2 : decide (0 < l.length) = true := by simp; omega
   clear her hl
   go_enter Tryz.func20, Tryz.ntmps20
   go_wp2_with fail
   go_ret
   rw [HE.out]
   exact ⟨rfl, rfl⟩
 ·have HE : Hid (endS (l, er) = er) := by
   show endS (l, er) = er
   simp [endS, her]
  have hd : (((er : Nat) : Int) == 0) = false := by rw [beq_eq_false_iff_ne]; omega
  go_enter Tryz.func20, Tryz.ntmps20
  go_wp2_with fail
  go_ret
  rw [HE.out]
  exact ⟨rfl, rfl⟩
end Go.Proofs.YtmbphlkohlggfaaGreat
