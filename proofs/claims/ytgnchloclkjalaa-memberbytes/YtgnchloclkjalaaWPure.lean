/- Numbers and texts as bytes, and back: plain facts. -/
import Derived.Test.YtgnchloclkjalaaMc
namespace Go.Proofs.Ytgnchloclkjalaa

/-- A number's bytes: seven bits each, the lowest first. -/
def numG : Nat → Nat → List Nat
  | 0, n => [n]
  | k + 1, n => if n < 128 then [n] else (n % 128 + 128) :: numG k (n / 128)
def numB (n : Nat) : List Nat := numG n n
theorem numG_zero : ∀ k, numG k 0 = [0]
  | 0 => rfl
  | _ + 1 => rfl
theorem numG_same : ∀ k m n, n ≤ k → n ≤ m → numG k n = numG m n
  | 0, m, n, h, _ => by
    obtain rfl : n = 0 := by omega
    rw [numG_zero, numG_zero]
  | k + 1, 0, n, _, h => by
    obtain rfl : n = 0 := by omega
    rw [numG_zero, numG_zero]
  | k + 1, m + 1, n, h1, h2 => by
    by_cases h : n < 128
    · simp only [numG, if_pos h]
    · simp only [numG, if_neg h]
      rw [numG_same k m (n / 128) (by omega) (by omega)]
theorem numB_small {n : Nat} (h : n < 128) : numB n = [n] := by
  unfold numB
  cases n with
  | zero => rfl
  | succ n => rw [numG, if_pos h]
theorem numB_big {n : Nat} (h : ¬ n < 128) : numB n = (n % 128 + 128) :: numB (n / 128) := by
  unfold numB
  cases n with
  | zero => omega
  | succ n => rw [numG, if_neg h, numG_same n ((n + 1) / 128) ((n + 1) / 128) (by omega) (by omega)]
theorem numB_lt (n : Nat) : ∀ b ∈ numB n, b < 256 := by
  induction n using Nat.strongRecOn with
  | ind n ih =>
    intro b hb
    by_cases h : n < 128
    · rw [numB_small h] at hb
      simp at hb
      omega
    · rw [numB_big h] at hb
      simp only [List.mem_cons] at hb
      rcases hb with rfl | hb
      · omega
      · exact ih (n / 128) (by omega) b hb
theorem numB_pos (n : Nat) : 0 < (numB n).length := by
  by_cases h : n < 128
  · rw [numB_small h]; simp
  · rw [numB_big h]; simp
theorem numB_len (k : Nat) : ∀ n, n < 2 ^ (7 * k + 7) → (numB n).length ≤ k + 1 := by
  induction k with
  | zero =>
    intro n hn
    rw [numB_small (by simpa using hn)]
    simp
  | succ k ih =>
    intro n hn
    by_cases h : n < 128
    · rw [numB_small h]; simp
    · rw [numB_big h]
      have : n / 128 < 2 ^ (7 * k + 7) := by
        rw [Nat.div_lt_iff_lt_mul (by decide)]
        have : (2 : Nat) ^ (7 * (k + 1) + 7) = 2 ^ (7 * k + 7) * 128 := by rw [show 7 * (k + 1) + 7 = (7 * k + 7) + 7 by omega, Nat.pow_add]
        omega
      have := ih _ this
      simp
      omega
theorem numB_ten {n : Nat} (h : n < 18446744073709551616) : (numB n).length ≤ 10 := numB_len 9 n (by omega)

/-- Whole numbers as numbers. -/
def zig (i : Int) : Nat := if 0 ≤ i then (2 * i).toNat else (-2 * i - 1).toNat
def unzig (n : Nat) : Int := if n % 2 = 0 then ((n / 2 : Nat) : Int) else -((n / 2 : Nat) : Int) - 1
theorem unzig_zig (i : Int) : unzig (zig i) = i := by
  unfold zig unzig
  split <;> split <;> omega
theorem zig_unzig (n : Nat) : zig (unzig n) = n := by
  unfold zig unzig
  split <;> split <;> omega
theorem zig_lt {i : Int} (h0 : -9223372036854775808 ≤ i) (h1 : i ≤ 9223372036854775807) : zig i < 18446744073709551616 := by
  unfold zig
  split <;> omega

/-- Taking a number: an error, or the number and the rest. -/
def rdNum (i acc : Nat) : List Nat → Nat ⊕ (Nat × List Nat)
  | [] => .inl 2
  | b :: l => if (0 < i ∧ b = 0) ∨ (i = 9 ∧ 1 < b) then .inl 3 else if b < 128 then .inr (acc + b * 2 ^ (7 * i), l) else rdNum (i + 1) (acc + (b - 128) * 2 ^ (7 * i)) l

theorem pow_step (i : Nat) : 2 ^ (7 * (i + 1)) = 128 * 2 ^ (7 * i) := by
  rw [show 7 * (i + 1) = 7 + 7 * i by omega, Nat.pow_add]
theorem room_step {n i : Nat} (hi : i ≤ 8) (h : n < 2 ^ (64 - 7 * i)) : n / 128 < 2 ^ (64 - 7 * (i + 1)) := by
  rw [Nat.div_lt_iff_lt_mul (by decide)]
  have : (2 : Nat) ^ (64 - 7 * i) = 2 ^ (64 - 7 * (i + 1)) * 128 := by rw [show 64 - 7 * i = (64 - 7 * (i + 1)) + 7 by omega, Nat.pow_add]
  omega
theorem room_nine {n : Nat} (h : n < 2 ^ (64 - 7 * 9)) : n < 2 := by simpa using h

theorem rd_back (l : List Nat) : ∀ n i acc, i ≤ 9 → n < 2 ^ (64 - 7 * i) → (0 < i → 0 < n) → rdNum i acc (numB n ++ l) = .inr (acc + n * 2 ^ (7 * i), l) := by
  intro n
  induction n using Nat.strongRecOn with
  | ind n ih =>
    intro i acc hi hn h0
    by_cases h : n < 128
    · rw [numB_small h]
      simp only [List.cons_append, List.nil_append, rdNum]
      rw [if_neg, if_pos h]
      rintro (⟨h1, h2⟩ | ⟨h1, h2⟩)
      · have := h0 h1; omega
      · subst h1
        have := room_nine hn
        omega
    · rw [numB_big h]
      simp only [List.cons_append, rdNum]
      have hi9 : i ≠ 9 := by
        rintro rfl
        have := room_nine hn
        omega
      rw [if_neg, if_neg (by omega), ih (n / 128) (by omega) (i + 1) _ (by omega) (room_step (by omega) hn) (by omega)]
      · congr 2
        rw [pow_step, show n % 128 + 128 - 128 = n % 128 by omega, Nat.add_assoc]
        congr 1
        rw [← Nat.mul_assoc, ← Nat.add_mul]
        congr 1
        omega
      · rintro (⟨-, h2⟩ | ⟨h1, -⟩)
        · omega
        · exact hi9 h1

theorem rd_short : ∀ n i acc k, i ≤ 9 → n < 2 ^ (64 - 7 * i) → (0 < i → 0 < n) → k < (numB n).length → rdNum i acc ((numB n).take k) = .inl 2 := by
  intro n
  induction n using Nat.strongRecOn with
  | ind n ih =>
    intro i acc k hi hn h0 hk
    match k with
    | 0 => rfl
    | k + 1 =>
      by_cases h : n < 128
      · rw [numB_small h] at hk
        simp at hk
      · rw [numB_big h] at hk ⊢
        simp only [List.take_succ_cons, rdNum]
        have hi9 : i ≠ 9 := by
          rintro rfl
          have := room_nine hn
          omega
        rw [if_neg, if_neg (by omega)]
        · exact ih (n / 128) (by omega) (i + 1) _ k (by omega) (room_step (by omega) hn) (by omega) (by simpa using hk)
        · rintro (⟨-, h2⟩ | ⟨h1, -⟩)
          · omega
          · exact hi9 h1

theorem rd_inv : ∀ (bs : List Nat) i acc v l, (∀ b ∈ bs, b < 256) → i ≤ 9 → rdNum i acc bs = .inr (v, l) → ∃ n, bs = numB n ++ l ∧ v = acc + n * 2 ^ (7 * i) ∧ n < 2 ^ (64 - 7 * i) ∧ (0 < i → 0 < n) := by
  intro bs
  induction bs with
  | nil => intro i acc v l _ _ h; simp [rdNum] at h
  | cons b bs ih =>
    intro i acc v l hb hi h
    simp only [rdNum] at h
    have hb0 := hb b (by simp)
    split at h
    · cases h
    · rename_i hc
      split at h
      · rename_i h128
        simp only [Sum.inr.injEq, Prod.mk.injEq] at h
        obtain ⟨rfl, rfl⟩ := h
        refine ⟨b, by rw [numB_small h128]; rfl, rfl, ?_, by omega⟩
        by_cases h9 : i = 9
        · subst h9; simp; omega
        · refine Nat.lt_of_lt_of_le h128 ?_
          exact Nat.pow_le_pow_right (n := 2) (by decide) (show 7 ≤ 64 - 7 * i by omega)
      · rename_i h128
        have hi9 : i ≠ 9 := by rintro rfl; exact hc (.inr ⟨rfl, by omega⟩)
        obtain ⟨n, rfl, rfl, hn, h0⟩ := ih (i + 1) _ v l (fun c hc => hb c (by simp [hc])) (by omega) h
        have hpos := h0 (by omega)
        refine ⟨n * 128 + (b - 128), ?_, ?_, ?_, fun _ => by omega⟩
        · rw [numB_big (n := n * 128 + (b - 128)) (by omega), show (n * 128 + (b - 128)) % 128 + 128 = b by omega, show (n * 128 + (b - 128)) / 128 = n by omega]
          rfl
        · rw [pow_step, Nat.add_mul, ← Nat.mul_assoc]
          omega
        · have : (2 : Nat) ^ (64 - 7 * i) = 2 ^ (64 - 7 * (i + 1)) * 128 := by rw [show 64 - 7 * i = (64 - 7 * (i + 1)) + 7 by omega, Nat.pow_add]
          omega

theorem rd_err : ∀ (bs : List Nat) i acc e, rdNum i acc bs = .inl e → e = 2 ∨ e = 3 := by
  intro bs
  induction bs with
  | nil => intro i acc e h; simp [rdNum] at h; omega
  | cons b bs ih =>
    intro i acc e h
    simp only [rdNum] at h
    split at h
    · simp only [Sum.inl.injEq] at h; omega
    · split at h
      · cases h
      · exact ih _ _ _ h

/-- A reader: what is left, and its first error (0: none). -/
abbrev RS := List Nat × Nat
def numS (s : RS) : Nat × RS := if s.2 ≠ 0 then (0, s) else match rdNum 0 0 s.1 with
  | .inl e => (0, ([], e))
  | .inr (n, l) => (n, (l, 0))
def intS (s : RS) : Int × RS := (unzig (numS s).1, (numS s).2)
def flagS (s : RS) : Bool × RS := if s.2 ≠ 0 then (false, s) else match s.1 with
  | [] => (false, ([], 2))
  | b :: l => if 1 < b then (false, ([], 3)) else (b == 1, (l, 0))
def countS (most : Nat) (s : RS) : Nat × RS := if most < (numS s).1 then (0, ([], 4)) else numS s
def textS (most : Nat) (s : RS) : List Nat × RS :=
  if (countS most s).2.2 ≠ 0 then ([], (countS most s).2) else if (countS most s).2.1.length < (countS most s).1 then ([], ([], 2)) else ((countS most s).2.1.take (countS most s).1, ((countS most s).2.1.drop (countS most s).1, 0))
def endS (s : RS) : Nat := if s.2 = 0 ∧ s.1 ≠ [] then 3 else s.2
/-- Bytes; and nothing left behind an error. -/
def Ok (s : RS) : Prop := (∀ b ∈ s.1, b < 256) ∧ (s.2 ≠ 0 → s.1 = []) ∧ s.2 ≤ 4

theorem Ok.err {e : Nat} (he : e ≤ 4) : Ok ([], e) := ⟨by simp, fun _ => rfl, he⟩
theorem num_ok {s : RS} (h : Ok s) : Ok (numS s).2 ∧ (numS s).1 < 18446744073709551616 ∧ ((numS s).2.2 ≠ 0 → (numS s).1 = 0) ∧ (numS s).2.1.length ≤ s.1.length := by
  unfold numS
  split
  · exact ⟨h, by simp, fun _ => rfl, Nat.le_refl _⟩
  · split
    · rename_i e he
      exact ⟨Ok.err (by have := rd_err _ _ _ _ he; omega), by simp, fun _ => rfl, by simp⟩
    · rename_i n l he
      obtain ⟨m, h1, h2, h3, -⟩ := rd_inv _ _ _ _ _ h.1 (by omega) he
      refine ⟨⟨fun b hb => h.1 b (by rw [h1]; simp [hb]), by simp, by simp⟩, by simp at h2 h3; omega, by simp, by rw [h1]; simp⟩
theorem flag_ok {s : RS} (h : Ok s) : Ok (flagS s).2 := by
  unfold flagS
  split
  · exact h
  · split
    · exact Ok.err (by omega)
    · rename_i b l hs
      split
      · exact Ok.err (by omega)
      · exact ⟨fun c hc => h.1 c (by rw [hs]; simp at hc; simp [hc]), by simp, by simp⟩
theorem count_ok (most : Nat) {s : RS} (h : Ok s) : Ok (countS most s).2 ∧ (countS most s).1 ≤ most ∧ ((countS most s).2.2 ≠ 0 → (countS most s).1 = 0) ∧ (countS most s).2.1.length ≤ s.1.length := by
  have hn := num_ok h
  unfold countS
  split
  · exact ⟨Ok.err (by omega), by simp, fun _ => rfl, by simp⟩
  · exact ⟨hn.1, by omega, hn.2.2.1, hn.2.2.2⟩
theorem text_ok (most : Nat) {s : RS} (h : Ok s) : Ok (textS most s).2 := by
  have hn := count_ok most h
  unfold textS
  split
  · exact hn.1
  · split
    · exact Ok.err (by omega)
    · exact ⟨fun b hb => hn.1.1 b (List.mem_of_mem_drop hb), by simp, by simp⟩
theorem text_len (most : Nat) {s : RS} (h : Ok s) : (textS most s).1.length ≤ s.1.length := by
  have hn := count_ok most h
  unfold textS
  split
  · simp
  · split
    · simp
    · simp; omega
end Go.Proofs.Ytgnchloclkjalaa
