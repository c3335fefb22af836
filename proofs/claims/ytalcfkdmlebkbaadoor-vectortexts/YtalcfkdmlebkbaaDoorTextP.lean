/- Texts of vectors, as lists. -/
import Derived.Test.YtalcfkdmlebkbaaDoorAwake
namespace Go.Proofs.YtalcfkdmlebkbaaDoor
open Go.RowKit

def decVal (l : List UInt8) : Nat := l.foldl (fun a c => a * 10 + (c.toNat - 48)) 0
theorem decVal_snoc (l : List UInt8) (c : UInt8) : decVal (l ++ [c]) = decVal l * 10 + (c.toNat - 48) := by simp [decVal]
theorem digit_toNat {d : Nat} (h : d < 10) : (UInt8.ofNat (48 + d)).toNat = 48 + d := by
  rw [UInt8.toNat_ofNat']
  omega
theorem dd_val (u : Nat) : decVal (Lib.decDigits u) = u := by
  induction u using Nat.strongRecOn with
  | ind u ih =>
    rw [Lib.decDigits]
    split
    · rename_i h
      simp only [decVal, List.foldl_cons, List.foldl_nil, digit_toNat h]
      omega
    · rename_i h
      rw [decVal_snoc, ih (u / 10) (by omega), digit_toNat (by omega)]
      omega
theorem dd_inj {u v : Nat} (h : Lib.decDigits u = Lib.decDigits v) : u = v := by
  have := congrArg decVal h
  rwa [dd_val, dd_val] at this
theorem dd_mem (u : Nat) : ∀ c ∈ Lib.decDigits u, 48 ≤ c.toNat ∧ c.toNat ≤ 57 := by
  induction u using Nat.strongRecOn with
  | ind u ih =>
    rw [Lib.decDigits]
    split
    · rename_i h
      intro c hc
      simp only [List.mem_singleton] at hc
      rw [hc, digit_toNat h]
      omega
    · rename_i h
      intro c hc
      simp only [List.mem_append, List.mem_singleton] at hc
      rcases hc with hc | hc
      · exact ih (u / 10) (by omega) c hc
      · rw [hc, digit_toNat (by omega)]
        omega
theorem dd_ne (u : Nat) : Lib.decDigits u ≠ [] := by
  rw [Lib.decDigits]
  split <;> simp
theorem dd_44 (u : Nat) : (44 : UInt8) ∉ Lib.decDigits u := fun h => by
  have := dd_mem u 44 h
  have e : (44 : UInt8).toNat = 44 := rfl
  omega
theorem split_last {X Y a b : List UInt8} (ha : (44 : UInt8) ∉ a) (hb : (44 : UInt8) ∉ b) (h : X ++ 44 :: a = Y ++ 44 :: b) : X = Y ∧ a = b := by
  have h2 := congrArg List.reverse h
  simp only [List.reverse_append, List.reverse_cons, List.append_assoc, List.singleton_append] at h2
  have key : ∀ (a b X Y : List UInt8), (44 : UInt8) ∉ a → (44 : UInt8) ∉ b → a ++ 44 :: X = b ++ 44 :: Y → a = b ∧ X = Y := by
    intro a
    induction a with
    | nil =>
      intro b X Y _ hb h
      cases b with
      | nil => simp at h; exact ⟨rfl, h⟩
      | cons c b =>
        simp at h
        exact absurd h.1.symm (fun e => hb (by simp [e]))
    | cons c a ih =>
      intro b X Y ha hb h
      cases b with
      | nil =>
        simp at h
        exact absurd h.1 (fun e => ha (by simp [e]))
      | cons d b =>
        simp only [List.cons_append, List.cons.injEq] at h
        obtain ⟨e1, e2⟩ := ih b X Y (fun h => ha (by simp [h])) (fun h => hb (by simp [h])) h.2
        exact ⟨by rw [h.1, e1], e2⟩
  obtain ⟨e1, e2⟩ := key a.reverse b.reverse X.reverse Y.reverse (by simpa using ha) (by simpa using hb) h2
  exact ⟨by simpa using e2, by simpa using e1⟩

/-- All counts from 0 on. -/
def NN (f : Nat → Int) : Prop := ∀ j, j < 8 → 0 ≤ f j
theorem itoa_nn {x : Int} (h : 0 ≤ x) : Lib.itoa x = Lib.decDigits x.toNat := by
  unfold Lib.itoa
  rw [if_neg (by omega)]
theorem itoa_44 {x : Int} (h : 0 ≤ x) : (44 : UInt8) ∉ Lib.itoa x := by
  rw [itoa_nn h]
  exact dd_44 _
theorem itoa_inj {x y : Int} (hx : 0 ≤ x) (hy : 0 ≤ y) (h : Lib.itoa x = Lib.itoa y) : x = y := by
  rw [itoa_nn hx, itoa_nn hy] at h
  have := dd_inj h
  omega
theorem textL_two (f : Nat → Int) (n : Nat) : textL f (n + 2) = textL f (n + 1) ++ 44 :: Lib.itoa (f (n + 1)) := by simp [textL]
theorem textL_one (f : Nat → Int) : textL f 1 = Lib.itoa (f 0) := by simp [textL]
theorem textL_inj {f g : Nat → Int} (hf : NN f) (hg : NN g) : ∀ n m, n < 8 → m < 8 → textL f (n + 1) = textL g (m + 1) → n = m ∧ ∀ j, j ≤ n → f j = g j := by
  intro n
  induction n with
  | zero =>
    intro m _ hm h
    cases m with
    | zero =>
      rw [textL_one, textL_one] at h
      exact ⟨rfl, fun j hj => by rw [show j = 0 by omega]; exact itoa_inj (hf 0 (by omega)) (hg 0 (by omega)) h⟩
    | succ m =>
      rw [textL_one, textL_two] at h
      exact absurd (by rw [h]; simp) (itoa_44 (hf 0 (by omega)))
  | succ n ih =>
    intro m hn hm h
    cases m with
    | zero =>
      rw [textL_one, textL_two] at h
      exact absurd (by rw [← h]; simp) (itoa_44 (hg 0 (by omega)))
    | succ m =>
      rw [textL_two, textL_two] at h
      obtain ⟨e1, e2⟩ := split_last (itoa_44 (hf (n + 1) (by omega))) (itoa_44 (hg (m + 1) (by omega))) h
      obtain ⟨rfl, e3⟩ := ih m (by omega) (by omega) e1
      refine ⟨rfl, fun j hj => ?_⟩
      rcases Nat.lt_or_ge j (n + 1) with h1 | h1
      · exact e3 j (by omega)
      · rw [show j = n + 1 by omega]
        exact itoa_inj (hf _ (by omega)) (hg _ (by omega)) e2
theorem lastV_spec (f : Nat → Int) : ∀ n, (∀ j, lastV f n ≤ j → j < n → f j = 0) ∧ (0 < lastV f n → f (lastV f n - 1) ≠ 0)
  | 0 => by simp [lastV]
  | n + 1 => by
    have ih := lastV_spec f n
    simp only [lastV]
    split
    · rename_i h0
      refine ⟨fun j h1 h2 => ?_, ih.2⟩
      rcases Nat.lt_or_ge j n with h3 | h3
      · exact ih.1 j h1 h3
      · rw [show j = n by omega]; exact h0
    · rename_i h0
      exact ⟨fun j h1 h2 => by omega, fun _ => by simpa using h0⟩
theorem text_zero : Lib.itoa 0 = [48] := by simp [Lib.itoa, Lib.decDigits]
/-- The last count's place, from 1 on. -/
def topV (f : Nat → Int) : Nat := max 1 (lastV f 8)
theorem textV_top {f : Nat → Int} : textV f = textL f (topV f) := by
  unfold textV topV
  split
  · rename_i h
    have h0 : f 0 = 0 := (lastV_zero f 8).1 h 0 (by omega)
    rw [h]
    simp [textL, h0, text_zero]
  · rename_i h
    rw [show max 1 (lastV f 8) = lastV f 8 by omega]
theorem topV_le (f : Nat → Int) : 1 ≤ topV f ∧ topV f ≤ 8 := by
  have := lastV_le f 8
  unfold topV
  omega
theorem topV_zero (f : Nat → Int) (j : Nat) (h : topV f ≤ j) (hj : j < 8) : f j = 0 := (lastV_spec f 8).1 j (by unfold topV at h; omega) hj
theorem topV_last (f : Nat → Int) (h : topV f ≠ 1) : f (topV f - 1) ≠ 0 := by
  have := (lastV_spec f 8).2
  unfold topV at *
  rw [show max 1 (lastV f 8) = lastV f 8 by omega]
  exact this (by omega)
theorem textV_inj {f g : Nat → Int} (hf : NN f) (hg : NN g) (h : textV f = textV g) : ∀ j, j < 8 → f j = g j := by
  rw [textV_top, textV_top] at h
  have a := topV_le f
  have b := topV_le g
  obtain ⟨n, hn⟩ : ∃ n, topV f = n + 1 := ⟨topV f - 1, by omega⟩
  obtain ⟨m, hm⟩ : ∃ m, topV g = m + 1 := ⟨topV g - 1, by omega⟩
  rw [hn, hm] at h
  obtain ⟨rfl, e⟩ := textL_inj hf hg n m (by omega) (by omega) h
  intro j hj
  rcases Nat.lt_or_ge j (n + 1) with h1 | h1
  · exact e j (by omega)
  · rw [topV_zero f j (by omega) hj, topV_zero g j (by omega) hj]
theorem lastV_congr {f g : Nat → Int} (n : Nat) (h : ∀ j, j < n → f j = g j) : lastV f n = lastV g n := by
  induction n with
  | zero => rfl
  | succ n ih =>
    simp only [lastV]
    rw [h n (by omega), ih (fun j hj => h j (by omega))]
theorem textL_congr {f g : Nat → Int} (n : Nat) (h : ∀ j, j < n → f j = g j) : textL f n = textL g n := by
  induction n with
  | zero => rfl
  | succ n ih =>
    simp only [textL]
    rw [h n (by omega), ih (fun j hj => h j (by omega))]
theorem textV_congr {f g : Nat → Int} (h : ∀ j, j < 8 → f j = g j) : textV f = textV g := by
  have h8 := lastV_congr 8 h
  have hl := lastV_le g 8
  unfold textV
  rw [h8, textL_congr (lastV g 8) (fun j hj => h j (by omega))]
theorem count_text {f : Nat → Int} (hf : NN f) (n : Nat) (h : n < 8) : (textL f (n + 1)).count 44 = n := by
  induction n with
  | zero =>
    rw [textL_one]
    exact List.count_eq_zero.2 (itoa_44 (hf 0 (by omega)))
  | succ n ih =>
    rw [textL_two, List.count_append, ih (by omega), List.count_cons_self, List.count_eq_zero.2 (itoa_44 (hf (n + 1) (by omega)))]
theorem count_textV {f : Nat → Int} (hf : NN f) : (textV f).count 44 + 1 = topV f := by
  have a := topV_le f
  obtain ⟨n, hn⟩ : ∃ n, topV f = n + 1 := ⟨topV f - 1, by omega⟩
  rw [textV_top, hn, count_text hf n (by omega)]
end Go.Proofs.YtalcfkdmlebkbaaDoor
