/- Texts of vectors: of whatever counts; taken apart from the left; decimals taken back. -/
import Derived.Test.YtalcfkdmlebkbaaDoorTextP
import Derived.Lib.ParseIntB
namespace Go.Proofs.YtalcfkdmlebkbaaDoor
open Go.RowKit

theorem itoa_neg' {x : Int} (h : x < 0) : Lib.itoa x = 45 :: Lib.decDigits x.natAbs := by
  unfold Lib.itoa
  rw [if_pos h]
theorem itoa_44' (x : Int) : (44 : UInt8) ∉ Lib.itoa x := by
  rcases Int.lt_or_le x 0 with h | h
  · rw [itoa_neg' h]
    simp only [List.mem_cons, not_or]
    exact ⟨by decide, dd_44 _⟩
  · exact itoa_44 h
theorem itoa_ne (x : Int) : Lib.itoa x ≠ [] := by
  rcases Int.lt_or_le x 0 with h | h
  · rw [itoa_neg' h]; simp
  · rw [itoa_nn h]; exact dd_ne _
theorem itoa_inj' {x y : Int} (h : Lib.itoa x = Lib.itoa y) : x = y := by
  have key : ∀ {x y : Int}, x < 0 → 0 ≤ y → Lib.itoa x ≠ Lib.itoa y := by
    intro x y hx hy e
    rw [itoa_neg' hx, itoa_nn hy] at e
    have := dd_mem y.toNat 45 (by rw [← e]; simp)
    have e : (45 : UInt8).toNat = 45 := rfl
    omega
  rcases Int.lt_or_le x 0 with hx | hx
  · rcases Int.lt_or_le y 0 with hy | hy
    · rw [itoa_neg' hx, itoa_neg' hy] at h
      have := dd_inj (List.cons.inj h).2
      omega
    · exact absurd h (key hx hy)
  · rcases Int.lt_or_le y 0 with hy | hy
    · exact absurd h.symm (key hy hx)
    · exact itoa_inj hx hy h
theorem textL_inj' {f g : Nat → Int} : ∀ n m, textL f (n + 1) = textL g (m + 1) → n = m ∧ ∀ j, j ≤ n → f j = g j := by
  intro n
  induction n with
  | zero =>
    intro m h
    cases m with
    | zero =>
      rw [textL_one, textL_one] at h
      exact ⟨rfl, fun j hj => by rw [show j = 0 by omega]; exact itoa_inj' h⟩
    | succ m =>
      rw [textL_one, textL_two] at h
      exact absurd (by rw [h]; simp) (itoa_44' (f 0))
  | succ n ih =>
    intro m h
    cases m with
    | zero =>
      rw [textL_one, textL_two] at h
      exact absurd (by rw [← h]; simp) (itoa_44' (g 0))
    | succ m =>
      rw [textL_two, textL_two] at h
      obtain ⟨e1, e2⟩ := split_last (itoa_44' (f (n + 1))) (itoa_44' (g (m + 1))) h
      obtain ⟨rfl, e3⟩ := ih m e1
      refine ⟨rfl, fun j hj => ?_⟩
      rcases Nat.lt_or_ge j (n + 1) with h1 | h1
      · exact e3 j (by omega)
      · rw [show j = n + 1 by omega]
        exact itoa_inj' e2
theorem textV_inj' {f g : Nat → Int} (h : textV f = textV g) : ∀ j, j < 8 → f j = g j := by
  rw [textV_top, textV_top] at h
  have a := topV_le f
  have b := topV_le g
  obtain ⟨n, hn⟩ : ∃ n, topV f = n + 1 := ⟨topV f - 1, by omega⟩
  obtain ⟨m, hm⟩ : ∃ m, topV g = m + 1 := ⟨topV g - 1, by omega⟩
  rw [hn, hm] at h
  obtain ⟨rfl, e⟩ := textL_inj' n m h
  intro j hj
  rcases Nat.lt_or_ge j (n + 1) with h1 | h1
  · exact e j (by omega)
  · rw [topV_zero f j (by omega) hj, topV_zero g j (by omega) hj]

/-- The text of k + 1 counts from the place i on. -/
def tailT (f : Nat → Int) : Nat → Nat → List UInt8
  | 0, i => Lib.itoa (f i)
  | k + 1, i => Lib.itoa (f i) ++ 44 :: tailT f k (i + 1)
theorem tailT_snoc (f : Nat → Int) (k i : Nat) : tailT f (k + 1) i = tailT f k i ++ 44 :: Lib.itoa (f (i + k + 1)) := by
  induction k generalizing i with
  | zero => rfl
  | succ k ih =>
    rw [tailT, ih (i + 1)]
    simp only [tailT, List.append_assoc, List.cons_append]
    rw [show i + 1 + k + 1 = i + (k + 1) + 1 by omega]
theorem textL_tail (f : Nat → Int) (n : Nat) : textL f (n + 1) = tailT f n 0 := by
  induction n with
  | zero => exact textL_one f
  | succ n ih => rw [textL_two, ih, tailT_snoc, Nat.zero_add]

theorem fold_le (l : List UInt8) : ∀ a, a ≤ l.foldl (fun a c => a * 10 + (c.toNat - 48)) a := by
  induction l with
  | nil => intro a; simp
  | cons c l ih =>
    intro a
    simp only [List.foldl_cons]
    have := ih (a * 10 + (c.toNat - 48))
    omega
theorem parseM_ok (l : List UInt8) : ∀ a, (∀ c ∈ l, 48 ≤ c.toNat ∧ c.toNat ≤ 57) → l.foldl (fun a c => a * 10 + (c.toNat - 48)) a < 1000000000000000000 → Lib.parseUintM (2 ^ 64 - 1) a l = .ok (l.foldl (fun a c => a * 10 + (c.toNat - 48)) a) := by
  induction l with
  | nil => intro a _ _; rfl
  | cons c l ih =>
    intro a hd hb
    have hc := hd c (by simp)
    simp only [List.foldl_cons] at hb ⊢
    have hle := fold_le l (a * 10 + (c.toNat - 48))
    simp only [Lib.parseUintM]
    rw [if_pos hc, if_neg (by omega), if_neg (by omega)]
    exact ih _ (fun x hx => hd x (by simp [hx])) hb
theorem parse_dd {u : Nat} (h : u < 1000000000000000000) : Lib.parseIntB 64 (Lib.decDigits u) = .ok (u : Int) := by
  have hm := dd_mem u
  have hv := dd_val u
  have hn := dd_ne u
  generalize Lib.decDigits u = l at hm hv hn
  cases l with
  | nil => exact absurd rfl hn
  | cons c r =>
    have hc := hm c (by simp)
    have hp : Lib.parseUintB 64 (c :: r) = .ok u := by
      simp only [Lib.parseUintB]
      rw [if_neg (by simp), parseM_ok (c :: r) 0 hm (by rw [show (c :: r).foldl (fun a c => a * 10 + (c.toNat - 48)) 0 = u from hv]; exact h)]
      exact congrArg _ hv
    simp only [Lib.parseIntB]
    rw [if_neg (by omega), hp]
    simp only
    rw [if_neg (by omega), if_neg (by omega), if_neg (by omega)]
theorem parse_itoa {x : Int} (h0 : 0 ≤ x) (h1 : x < 1000000000000000000) : Lib.parseIntB 64 (Lib.itoa x) = .ok x := by
  rw [itoa_nn h0, parse_dd (by omega)]
  congr 1
  omega
end Go.Proofs.YtalcfkdmlebkbaaDoor
