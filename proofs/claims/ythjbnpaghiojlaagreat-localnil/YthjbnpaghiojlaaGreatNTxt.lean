/- Items of several texts. -/
import Derived.Test.YthjbnpaghiojlaaGreatNMem
namespace Go.Proofs.YthjbnpaghiojlaaGreat
open Go.RowKit

/-- The bytes of a string. -/
def tx (s : ByteArray) : List Nat := s.data.toList.map UInt8.toNat
theorem map_inj : ∀ {a b : List UInt8}, a.map UInt8.toNat = b.map UInt8.toNat → a = b
  | [], [], _ => rfl
  | [], _ :: _, h => by simp at h
  | _ :: _, [], h => by simp at h
  | x :: a, y :: b, h => by
    simp only [List.map_cons, List.cons.injEq] at h
    rw [UInt8.toNat_inj.1 h.1, map_inj h.2]
theorem tx_inj {s r : ByteArray} (h : tx s = tx r) : s = r := by
  obtain ⟨⟨a⟩⟩ := s
  obtain ⟨⟨b⟩⟩ := r
  have := map_inj (show a.map UInt8.toNat = b.map UInt8.toNat from h)
  rw [this]
theorem toL (s : ByteArray) : s.toList = s.data.toList := by
  obtain ⟨⟨a⟩⟩ := s
  simp
theorem tx_eql (s r : ByteArray) : (s.toList == r.toList) = decide (tx s = tx r) := by
  rw [toL, toL]
  by_cases h : tx s = tx r
  · rw [decide_eq_true h, tx_inj h]
    simp
  · rw [decide_eq_false h, beq_eq_false_iff_ne]
    intro e
    exact h (by unfold tx; rw [e])
/-- Does a byte stand as it is? -/
def pl (c : Nat) : Bool := (decide (97 ≤ c) && decide (c ≤ 122)) || (decide (48 ≤ c) && decide (c ≤ 57))
/-- A digit of base 16. -/
def hx (n : Nat) : Nat := if n < 10 then n + 48 else n + 87
/-- The text of a byte. -/
def t1 (c : Nat) : List Nat := if pl c = true then [c] else [37, hx (c / 16), hx (c % 16)]
end Go.Proofs.YthjbnpaghiojlaaGreat
