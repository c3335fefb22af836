/- Each of all, just once: the theory. -/
import Derived.Test.YtachdgbgcdplnaaFair19
namespace Go.Proofs.Ytachdgbgcdplnaa
set_option maxRecDepth 100000
open Go.RowKit

def chk1 (m s p : Nat) : Bool := p == s || (decide ((p + m - s) % (m + 1) < m) && (List.range m).all fun z => ((s + 1 + z) % (m + 1) == p) == (z == (p + m - s) % (m + 1)))
theorem all_chk1 : ∀ m, m < 8 → 1 ≤ m → ∀ s, s < m + 1 → ∀ p, p < m + 1 → chk1 m s p = true := by decide +kernel
theorem all_dec1 (m : Nat) (hm : m < 8) (h1 : 1 ≤ m) (s : Nat) (hs : s < m + 1) (p : Nat) (hp : p < m + 1) (hne : p ≠ s) : (p + m - s) % (m + 1) < m ∧ ∀ z, z < m → ((s + 1 + z) % (m + 1) == p) = (z == (p + m - s) % (m + 1)) := by
  have h := all_chk1 m hm h1 s hs p hp
  unfold chk1 at h
  rw [show (p == s) = false by simpa using hne, Bool.false_or, Bool.and_eq_true] at h
  refine ⟨of_decide_eq_true h.1, fun z hz => ?_⟩
  have := List.all_eq_true.1 h.2 z (List.mem_range.2 hz)
  exact eq_of_beq this
theorem all_dec2 : ∀ m, m < 8 → 1 ≤ m → ∀ s, s < m + 1 → ∀ z, z < m → ((s + 1 + z) % (m + 1) == s) = false := by decide +kernel
theorem all_dec3 : ∀ m, m < 8 → 1 ≤ m → ∀ g, g < 4 * m → ∀ x, x < m → ∀ y, y < 4 → cnt (fun k => (g + k) % m == x && (g + k) / m % 4 == y) (4 * m) = 1 := by decide +kernel
/-- Whether at the kth tick from t on the node s tells p of b. -/
def tld (m s t p b k : Nat) : Bool := (s + 1 + (t + k) % m) % (m + 1) == p && (t + k) / m % 4 == b
theorem all_cnt (m s t p b : Nat) (h1 : 1 ≤ m) (hm : m ≤ 7) (hs : s < m + 1) (hp : p < m + 1) (hb : b < 4) : cnt (tld m s t p b) (4 * m) = if p = s then 0 else 1 := by
  have hz : ∀ k, (t + k) % m < m := fun k => Nat.mod_lt _ (by omega)
  by_cases e : p = s
  · subst e
    rw [if_pos rfl]
    refine cnt_none fun k _ => ?_
    unfold tld
    rw [all_dec2 m (by omega) h1 p hs _ (hz k)]
    rfl
  · rw [if_neg e]
    obtain ⟨hx, hx2⟩ := all_dec1 m (by omega) h1 s hs p hp e
    generalize (p + m - s) % (m + 1) = x at hx hx2
    have hg : t % (4 * m) < 4 * m := Nat.mod_lt _ (by omega)
    rw [← all_dec3 m (by omega) h1 (t % (4 * m)) hg x hx b hb]
    refine cnt_congr fun k _ => ?_
    unfold tld
    rw [hx2 _ (hz k)]
    have e1 : (t + k) % m = (t % (4 * m) + k) % m := by
      conv => lhs; rw [← Nat.div_add_mod t (4 * m)]
      rw [show 4 * m * (t / (4 * m)) + t % (4 * m) + k = (t % (4 * m) + k) + m * (4 * (t / (4 * m))) by rw [Nat.mul_comm 4 m, Nat.mul_assoc]; omega, Nat.add_mul_mod_self_left]
    have e2 : (t + k) / m % 4 = (t % (4 * m) + k) / m % 4 := by
      conv => lhs; rw [← Nat.div_add_mod t (4 * m)]
      rw [show 4 * m * (t / (4 * m)) + t % (4 * m) + k = (t % (4 * m) + k) + m * (4 * (t / (4 * m))) by rw [Nat.mul_comm 4 m, Nat.mul_assoc]; omega, Nat.add_mul_div_left _ _ (by omega)]
      omega
    rw [e1, e2]
theorem upd_cnt4 (f : Nat → Int) (P : Nat → Nat → Nat → Bool) (i p0 b0 N : Nat) (hb : b0 < 4) (hf : ∀ p b, p < N → b < 4 → f (p * 4 + b) = (cnt (P p b) i : Int)) (h0 : P p0 b0 i = true) (h1 : ∀ p b, p ≠ p0 ∨ b ≠ b0 → P p b i = false) :
    ∀ p b, p < N → b < 4 → upd f (p0 * 4 + b0) (f (p0 * 4 + b0) + 1) (p * 4 + b) = (cnt (P p b) (i + 1) : Int) := by
  intro p b hp hb4
  by_cases e : p = p0 ∧ b = b0
  · obtain ⟨rfl, rfl⟩ := e
    rw [upd_same, hf p b hp hb4]
    show _ = ((cnt (P p b) i + (P p b i).toNat : Nat) : Int)
    rw [h0]
    rfl
  · rw [upd_ne _ _ (by omega), hf p b hp hb4]
    show _ = ((cnt (P p b) i + (P p b i).toNat : Nat) : Int)
    rw [h1 p b (by omega)]
    rfl
theorem tld_self (m s t k : Nat) : tld m s t ((s + 1 + (t + k) % m) % (m + 1)) ((t + k) / m % 4) k = true := by simp [tld]
theorem tld_other (m s t k p b : Nat) (h : p ≠ (s + 1 + (t + k) % m) % (m + 1) ∨ b ≠ (t + k) / m % 4) : tld m s t p b k = false := by
  simp [tld]
  omega
theorem tld_peer (m s t : Nat) (h1 : 1 ≤ m) (hm : m ≤ 7) (hs : s < m + 1) : (s + 1 + t % m) % (m + 1) ≠ s := by
  have := all_dec2 m (by omega) h1 s hs (t % m) (Nat.mod_lt _ (by omega))
  simpa using this
end Go.Proofs.Ytachdgbgcdplnaa
