/- Slices of integers that came in. -/
import Derived.Test.YtapopmcdnpplbaaCt21
import Derived.OpenShut
import Derived.ChangeOld
import Derived.ChangeSame
import Derived.SizedLaws
import Derived.Deep.Slices
namespace Go.Proofs.Ytapopmcdnpplbaa
set_option maxRecDepth 100000
open Go.ChangeShapes Go.WideShapes Go.ChangeAt Go.RowKit

theorem wfI {n : Int} (h : (Lit.int .i64 n).wf = true) : -9223372036854775808 ≤ n ∧ n ≤ 9223372036854775807 := by
  simp [Lit.wf] at h
  exact h
theorem wfU64 {n : Int} (h : (Lit.int .u64 n).wf = true) : ∃ x : Nat, n = (x : Int) ∧ x < 18446744073709551616 := by
  simp [Lit.wf] at h
  have e1 : IntKind.u64.min = 0 := rfl
  have e2 : IntKind.u64.max = 18446744073709551615 := rfl
  exact ⟨n.toNat, by omega, by omega⟩
/-- A slice that reads as these integers. -/
structure Inz (w : World) (a : Option Addr) (len cap : Nat) (B : Nat → Int) : Prop where
  hlen : len ≤ 9223372036854775807
  at_ : ∀ i, i < len → ∃ b off, a = some ⟨b, off, none⟩ ∧ w.cell? ⟨b, off + i, none⟩ = some (.int .i64 (B i))
  lo : ∀ i, i < len → -9223372036854775808 ≤ B i ∧ B i ≤ 9223372036854775807
theorem argIz {H : Type} {enc : TypeId × Value → H} {w : World} {fuel : Nat} {a : Option Addr} {len cap : Nat} {x : DataW H × List MemPlace}
    (h : DataW.trod enc Try.prog w 0 (fun _ => true) true fuel 22 (Value.slice a len cap).cells.toList = some x) : ∃ B, Inz w a len cap B := by
  rcases open_ints Try.underlying22 Try.underlying3 (by kernel_rfl) h with ⟨hcs, _⟩ | ⟨x, l, c, zs, hcs, _, hl, hm, hz, hx, hcell, hwz⟩
  · simp [Value.cells] at hcs
    obtain ⟨rfl, rfl, rfl⟩ := hcs
    exact ⟨fun _ => 0, by omega, fun i hi => by omega, fun i hi => by omega⟩
  · simp [Value.cells] at hcs
    obtain ⟨rfl, rfl, rfl⟩ := hcs
    simp only [if_true] at hz
    unfold maxLen at hm
    refine ⟨fun i => zs.getD i 0, by omega, fun i hi => ?_, fun i hi => wfI (hwz _ ?_)⟩
    · obtain ⟨b, off, rfl, hc⟩ := ints_at hcell (by omega)
      exact ⟨b, off, rfl, hc i (by omega)⟩
    · have : i < zs.length := by omega
      show zs.getD i 0 ∈ zs
      rw [List.getD_eq_getElem?_getD, List.getElem?_eq_getElem this]
      exact List.getElem_mem this
theorem off_cell {W w : World} (h : Off (fun _ => False) W w) {b o : Nat} {v : Value} (hc : W.cell? ⟨b, o, none⟩ = some v) : w.cell? ⟨b, o, none⟩ = some v := Off.keep h hc (fun h => h)
/-- The rest of a number, read without its sign. -/
theorem rem_any (a k : Int) (h0 : 0 < k) : ∃ r : Nat, (IntKind.u64.wrap a).tmod k = (r : Int) ∧ (r : Int) < k := by
  have hnn : 0 ≤ IntKind.u64.wrap a := by rw [IntKind.wrap_u64]; omega
  have e := Int.tmod_eq_emod_of_nonneg (b := k) hnn
  have h1 := Int.emod_nonneg (IntKind.u64.wrap a) (show k ≠ 0 by omega)
  have h2 := Int.emod_lt_of_pos (IntKind.u64.wrap a) h0
  obtain ⟨r, hr⟩ := Int.eq_ofNat_of_zero_le h1
  exact ⟨r, by rw [e, hr], by omega⟩

/-- Who has answered behind the first so many. -/
def run (B : Nat → Int) : Nat → Nat → Bool
  | 0 => fun _ => false
  | i + 1 => if okN (B i) then put (run B i) (B i).toNat else run B i
theorem run_mem (B : Nat → Int) : ∀ (k j : Nat), j < 8 → (run B k j = true ↔ ∃ i, i < k ∧ B i = (j : Int))
  | 0, j, _ => Iff.intro (fun h => Bool.noConfusion h) (fun ⟨i, h, _⟩ => absurd h (Nat.not_lt_zero i))
  | k + 1, j, hj => by
    have ih := run_mem B k j hj
    have key : run B (k + 1) j = true ↔ (run B k j = true ∨ B k = (j : Int)) := by
      show (if okN (B k) then put (run B k) (B k).toNat else run B k) j = true ↔ _
      split
      · rename_i h
        obtain ⟨n, h1, h2⟩ := okN_nat h
        rw [h2, Int.toNat_natCast]
        show (run B k j || decide (j = n)) = true ↔ _
        rw [Bool.or_eq_true, decide_eq_true_eq]
        exact or_congr Iff.rfl ⟨fun h => by rw [h], fun h => (Int.ofNat.inj h).symm⟩
      · rename_i h
        have : B k ≠ (j : Int) := fun e => h (by rw [e]; exact okN_of hj)
        simp [this]
    rw [key, ih]
    refine ⟨fun h => ?_, fun ⟨i, h1, h2⟩ => ?_⟩
    · rcases h with ⟨i, h1, h2⟩ | h
      · exact ⟨i, by omega, h2⟩
      · exact ⟨k, by omega, h⟩
    · by_cases e : i = k
      · subst e; exact .inr h2
      · exact .inl ⟨i, by omega, h2⟩
/-- How often it has been told that there are enough. -/
def tld (m : Int) (n : Nat) : Nat := if 1 ≤ m ∧ m ≤ (n : Int) then 1 else 0
theorem tld_le (m : Int) (n : Nat) : tld m n ≤ 1 := by unfold tld; split <;> omega
theorem tld_put (m : Int) (n : Nat) : tld m (n + 1) = tld m n + (decide ((n : Int) + 1 = m)).toNat := by
  unfold tld
  by_cases h : (n : Int) + 1 = m
  · rw [if_pos (by omega), if_neg (by omega)]; simp [h]
  · simp only [h, decide_false, Bool.toNat_false, Nat.add_zero]
    by_cases h1 : 1 ≤ m ∧ m ≤ (n : Int)
    · rw [if_pos (by omega), if_pos h1]
    · rw [if_neg (by omega), if_neg h1]

/-- What Add of one more tells. -/
def tells (m : Int) (f : Nat → Bool) (x : Int) : Bool := okN x && (!f x.toNat && decide ((cnt f 8 : Int) + 1 = m))
theorem tells_cnt (m : Int) (B : Nat → Int) (i : Nat) : tld m (cnt (run B (i + 1)) 8) = tld m (cnt (run B i) 8) + (tells m (run B i) (B i)).toNat := by
  show tld m (cnt (if okN (B i) then put (run B i) (B i).toNat else run B i) 8) = _
  unfold tells
  split
  · rename_i h
    obtain ⟨n, h1, h2⟩ := okN_nat h
    rw [h, h2, Int.toNat_natCast]
    cases hf : run B i n
    · rw [cnt_put hf h1, tld_put]; rfl
    · have : put (run B i) n = run B i := funext fun j => by
        by_cases e : j = n
        · subst e; rw [put_same, hf]
        · exact put_ne _ e
      rw [this]; rfl
  · rename_i h
    simp only [Bool.not_eq_true] at h
    rw [h]; rfl
theorem put_old {f : Nat → Bool} {n : Nat} (h : f n = true) : put f n = f := funext fun j => by
  by_cases e : j = n
  · subst e; rw [put_same, h]
  · exact put_ne _ e
theorem add_any {b : Nat} {m : Int} {B : Nat → Int} {i : Nat} {w : World} (h : Cnt b m (run B i) w) : Calls Try.prog 8 #[.pointer (some ⟨b, 0, none⟩), .int .i64 (B i)] w fun e w' => e = .returned (.bool (tells m (run B i) (B i))) ∧ Cnt b m (run B (i + 1)) w' ∧ Off (fun c => c = b) w w' := by
  have er : run B (i + 1) = if okN (B i) then put (run B i) (B i).toNat else run B i := rfl
  rw [er]
  unfold tells
  split
  · rename_i h1
    obtain ⟨n, hn, e⟩ := okN_nat h1
    rw [h1, e, Int.toNat_natCast]
    cases hf : run B i n
    · exact (add_new h hn hf).mono fun e w' h => h
    · rw [put_old hf]
      exact (add_twice h hn hf).mono fun e w' h2 => ⟨h2.1, by rw [h2.2]; exact h, by rw [h2.2]; exact Off.refl _ _⟩
  · rename_i h1
    simp only [Bool.not_eq_true] at h1
    rw [h1]
    exact (add_none h1 b w).mono fun e w' h2 => ⟨h2.1, by rw [h2.2]; exact h, by rw [h2.2]; exact Off.refl _ _⟩
theorem has_any {b : Nat} {m : Int} {f : Nat → Bool} {w : World} (h : Cnt b m f w) (x : Int) : Calls Try.prog 11 #[.pointer (some ⟨b, 0, none⟩), .int .i64 x] w fun e w' => e = .returned (.bool (okN x && f x.toNat)) ∧ w' = w := by
  by_cases h1 : okN x = true
  · obtain ⟨n, hn, rfl⟩ := okN_nat h1
    rw [h1, Int.toNat_natCast]
    exact has_at h hn
  · simp only [Bool.not_eq_true] at h1
    rw [h1]
    exact has_no h1 b w
end Go.Proofs.Ytapopmcdnpplbaa
