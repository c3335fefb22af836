/- What a file of a call's own tells. -/
import Derived.Test.YtibnhgpenfcinaaAtt
import Derived.Test.YtibnhgpenfcinaaNil6
namespace Go.Proofs.Ytibnhgpenfcinaa
open Go.RowKit

theorem amost_any {w v : World} {b most : Nat} {bs : List Nat} {s : Nat} (h : Att w v b most bs s) :
    Calls Try.prog 10 #[.pointer (some ⟨b, 0, none⟩)] v fun e v' => e = .returned (.int .i64 (most : Int)) ∧ v' = v := by
  obtain ⟨h1, D, k, hd⟩ := h
  exact most_any k
theorem asize_any {w v : World} {b most : Nat} {bs : List Nat} {s : Nat} (h : Att w v b most bs s) :
    Calls Try.prog 17 #[.pointer (some ⟨b, 0, none⟩)] v fun e v' => e = .returned (.int .i64 (bs.length : Int)) ∧ v' = v := by
  obtain ⟨h1, D, k, hd⟩ := h
  exact size_any k
theorem asure_any {w v : World} {b most : Nat} {bs : List Nat} {s : Nat} (h : Att w v b most bs s) :
    Calls Try.prog 18 #[.pointer (some ⟨b, 0, none⟩)] v fun e v' => e = .returned (.int .i64 (s : Int)) ∧ v' = v := by
  obtain ⟨h1, D, k, hd⟩ := h
  exact sure_any k
theorem wrap_mod1 (n : Nat) (p : Int) : ∃ m : Nat, m ≤ n ∧ (IntKind.u64.wrap p).tmod ((n : Int) + 1) = (m : Int) := by
  refine ⟨(p % 18446744073709551616).toNat % (n + 1), by have := Nat.mod_lt (p % 18446744073709551616).toNat (show n + 1 > 0 by omega); omega, ?_⟩
  have := wrap_mod (n := n) (s := 0) (Nat.zero_le _) p _ rfl
  simpa using this
theorem wrap_modc (k : Nat) (hk : 0 < k) (p : Int) : ∃ m : Nat, m < k ∧ (IntKind.u64.wrap p).tmod (k : Int) = (m : Int) := by
  obtain ⟨m, h1, h2⟩ := wrap_mod1 (k - 1) p
  refine ⟨m, by omega, ?_⟩
  rw [← h2]
  congr 1
  omega
end Go.Proofs.Ytibnhgpenfcinaa
