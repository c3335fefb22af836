/- Items of several texts. -/
import Derived.Test.YtmbphlkohlggfaaGreatADot5
import Derived.Test.YtmbphlkohlggfaaGreatAGRe
namespace Go.Proofs.YtmbphlkohlggfaaGreat
theorem rdSt_ok {s : RS} (h : Ok s) : ∀ n, Ok (rdSt s n)
 | 0 => h
 | n + 1 => by
  have h1 := (num_ok (rdSt_ok h n)).1
  have h2 := (num_ok h1).1
  exact text_ok 200 (flag_ok h2)
theorem node_eq {f : Nat → Int} {m : Nat} {N : Int} (hm : m < 18446744073709551616) (h : coversB f (nodeP m) N = true ∨ coversB f (nodeR m) N = true) : nodeP m = nodeR m := by
 rw [cov_iff, cov_iff] at h
 unfold nodeP nodeR RowKit.wrap64 at *
 omega
theorem rdL_eq {f : Nat → Int} {s : RS} {n : Nat} (hok : Ok s) (h : mayS f (rdL nodeP n s) = true ∨ mayS f (rdL nodeR n s) = true) : rdL nodeP n s = rdL nodeR n s := by
 unfold rdL
 refine List.map_congr_left fun i hi => ?_
 have key : nodeP (valN (rdSt s i)) = nodeR (valN (rdSt s i)) := by
  refine node_eq (f := f) (N := valI (rdSt s i)) (num_ok (rdSt_ok hok i)).2.1 ?_
  rcases h with h | h
  ·have := ((may_iff.1 h).cov (rdA nodeP (rdSt s i)) (List.mem_map.2 ⟨i, hi, rfl⟩)).1
   exact .inl this
  ·have := ((may_iff.1 h).cov (rdA nodeR (rdSt s i)) (List.mem_map.2 ⟨i, hi, rfl⟩)).1
   exact .inr this
 unfold rdA
 rw [key]
theorem sr_eq {s : RS} (hok : Ok s) : srB nodeP s = srB nodeR s ∧ srF nodeP s = srF nodeR s ∧ srL nodeP s = srL nodeR s := by
 have hk : Ok (countS 16 (rdV s 8)).2 := (count_ok 16 (rdV_ok hok 8)).1
 by_cases h : mayS (readF s) (srV nodeP s) = true ∨ mayS (readF s) (srV nodeR s) = true
 ·have e : srV nodeP s = srV nodeR s := rdL_eq hk h
  have e2 : srB nodeP s = srB nodeR s := by unfold srB; rw [e]
  exact ⟨e2, by unfold srF; rw [e2], by unfold srL; rw [e2, e]⟩
 ·have h1 : mayS (readF s) (srV nodeP s) = false := by
   cases h2 : mayS (readF s) (srV nodeP s)
   ·rfl
   ·exact absurd (.inl h2) h
  have h3 : mayS (readF s) (srV nodeR s) = false := by
   cases h2 : mayS (readF s) (srV nodeR s)
   ·rfl
   ·exact absurd (.inr h2) h
  obtain ⟨a1, a2, a3⟩ := sr_no (nd := nodeP) (s := s) (.inr (.inr h1))
  obtain ⟨b1, b2, b3⟩ := sr_no (nd := nodeR) (s := s) (.inr (.inr h3))
  exact ⟨a1.trans b1.symm, a2.symm.trans b2, a3.symm.trans b3⟩
theorem re_eq {s : RS} (hok : Ok s) : reB nodeP s = reB nodeR s ∧ reKey nodeP s = reKey nodeR s ∧ reF nodeP s = reF nodeR s ∧ reL nodeP s = reL nodeR s := by
 obtain ⟨e1, e2, e3⟩ := sr_eq (s := reT s) (text_ok 32 hok)
 have e4 : reB nodeP s = reB nodeR s := by unfold reB; rw [e1, e2, e3]
 exact ⟨e4, by unfold reKey; rw [e4], by unfold reF; rw [e4, e2], by unfold reL; rw [e4, e3]⟩
end Go.Proofs.YtmbphlkohlggfaaGreat
