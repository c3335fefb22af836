/- Slices of one and of two Sibs. -/
import Derived.Test.YtfkpnmmcdhibbabLgt
namespace Go.Proofs.Ytfkpnmmcdhibbab
open Go.RowKit

theorem ninth1 {f : Nat → Int} {s u : Value} {j : Nat} (h : (#[.int .i64 (f 0), .int .i64 (f 1), .int .i64 (f 2), .int .i64 (f 3), .int .i64 (f 4), .int .i64 (f 5), .int .i64 (f 6), .int .i64 (f 7), s] : Array Value)[j]? = some u) : j < 9 := by
  obtain ⟨h, -⟩ := Array.getElem?_eq_some_iff.1 h
  exact h
theorem sl1 {w : World} {B : Nat} {t : TypeId} {f : Nat → Int} {a : Option Addr} {ca : Nat} {l : List V} (hc : Cel B t #[.int .i64 (f 0), .int .i64 (f 1), .int .i64 (f 2), .int .i64 (f 3), .int .i64 (f 4), .int .i64 (f 5), .int .i64 (f 6), .int .i64 (f 7), .slice a l.length ca] w) (ra : Row w a ca l) : Sl w B [⟨f, a, ca, l⟩] := by
  refine ⟨fun i u hi j s hs => ?_, fun u hu => ?_⟩
  · have hj := ninth1 hs
    match i, hi with
    | 0, hi =>
      simp only [List.getElem?_cons_zero, Option.some.injEq] at hi
      subst hi
      rw [hc.cell]
      obtain rfl | rfl | rfl | rfl | rfl | rfl | rfl | rfl | rfl : j = 0 ∨ j = 1 ∨ j = 2 ∨ j = 3 ∨ j = 4 ∨ j = 5 ∨ j = 6 ∨ j = 7 ∨ j = 8 := by omega
      all_goals exact hs
    | i + 1, hi => simp at hi
  · simp only [List.mem_cons, List.not_mem_nil, or_false] at hu
    subst hu
    exact ra
theorem ninth {f : Nat → Int} {s u : Value} {j : Nat} (h : (#[.int .i64 (f 0), .int .i64 (f 1), .int .i64 (f 2), .int .i64 (f 3), .int .i64 (f 4), .int .i64 (f 5), .int .i64 (f 6), .int .i64 (f 7), s] : Array Value)[j]? = some u) : j < 9 := by
  obtain ⟨h, -⟩ := Array.getElem?_eq_some_iff.1 h
  exact h
set_option maxRecDepth 100000 in
theorem sl2 {w : World} {B : Nat} {t : TypeId} {f g : Nat → Int} {a b : Option Addr} {ca cb : Nat} {l k : List V} (hc : Cel B t #[.int .i64 (f 0), .int .i64 (f 1), .int .i64 (f 2), .int .i64 (f 3), .int .i64 (f 4), .int .i64 (f 5), .int .i64 (f 6), .int .i64 (f 7), .slice a l.length ca, .int .i64 (g 0), .int .i64 (g 1), .int .i64 (g 2), .int .i64 (g 3), .int .i64 (g 4), .int .i64 (g 5), .int .i64 (g 6), .int .i64 (g 7), .slice b k.length cb] w) (ra : Row w a ca l) (rb : Row w b cb k) : Sl w B [⟨f, a, ca, l⟩, ⟨g, b, cb, k⟩] := by
  refine ⟨fun i u hi j s hs => ?_, fun u hu => ?_⟩
  · have hj := ninth hs
    match i, hi with
    | 0, hi =>
      simp only [List.getElem?_cons_zero, Option.some.injEq] at hi
      subst hi
      rw [hc.cell]
      obtain rfl | rfl | rfl | rfl | rfl | rfl | rfl | rfl | rfl : j = 0 ∨ j = 1 ∨ j = 2 ∨ j = 3 ∨ j = 4 ∨ j = 5 ∨ j = 6 ∨ j = 7 ∨ j = 8 := by omega
      all_goals exact hs
    | 1, hi =>
      simp only [List.getElem?_cons_succ, List.getElem?_cons_zero, Option.some.injEq] at hi
      subst hi
      rw [hc.cell]
      obtain rfl | rfl | rfl | rfl | rfl | rfl | rfl | rfl | rfl : j = 0 ∨ j = 1 ∨ j = 2 ∨ j = 3 ∨ j = 4 ∨ j = 5 ∨ j = 6 ∨ j = 7 ∨ j = 8 := by omega
      all_goals exact hs
    | i + 2, hi => simp at hi
  · simp only [List.mem_cons, List.not_mem_nil, or_false] at hu
    rcases hu with rfl | rfl
    · exact ra
    · exact rb
end Go.Proofs.Ytfkpnmmcdhibbab
