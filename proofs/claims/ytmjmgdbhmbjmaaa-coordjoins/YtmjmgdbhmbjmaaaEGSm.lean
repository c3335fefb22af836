/- Items of several texts. -/
import Derived.Deep.Cut
import Derived.Test.YtmjmgdbhmbjmaaaESam
import Derived.Test.YtmjmgdbhmbjmaaaEGMay
import Derived.Test.YtmjmgdbhmbjmaaaEGSame
namespace Go.Proofs.Ytmjmgdbhmbjmaaa
theorem first_self (x : A) : firstA x x = x := by unfold firstA; split <;> rfl
theorem merge_self (p q : A → Bool) (l : List A) : mergeA p q l l = l := by
 induction l with
 | nil => rw [mergeA_nil _ _ _ _ (.inl rfl)]; rfl
 | cons x l ih =>
  have h : lessA x x = false := not_less.2 (LT.irr x)
  rw [mergeA_eq _ _ _ _ h h, first_self, ih]
end Go.Proofs.Ytmjmgdbhmbjmaaa

namespace Go.Proofs.Ytmjmgdbhmbjmaaa
open Go.RowKit
def keyB (s : ByteArray) : Bool := decide (1 ≤ s.size) && decide (s.size ≤ 32)
theorem maykey_any (s : ByteArray) (w : World) : Calls Try.prog 47 #[.string s] w fun e w' => e = .returned (.bool (keyB s)) ∧ w' = w := by
 by_cases h1 : 1 ≤ s.size
 ·have e1 : decide ((1 : Int) ≤ (s.size : Int)) = true := decide_eq_true (by omega)
  have e1' : decide (1 ≤ s.size) = true := decide_eq_true h1
  by_cases h2 : s.size ≤ 32
  ·have e2 : decide ((s.size : Int) ≤ 32) = true := decide_eq_true (by omega)
   have e2' : decide (s.size ≤ 32) = true := decide_eq_true h2
   go_enter Try.func47, Try.ntmps47
   go_wp2_with fail
   go_ret
   simp [keyB, e1', e2']
  ·have e2 : decide ((s.size : Int) ≤ 32) = false := decide_eq_false (by omega)
   have e2' : decide (s.size ≤ 32) = false := decide_eq_false h2
   go_enter Try.func47, Try.ntmps47
   go_wp2_with fail
   go_ret
   simp [keyB, e1', e2']
 ·have e1 : decide ((1 : Int) ≤ (s.size : Int)) = false := decide_eq_false (by omega)
  have e1' : decide (1 ≤ s.size) = false := decide_eq_false h1
  go_enter Try.func47, Try.ntmps47
  go_wp2_with fail
  go_ret
  simp [keyB, e1']
set_option maxRecDepth 100000 in
set_option maxHeartbeats 1000000 in
theorem gmayentry_any (s : ByteArray) (f : Nat → Int) (a : Option Addr) (ca : Nat) (l : List V) (w : World) (hr : Row w a ca l) :
  Calls Try.prog 27 #[.agg #[.string s, .int .i64 (f 0), .int .i64 (f 1), .int .i64 (f 2), .int .i64 (f 3), .int .i64 (f 4), .int .i64 (f 5), .int .i64 (f 6), .int .i64 (f 7), .slice a l.length ca]] w fun e w' => e = .returned (.bool (keyB s && mayS f (cont l))) ∧ Off (fun _ => False) w w' := by
 have C := Cel.new w 63 #[.string s, .int .i64 (f 0), .int .i64 (f 1), .int .i64 (f 2), .int .i64 (f 3), .int .i64 (f 4), .int .i64 (f 5), .int .i64 (f 6), .int .i64 (f 7), .slice a l.length ca]
 have O : Off (fun _ => False) w (w.alloc (.cells #[.string s, .int .i64 (f 0), .int .i64 (f 1), .int .i64 (f 2), .int .i64 (f 3), .int .i64 (f 4), .int .i64 (f 5), .int .i64 (f 6), .int .i64 (f 7), .slice a l.length ca] 63)) := (Off.refl _ w).alloc _
 have hr1 := hr.off O
 go_enter Try.func27, Try.ntmps27
 go_upto_region 1 with fail
 generalize hq : w.heap.size = q at C ⊢
 generalize hv : w.alloc (.cells #[.string s, .int .i64 (f 0), .int .i64 (f 1), .int .i64 (f 2), .int .i64 (f 3), .int .i64 (f 4), .int .i64 (f 5), .int .i64 (f 6), .int .i64 (f 7), .slice a l.length ca] 63) = W at C O hr1 ⊢
 clear hq hv
 have c0 : W.cell? ⟨q, 0, none⟩ = some (.string s) := C.cell 0
 have c1 : W.cell? ⟨q, 1, none⟩ = some (.int .i64 (f 0)) := C.cell 1
 have c2 : W.cell? ⟨q, 2, none⟩ = some (.int .i64 (f 1)) := C.cell 2
 have c3 : W.cell? ⟨q, 3, none⟩ = some (.int .i64 (f 2)) := C.cell 3
 have c4 : W.cell? ⟨q, 4, none⟩ = some (.int .i64 (f 3)) := C.cell 4
 have c5 : W.cell? ⟨q, 5, none⟩ = some (.int .i64 (f 4)) := C.cell 5
 have c6 : W.cell? ⟨q, 6, none⟩ = some (.int .i64 (f 5)) := C.cell 6
 have c7 : W.cell? ⟨q, 7, none⟩ = some (.int .i64 (f 6)) := C.cell 7
 have c8 : W.cell? ⟨q, 8, none⟩ = some (.int .i64 (f 7)) := C.cell 8
 have c9 : W.cell? ⟨q, 9, none⟩ = some (.slice a l.length ca) := C.cell 9
 clear C
 go_wp2_with fail
 refine (maykey_any s W).mono ?_
 cases hk : keyB s
 ·rintro e v ⟨rfl, hv⟩
  rw [hv]
  clear hv v
  go_wp2_with fail
  go_ret
  exact ⟨by rw [hk]; rfl, O⟩
 ·rintro e v ⟨rfl, hv⟩
  rw [hv]
  clear hv v
  go_wp2_with fail
  refine (gmay_any f a ca l W hr1).mono ?_
  rintro e v ⟨rfl, o⟩
  go_wp2_with fail
  go_ret
  exact ⟨by simp [hk], O.trans o (fun _ _ h => h)⟩
set_option maxRecDepth 100000 in
set_option maxHeartbeats 1000000 in
theorem smayentry_any (s : ByteArray) (f : Nat → Int) (a : Option Addr) (ca : Nat) (l : List V) (w : World) (hr : Row w a ca l) :
  Calls Try.prog 41 #[.agg #[.string s, .int .i64 (f 0), .int .i64 (f 1), .int .i64 (f 2), .int .i64 (f 3), .int .i64 (f 4), .int .i64 (f 5), .int .i64 (f 6), .int .i64 (f 7), .slice a l.length ca]] w fun e w' => e = .returned (.bool (keyB s && mayS f (cont l))) ∧ Off (fun _ => False) w w' := by
 have C := Cel.new w 63 #[.string s, .int .i64 (f 0), .int .i64 (f 1), .int .i64 (f 2), .int .i64 (f 3), .int .i64 (f 4), .int .i64 (f 5), .int .i64 (f 6), .int .i64 (f 7), .slice a l.length ca]
 have O : Off (fun _ => False) w (w.alloc (.cells #[.string s, .int .i64 (f 0), .int .i64 (f 1), .int .i64 (f 2), .int .i64 (f 3), .int .i64 (f 4), .int .i64 (f 5), .int .i64 (f 6), .int .i64 (f 7), .slice a l.length ca] 63)) := (Off.refl _ w).alloc _
 have hr1 := hr.off O
 by_cases h1 : 1 ≤ s.size
 ·have e1 : decide ((1 : Int) ≤ (s.size : Int)) = true := decide_eq_true (by omega)
  have e1' : decide (1 ≤ s.size) = true := decide_eq_true h1
  by_cases h2 : s.size ≤ 32
  ·have e2 : decide ((s.size : Int) ≤ 32) = true := decide_eq_true (by omega)
   have e2' : decide (s.size ≤ 32) = true := decide_eq_true h2
   have hk : keyB s = true := by simp [keyB, e1', e2']
   go_enter Try.func41, Try.ntmps41
   go_upto_region 1 with fail
   generalize hq : w.heap.size = q at C ⊢
   generalize hv : w.alloc (.cells #[.string s, .int .i64 (f 0), .int .i64 (f 1), .int .i64 (f 2), .int .i64 (f 3), .int .i64 (f 4), .int .i64 (f 5), .int .i64 (f 6), .int .i64 (f 7), .slice a l.length ca] 63) = W at C O hr1 ⊢
   clear hq hv
   have c0 : W.cell? ⟨q, 0, none⟩ = some (.string s) := C.cell 0
   have c1 : W.cell? ⟨q, 1, none⟩ = some (.int .i64 (f 0)) := C.cell 1
   have c2 : W.cell? ⟨q, 2, none⟩ = some (.int .i64 (f 1)) := C.cell 2
   have c3 : W.cell? ⟨q, 3, none⟩ = some (.int .i64 (f 2)) := C.cell 3
   have c4 : W.cell? ⟨q, 4, none⟩ = some (.int .i64 (f 3)) := C.cell 4
   have c5 : W.cell? ⟨q, 5, none⟩ = some (.int .i64 (f 4)) := C.cell 5
   have c6 : W.cell? ⟨q, 6, none⟩ = some (.int .i64 (f 5)) := C.cell 6
   have c7 : W.cell? ⟨q, 7, none⟩ = some (.int .i64 (f 6)) := C.cell 7
   have c8 : W.cell? ⟨q, 8, none⟩ = some (.int .i64 (f 7)) := C.cell 8
   have c9 : W.cell? ⟨q, 9, none⟩ = some (.slice a l.length ca) := C.cell 9
   clear C
   go_wp2_with fail
   refine (smay_any f a ca l W hr1).mono ?_
   rintro e v ⟨rfl, o⟩
   go_wp2_with fail
   go_ret
   exact ⟨by simp [hk], O.trans o (fun _ _ h => h)⟩
  ·have e2 : decide ((s.size : Int) ≤ 32) = false := decide_eq_false (by omega)
   have e2' : decide (s.size ≤ 32) = false := decide_eq_false h2
   have hk : keyB s = false := by simp [keyB, e1', e2']
   go_enter Try.func41, Try.ntmps41
   go_upto_region 1 with fail
   generalize hq : w.heap.size = q at C ⊢
   generalize hv : w.alloc (.cells #[.string s, .int .i64 (f 0), .int .i64 (f 1), .int .i64 (f 2), .int .i64 (f 3), .int .i64 (f 4), .int .i64 (f 5), .int .i64 (f 6), .int .i64 (f 7), .slice a l.length ca] 63) = W at C O hr1 ⊢
   clear hq hv
   have c0 : W.cell? ⟨q, 0, none⟩ = some (.string s) := C.cell 0
   have c1 : W.cell? ⟨q, 1, none⟩ = some (.int .i64 (f 0)) := C.cell 1
   have c2 : W.cell? ⟨q, 2, none⟩ = some (.int .i64 (f 1)) := C.cell 2
   have c3 : W.cell? ⟨q, 3, none⟩ = some (.int .i64 (f 2)) := C.cell 3
   have c4 : W.cell? ⟨q, 4, none⟩ = some (.int .i64 (f 3)) := C.cell 4
   have c5 : W.cell? ⟨q, 5, none⟩ = some (.int .i64 (f 4)) := C.cell 5
   have c6 : W.cell? ⟨q, 6, none⟩ = some (.int .i64 (f 5)) := C.cell 6
   have c7 : W.cell? ⟨q, 7, none⟩ = some (.int .i64 (f 6)) := C.cell 7
   have c8 : W.cell? ⟨q, 8, none⟩ = some (.int .i64 (f 7)) := C.cell 8
   have c9 : W.cell? ⟨q, 9, none⟩ = some (.slice a l.length ca) := C.cell 9
   clear C
   go_wp2_with fail
   go_ret
   exact ⟨by simp [hk], O⟩
 ·have e1 : decide ((1 : Int) ≤ (s.size : Int)) = false := decide_eq_false (by omega)
  have e1' : decide (1 ≤ s.size) = false := decide_eq_false h1
  have hk : keyB s = false := by simp [keyB, e1']
  go_enter Try.func41, Try.ntmps41
  go_upto_region 1 with fail
  generalize hq : w.heap.size = q at C ⊢
  generalize hv : w.alloc (.cells #[.string s, .int .i64 (f 0), .int .i64 (f 1), .int .i64 (f 2), .int .i64 (f 3), .int .i64 (f 4), .int .i64 (f 5), .int .i64 (f 6), .int .i64 (f 7), .slice a l.length ca] 63) = W at C O hr1 ⊢
  clear hq hv
  have c0 : W.cell? ⟨q, 0, none⟩ = some (.string s) := C.cell 0
  have c1 : W.cell? ⟨q, 1, none⟩ = some (.int .i64 (f 0)) := C.cell 1
  have c2 : W.cell? ⟨q, 2, none⟩ = some (.int .i64 (f 1)) := C.cell 2
  have c3 : W.cell? ⟨q, 3, none⟩ = some (.int .i64 (f 2)) := C.cell 3
  have c4 : W.cell? ⟨q, 4, none⟩ = some (.int .i64 (f 3)) := C.cell 4
  have c5 : W.cell? ⟨q, 5, none⟩ = some (.int .i64 (f 4)) := C.cell 5
  have c6 : W.cell? ⟨q, 6, none⟩ = some (.int .i64 (f 5)) := C.cell 6
  have c7 : W.cell? ⟨q, 7, none⟩ = some (.int .i64 (f 6)) := C.cell 7
  have c8 : W.cell? ⟨q, 8, none⟩ = some (.int .i64 (f 7)) := C.cell 8
  have c9 : W.cell? ⟨q, 9, none⟩ = some (.slice a l.length ca) := C.cell 9
  clear C
  go_wp2_with fail
  go_ret
  exact ⟨by simp [hk], O⟩
end Go.Proofs.Ytmjmgdbhmbjmaaa
