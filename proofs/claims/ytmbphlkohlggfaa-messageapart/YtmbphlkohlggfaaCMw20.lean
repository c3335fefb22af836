/- Items of several texts. -/
import Derived.Test.YtmbphlkohlggfaaCMm20
import Derived.Test.YtmbphlkohlggfaaCWWops
import Derived.Test.YtmbphlkohlggfaaCSWr
namespace Go.Proofs.Ytmbphlkohlggfaa
set_option maxRecDepth 100000
open Go.RowKit
def Put' (D : Nat → Prop) (b most : Nat) (st' : Option (List Nat)) (w w' : World) : Prop := ∃ D', Wtr D' b most st' w' ∧ Off D w w' ∧ ∀ c, D' c → D c ∨ w.heap.size ≤ c
def i64w (n : Nat) : Int := IntKind.i64.wrap (n : Int)
theorem i64w_eq (n : Nat) (h : n < 18446744073709551616) : i64w n = if n < 9223372036854775808 then (n : Int) else (n : Int) - 18446744073709551616 := by
 by_cases hc : n < 9223372036854775808
 ·rw [if_pos hc]
  simp only [i64w, IntKind.wrap, IntKind.bits, IntKind.signed]
  go_num
 ·rw [if_neg hc]
  simp only [i64w, IntKind.wrap, IntKind.bits, IntKind.signed]
  go_num
def encM (s i : Int) : List Nat := numB (u64N s) ++ numB (zig i)
def mrS (s : RS) : RS := (intS (numS s).2).2
def mrB (s : RS) : Bool := decide ((mrS s).2 = 0) && mbB (i64w (numS s).1) (intS (numS s).2).1
def mrX (s : RS) : Int := if mrB s = true then i64w (numS s).1 else 0
def mrY (s : RS) : Int := if mrB s = true then (intS (numS s).2).1 else 0
def wrM (most : Nat) (st : Option (List Nat)) (x : Int × Int) : Option (List Nat) := putS most (putS most st (numB (u64N x.1))) (numB (zig x.2))
theorem wrM_le {most : Nat} {st : Option (List Nat)} (h : (st.getD []).length ≤ most) (x : Int × Int) : ((wrM most st x).getD []).length ≤ most := put_le (put_le h _) _
set_option maxHeartbeats 1000000 in
theorem mwrite_any {D : Nat → Prop} {b most : Nat} {st : Option (List Nat)} {w : World} (hW : Wtr D b most st w) (hm : most ≤ 140737488355328) (hst : (st.getD []).length ≤ most) (x : Int × Int) (h0 : -9223372036854775808 ≤ x.2) (h1 : x.2 ≤ 9223372036854775807) :
  Calls Try.prog 90 #[.pointer (some ⟨b, 0, none⟩), .agg #[.int .i64 x.1, .int .i64 x.2]] w fun e w' => e = .returned (.tuple #[]) ∧ Put' D b most (wrM most st x) w w' := by
 obtain ⟨s, i⟩ := x
 have hu : IntKind.u64.wrap s = ((u64N s : Nat) : Int) := u64_wrap s
 have HH : Hid (Wtr D b most st w) := hW
 have HR : Hid (-9223372036854775808 ≤ i ∧ i ≤ 9223372036854775807) := ⟨h0, h1⟩
 have HM : Hid (most ≤ 140737488355328 ∧ (st.getD []).length ≤ most) := ⟨hm, hst⟩
 clear hW h0 h1 hm hst
 show Calls Try.prog 90 #[.pointer (some ⟨b, 0, none⟩), .agg #[.int .i64 s, .int .i64 i]] w _
 go_enter Try.func90, Try.ntmps90
 go_wp2_with fail
 generalize hV : w.alloc (.cells #[.int .i64 s, .int .i64 i] 63) = V
 have O : Hid (Off (fun _ => False) w V) := by show Off _ _ _; rw [← hV]; exact (Off.refl _ w).alloc _
 have C0 : Hid (Cel w.heap.size 63 #[.int .i64 s, .int .i64 i] V) := by show Cel _ _ _ _; rw [← hV]; exact Cel.new w _ _
 have N0 : Hid (¬ D w.heap.size) := fun h => by have := HH.out.lt _ h; omega
 clear hV
 have W0 : Wtr D b most st V := HH.out.off O.out (fun _ _ _ h => h)
 refine (wnum_any W0 (u64N s) (u64N_lt s) (.inr HM.out)).mono ?_
 clear W0
 rintro e w1 ⟨rfl, D1, W1, o1, d1⟩
 have C1 := C0.out.off o1 N0.out
 have c1 : w1.cell? ⟨w.heap.size, 1, none⟩ = some (.int .i64 i) := C1.cell 1
 have HW1 : Hid _ := W1
 have HO1 : Hid _ := o1
 have HD1 : Hid _ := d1
 clear C1 W1 o1 d1
 go_wp2_with fail
 refine (wint_any HW1.out i HR.out.1 HR.out.2 (.inr ⟨HM.out.1, put_le HM.out.2 _⟩)).mono ?_
 rintro e w2 ⟨rfl, D2, W2, o2, d2⟩
 go_wp2_with fail
 first | go_end0 | refine bodyPost_ret (results_none rfl _ _ _) rfl ?_
 refine ⟨rfl, D2, W2, ?_, ?_⟩
 ·refine ((O.out.mono (fun _ _ h => h.elim)).trans HO1.out (fun _ _ h => h)).trans o2 (fun c hc h => ?_)
  rcases HD1.out c h with h | h
  ·exact h
  ·have := O.out.size
   omega
 ·intro c hc
  have s0 := O.out.size
  have s1 := HO1.out.size
  rcases d2 c hc with h | h
  ·rcases HD1.out c h with h | h
   ·exact .inl h
   ·exact .inr (by omega)
  ·exact .inr (by omega)
end Go.Proofs.Ytmbphlkohlggfaa
