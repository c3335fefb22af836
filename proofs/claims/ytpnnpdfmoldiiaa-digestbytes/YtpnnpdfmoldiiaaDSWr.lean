/- Items of several texts. -/
import Derived.Deep.Cut
import Derived.Test.YtpnnpdfmoldiiaaDThy2
import Derived.Test.YtpnnpdfmoldiiaaDRefA
import Derived.Test.YtpnnpdfmoldiiaaDWRefR
import Derived.Test.YtpnnpdfmoldiiaaDWRefW
namespace Go.Proofs.Ytpnnpdfmoldiiaa
open Go.RowKit
def wrV (most : Nat) (st : Option (List Nat)) (f : Nat → Int) : Nat → Option (List Nat)
 | 0 => st
 | n + 1 => putS most (wrV most st f n) (numB (zig (f n)))
theorem put_le {most : Nat} {st : Option (List Nat)} (h : (st.getD []).length ≤ most) (x : List Nat) : ((putS most st x).getD []).length ≤ most := by
 cases st with
 | none => simp [putS]
 | some bs =>
  simp only [putS]
  split
  ·simpa using by assumption
  ·simp
theorem wrV_le {most : Nat} {st : Option (List Nat)} (h : (st.getD []).length ≤ most) (f : Nat → Int) : ∀ n, ((wrV most st f n).getD []).length ≤ most
 | 0 => h
 | n + 1 => put_le (wrV_le h f n) _
def u64N (n : Int) : Nat := (n % 18446744073709551616).toNat
theorem u64N_lt (n : Int) : u64N n < 18446744073709551616 := by unfold u64N; omega
theorem u64_wrap (n : Int) : IntKind.u64.wrap n = ((u64N n : Nat) : Int) := by
 simp only [IntKind.wrap, IntKind.bits, IntKind.signed, u64N]
 go_num
set_option maxRecDepth 100000 in
theorem vwrite_any {D : Nat → Prop} {b most : Nat} {st : Option (List Nat)} {w : World} (hW : Wtr D b most st w) (hm : most ≤ 140737488355328) (hst : (st.getD []).length ≤ most) (f : Nat → Int) (hr : ∀ j, j < 8 → -9223372036854775808 ≤ f j ∧ f j ≤ 9223372036854775807) :
  Calls Try.prog 63 #[.pointer (some ⟨b, 0, none⟩), .agg #[.int .i64 (f 0), .int .i64 (f 1), .int .i64 (f 2), .int .i64 (f 3), .int .i64 (f 4), .int .i64 (f 5), .int .i64 (f 6), .int .i64 (f 7)]] w fun e w' => e = .returned (.tuple #[]) ∧ ∃ D', Wtr D' b most (wrV most st f 8) w' ∧ Off D w w' ∧ ∀ c, D' c → D c ∨ w.heap.size ≤ c := by
 have HW : Hid _ := hW
 clear hW
 go_enter Try.func63, Try.ntmps63
 go_wp2_with fail
 go_loopw [7] (fun y wr => ∃ (n : Nat) (D' : Nat → Prop), y = .int .i64 (n : Int) ∧ n ≤ 8 ∧ Wtr D' b most (wrV most st f n) wr ∧ Off D w wr ∧ ∀ c, D' c → D c ∨ w.heap.size ≤ c) (fun y _ => (8 - intOf y).toNat)
 case atStart => exact ⟨0, D, rfl, by omega, HW.out.off ((Off.refl (fun _ => False) w).alloc _) (fun _ _ _ h => h), (Off.refl _ w).alloc _, fun c h => .inl h⟩
 case round =>
  obtain ⟨n, D', rfl, hn, hw, O, hD⟩ := hrel
  have HW' : Hid _ := hw
  have HD : Hid _ := hD
  clear hw hD
  by_cases h : n < 8
  ·have hd : decide ((n : Int) < 8) = true := by simp; omega
   have hi := idx_vec f h
   have hl := wrV_le hst f n
   go_wp2_with fail
   refine (wint_any HW'.out (f n) (hr n h).1 (hr n h).2 (.inr ⟨hm, hl⟩)).mono ?_
   rintro e v ⟨rfl, E, W1, o1, hE⟩
   have HW1 : Hid _ := W1
   have HE : Hid _ := hE
   clear W1 hE
   go_wp2_with fail
   go_roundw
   case rel =>
    refine ⟨n + 1, E, by go_num, by omega, HW1.out, O.trans o1 (fun i hi h => (HD.out i h).elim id (fun h2 => by omega)), fun c hc => ?_⟩
    rcases HE.out c hc with h1 | h1
    ·exact HD.out c h1
    ·exact .inr (Nat.le_trans O.size h1)
   case measure => simp [intOf]; omega
  ·obtain rfl : n = 8 := by omega
   go_wp2_with fail
   first | go_end0 | refine bodyPost_ret (results_none rfl _ _ _) rfl ?_
   exact ⟨rfl, D', HW'.out, O, HD.out⟩
set_option maxRecDepth 100000 in
theorem gvwrite_any {D : Nat → Prop} {b most : Nat} {st : Option (List Nat)} {w : World} (hW : FW D b most st w) (hm : most ≤ 140737488355328) (hst : (st.getD []).length ≤ most) (f : Nat → Int) (hr : ∀ j, j < 8 → -9223372036854775808 ≤ f j ∧ f j ≤ 9223372036854775807) :
  Calls Try.prog 67 #[.pointer (some ⟨b, 0, none⟩), .agg #[.int .i64 (f 0), .int .i64 (f 1), .int .i64 (f 2), .int .i64 (f 3), .int .i64 (f 4), .int .i64 (f 5), .int .i64 (f 6), .int .i64 (f 7)]] w fun e w' => e = .returned (.tuple #[]) ∧ ∃ D', FW D' b most (wrV most st f 8) w' ∧ Off D w w' ∧ ∀ c, D' c → D c ∨ w.heap.size ≤ c := by
 have HW : Hid _ := hW
 clear hW
 go_enter Try.func67, Try.ntmps67
 go_wp2_with fail
 go_loopw [7] (fun y wr => ∃ (n : Nat) (D' : Nat → Prop), y = .int .i64 (n : Int) ∧ n ≤ 8 ∧ FW D' b most (wrV most st f n) wr ∧ Off D w wr ∧ ∀ c, D' c → D c ∨ w.heap.size ≤ c) (fun y _ => (8 - intOf y).toNat)
 case atStart => exact ⟨0, D, rfl, by omega, HW.out.off ((Off.refl (fun _ => False) w).alloc _) (fun _ _ _ h => h), (Off.refl _ w).alloc _, fun c h => .inl h⟩
 case round =>
  obtain ⟨n, D', rfl, hn, hw, O, hD⟩ := hrel
  have HW' : Hid _ := hw
  have HD : Hid _ := hD
  clear hw hD
  by_cases h : n < 8
  ·have hd : decide ((n : Int) < 8) = true := by simp; omega
   have hi := idx_vec f h
   have hl := wrV_le hst f n
   go_wp2_with fail
   refine (fwint_any HW'.out (f n) (hr n h).1 (hr n h).2 (.inr ⟨hm, hl⟩)).mono ?_
   rintro e v ⟨rfl, E, W1, o1, hE⟩
   have HW1 : Hid _ := W1
   have HE : Hid _ := hE
   clear W1 hE
   go_wp2_with fail
   go_roundw
   case rel =>
    refine ⟨n + 1, E, by go_num, by omega, HW1.out, O.trans o1 (fun i hi h => (HD.out i h).elim id (fun h2 => by omega)), fun c hc => ?_⟩
    rcases HE.out c hc with h1 | h1
    ·exact HD.out c h1
    ·exact .inr (Nat.le_trans O.size h1)
   case measure => simp [intOf]; omega
  ·obtain rfl : n = 8 := by omega
   go_wp2_with fail
   first | go_end0 | refine bodyPost_ret (results_none rfl _ _ _) rfl ?_
   exact ⟨rfl, D', HW'.out, O, HD.out⟩
end Go.Proofs.Ytpnnpdfmoldiiaa
