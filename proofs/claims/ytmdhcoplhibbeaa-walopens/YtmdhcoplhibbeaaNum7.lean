/- Four bytes as a number, a number as four bytes, in the program and in the reference. -/
import Derived.Test.YtmdhcoplhibbeaaInp
import Derived.Test.YtmdhcoplhibbeaaFTh
namespace Go.Proofs.Ytmdhcoplhibbeaa
open Go.RowKit

theorem Off.drewN {D : Nat → Prop} {a w : World} (h : Off D a w) (n : Nat) : Off D a (w.drewN n) := ⟨h.os, h.tape, h.output, h.size, h.block⟩

theorem or_add {a b k : Nat} (hb : b < 2 ^ k) : (a * 2 ^ k) ||| b = a * 2 ^ k + b := by
  rw [Nat.mul_comm]
  exact (Nat.two_pow_add_eq_or_of_lt hb a).symm
theorem or4 {a b c d : Nat} (ha : a < 256) (hb : b < 256) (hc : c < 256) (hd : d < 256) :
    bits .or .u32 (bits .or .u32 (bits .or .u32 ((a : Int) * 16777216) ((b : Int) * 65536)) ((c : Int) * 256)) (d : Int) = ((a * 16777216 + b * 65536 + c * 256 + d : Nat) : Int) := by
  have e1 : (a : Int) * 16777216 = ((a * 16777216 : Nat) : Int) := by omega
  have e2 : (b : Int) * 65536 = ((b * 65536 : Nat) : Int) := by omega
  have e3 : (c : Int) * 256 = ((c * 256 : Nat) : Int) := by omega
  rw [e1, e2, e3, u32_or_nat _ _ (by omega) (by omega)]
  have f1 : (a * 16777216) ||| (b * 65536) = a * 16777216 + b * 65536 := or_add (k := 24) (by omega)
  rw [f1, u32_or_nat _ _ (by omega) (by omega)]
  have f2 : (a * 16777216 + b * 65536) ||| (c * 256) = a * 16777216 + b * 65536 + c * 256 := by
    have := or_add (a := a * 256 + b) (b := c * 256) (k := 16) (by omega)
    rw [show (a * 256 + b) * 2 ^ 16 = a * 16777216 + b * 65536 by omega] at this
    exact this
  rw [f2, u32_or_nat _ _ (by omega) (by omega)]
  have f3 : (a * 16777216 + b * 65536 + c * 256) ||| d = a * 16777216 + b * 65536 + c * 256 + d := by
    have := or_add (a := a * 65536 + b * 256 + c) (b := d) (k := 8) (by omega)
    rw [show (a * 65536 + b * 256 + c) * 2 ^ 8 = a * 16777216 + b * 65536 + c * 256 by omega] at this
    exact this
  rw [f3]

set_option maxRecDepth 100000 in
set_option maxHeartbeats 1000000 in
theorem number_q {w : World} {tad : Option Addr} {cap : Nat} {bs : List Nat} (h : Inp w tad cap bs) (hl : 4 ≤ bs.length) :
    Calls Try.prog 47 #[.slice tad bs.length cap] w fun e w' => e = .returned (.int .u32 ((num4 bs : Nat) : Int)) ∧ ∃ m, w' = w.drewN m := by
  obtain ⟨l0, b, off, rfl, c0⟩ := h.at_ (i := 0) (by omega)
  obtain ⟨l1, b1, off1, e1, c1⟩ := h.at_ (i := 1) (by omega)
  obtain ⟨l2, b2, off2, e2, c2⟩ := h.at_ (i := 2) (by omega)
  obtain ⟨l3, b3, off3, e3, c3⟩ := h.at_ (i := 3) (by omega)
  simp only [Option.some.injEq, Addr.mk.injEq, and_true] at e1 e2 e3
  obtain ⟨rfl, rfl⟩ := e1
  obtain ⟨rfl, rfl⟩ := e2
  obtain ⟨rfl, rfl⟩ := e3
  have i0 : (0 : Int) < (bs.length : Int) := by omega
  have i1 : (1 : Int) < (bs.length : Int) := by omega
  have i2 : (2 : Int) < (bs.length : Int) := by omega
  have i3 : (3 : Int) < (bs.length : Int) := by omega
  rw [Nat.add_zero] at c0
  clear h
  have hn : num4 bs = bs.getD 0 0 * 16777216 + bs.getD 1 0 * 65536 + bs.getD 2 0 * 256 + bs.getD 3 0 := rfl
  rw [hn]
  clear hn
  generalize bs.getD 0 0 = x0 at *
  generalize bs.getD 1 0 = x1 at *
  generalize bs.getD 2 0 = x2 at *
  generalize bs.getD 3 0 = x3 at *
  go_enter Try.func47, Try.ntmps47
  go_wp2_with fail
  go_quiet (fail)
  go_wp2_with fail
  go_ret
  refine ⟨?_, _, rfl⟩
  rw [← or4 l0 l1 l2 l3]
  rfl

theorem number_any {w : World} {tad : Option Addr} {cap : Nat} {bs : List Nat} (h : Inp w tad cap bs) (hl : 4 ≤ bs.length) :
    Calls Try.prog 47 #[.slice tad bs.length cap] w fun e w' => e = .returned (.int .u32 ((num4 bs : Nat) : Int)) ∧ Off (fun _ => False) w w' := by
  refine (number_q h hl).mono ?_
  rintro e w' ⟨rfl, m, rfl⟩
  exact ⟨rfl, (Off.refl _ w).drewN m⟩

/-- Four new bytes. -/
theorem src4 (w : World) {n : Nat} (hn : n < 4294967296) : Src (w.alloc (.cells #[.int .u8 ((n : Int) / 16777216), .int .u8 ((n : Int) / 65536 % 256), .int .u8 ((n : Int) / 256 % 256), .int .u8 ((n : Int) % 256)] 5)) (some ⟨w.heap.size, 0, none⟩) 4 (be4 n) := by
  refine ⟨.inr ⟨_, rfl, fun j u hj => ?_⟩⟩
  have hc := Cel.new w 5 #[.int .u8 ((n : Int) / 16777216), .int .u8 ((n : Int) / 65536 % 256), .int .u8 ((n : Int) / 256 % 256), .int .u8 ((n : Int) % 256)]
  rw [add_lit, Nat.zero_add, hc.cell]
  have hl := vl_lt hj
  rw [be4_len] at hl
  have e : n / 16777216 % 256 = n / 16777216 := by omega
  match j, hl with
  | 0, _ =>
    rw [← hj, be4, e]
    rfl
  | 1, _ | 2, _ | 3, _ => exact hj
set_option maxRecDepth 100000 in
set_option maxHeartbeats 1000000 in
theorem addNumber_any {w : World} {g cap : Nat} {bs : List Nat} (h : OwnR w (some ⟨g, 0, none⟩) cap bs) (hr : bs.length + 4 ≤ cap) {n : Nat} (hn : n < 4294967296) :
    Calls Try.prog 43 #[.slice (some ⟨g, 0, none⟩) bs.length cap, .int .u32 (n : Int)] w fun e w' => e = .returned (.slice (some ⟨g, 0, none⟩) (bs ++ be4 n).length cap) ∧ OwnR w' (some ⟨g, 0, none⟩) cap (bs ++ be4 n) ∧ Off (fun c => c = g) w w' := by
  have HR : Hid _ := h
  have hg := h.lt g rfl
  clear h
  have S := src4 w hn
  have O : Off (fun _ => False) w (w.alloc (.cells #[.int .u8 ((n : Int) / 16777216), .int .u8 ((n : Int) / 65536 % 256), .int .u8 ((n : Int) / 256 % 256), .int .u8 ((n : Int) % 256)] 5)) := (Off.refl _ w).alloc _
  go_enter Try.func43, Try.ntmps43
  go_wp2_with (at_builtin; refine wpList_fit rfl (.tmp 5) (.tmp 17) rfl g cap bs rfl (HR.out.off O (fun _ _ _ h => h)) _ 4 (be4 n) rfl S hr ?_; intro w' ys hys own' off')
  go_ret
  obtain rfl : ys = bs ++ be4 n := hys.out
  exact ⟨rfl, own', (O.mono (E := fun c => c = g) (fun _ _ h => h.elim)).trans off' (fun _ _ h => h)⟩
end Go.Proofs.Ytmdhcoplhibbeaa
