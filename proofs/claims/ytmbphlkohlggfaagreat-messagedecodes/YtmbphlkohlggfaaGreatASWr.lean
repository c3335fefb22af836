/- Items of several texts. -/
import Derived.Deep.Cut
import Derived.Test.YtmbphlkohlggfaaGreatARefA
import Derived.Test.YtmbphlkohlggfaaGreatADot5
import Derived.Test.YtmbphlkohlggfaaGreatAWRefR
import Derived.Test.YtmbphlkohlggfaaGreatAWRefW
namespace Go.Proofs.YtmbphlkohlggfaaGreat
open Go.RowKit
def wrV (most : Nat) (st : Option (List Nat)) (f : Nat → Int) : Nat → Option (List Nat)
 | 0 => st
 | n + 1 => putS most (wrV most st f n) (numB (zig (f n)))
theorem put_le {most : Nat} {st : Option (List Nat)} (h : (st.getD []).length ≤ most) (x : List Nat) : ((putS most st x).getD []).length ≤ most := by
 cases st with
 | none => simp [putS]
 | some bs =>
  simp only [putS]
  split
  ·simpa using by assumption
  ·simp
theorem wrV_le {most : Nat} {st : Option (List Nat)} (h : (st.getD []).length ≤ most) (f : Nat → Int) : ∀ n, ((wrV most st f n).getD []).length ≤ most
 | 0 => h
 | n + 1 => put_le (wrV_le h f n) _
def u64N (n : Int) : Nat := (n % 18446744073709551616).toNat
theorem u64N_lt (n : Int) : u64N n < 18446744073709551616 := by unfold u64N; omega
theorem u64_wrap (n : Int) : IntKind.u64.wrap n = ((u64N n : Nat) : Int) := by
 simp only [IntKind.wrap, IntKind.bits, IntKind.signed, u64N]
 go_num
def wrVal (most : Nat) (st : Option (List Nat)) (x : A) : Option (List Nat) :=
 putS most (putS most (putS most (putS most st (numB (u64N x.node))) (numB (zig x.num))) [if x.dead then 1 else 0]) (numB x.data.length ++ x.data)
def wrL (most : Nat) (st : Option (List Nat)) (l : List A) : Option (List Nat) := l.foldl (wrVal most) st
def wrS (most : Nat) (st : Option (List Nat)) (f : Nat → Int) (l : List A) : Option (List Nat) := wrL most (putS most (wrV most st f 8) (numB l.length)) l
theorem wrVal_le {most : Nat} {st : Option (List Nat)} (h : (st.getD []).length ≤ most) (x : A) : ((wrVal most st x).getD []).length ≤ most := put_le (put_le (put_le (put_le h _) _) _) _
theorem wrL_le {most : Nat} : ∀ {st : Option (List Nat)}, (st.getD []).length ≤ most → ∀ l, ((wrL most st l).getD []).length ≤ most
 | _, h, [] => h
 | st, h, x :: l => by
  have := wrL_le (wrVal_le h x) l
  simpa [wrL] using this
theorem wrL_step {most : Nat} {st : Option (List Nat)} {l : List V} {n : Nat} {x : V} (h : l[n]? = some x) : wrL most st (cont (l.take (n + 1))) = wrVal most (wrL most st (cont (l.take n))) x.abs := by
 rw [List.take_add_one, h]
 simp [wrL, cont]
theorem wrS_le {most : Nat} {st : Option (List Nat)} (h : (st.getD []).length ≤ most) (f : Nat → Int) (l : List A) : ((wrS most st f l).getD []).length ≤ most := wrL_le (put_le (wrV_le h f 8) _) l
set_option maxRecDepth 100000 in
theorem vwrite_any {D : Nat → Prop} {b most : Nat} {st : Option (List Nat)} {w : World} (hW : Wtr D b most st w) (hm : most ≤ 140737488355328) (hst : (st.getD []).length ≤ most) (f : Nat → Int) (hr : ∀ j, j < 8 → -9223372036854775808 ≤ f j ∧ f j ≤ 9223372036854775807) :
  Calls Tryz.prog 110 #[.pointer (some ⟨b, 0, none⟩), .agg #[.int .i64 (f 0), .int .i64 (f 1), .int .i64 (f 2), .int .i64 (f 3), .int .i64 (f 4), .int .i64 (f 5), .int .i64 (f 6), .int .i64 (f 7)]] w fun e w' => e = .returned (.tuple #[]) ∧ ∃ D', Wtr D' b most (wrV most st f 8) w' ∧ Off D w w' ∧ ∀ c, D' c → D c ∨ w.heap.size ≤ c := by
 have HW : Hid _ := hW
 clear hW
 go_enter Tryz.func110, Tryz.ntmps110
 go_wp2_with fail
 go_loopw [7] (fun y wr => ∃ (n : Nat) (D' : Nat → Prop), y = .int .i64 (n : Int) ∧ n ≤ 8 ∧ Wtr D' b most (wrV most st f n) wr ∧ Off D w wr ∧ ∀ c, D' c → D c ∨ w.heap.size ≤ c) (fun y _ => (8 - intOf y).toNat)
 case atStart => exact ⟨0, D, rfl, by omega, HW.out.off ((Off.refl (fun _ => False) w).alloc _) (fun _ _ _ h => h), (Off.refl _ w).alloc _, fun c h => .inl h⟩
 case round =>
  obtain ⟨n, D', rfl, hn, hw, O, hD⟩ := hrel
  have HW' : Hid _ := hw
  have HD : Hid _ := hD
  clear hw hD
  by_cases h : n < 8
  ·have hd : decide ((n : Int) < 8) = true := by simp; omega
   have hi := idx_vec f h
   have hl := wrV_le hst f n
   go_wp2_with fail
   refine (wint_any HW'.out (f n) (hr n h).1 (hr n h).2 (.inr ⟨hm, hl⟩)).mono ?_
   rintro e v ⟨rfl, E, W1, o1, hE⟩
   have HW1 : Hid _ := W1
   have HE : Hid _ := hE
   clear W1 hE
   go_wp2_with fail
   go_roundw
   case rel =>
    refine ⟨n + 1, E, by go_num, by omega, HW1.out, O.trans o1 (fun i hi h => (HD.out i h).elim id (fun h2 => by omega)), fun c hc => ?_⟩
    rcases HE.out c hc with h1 | h1
    ·exact HD.out c h1
    ·exact .inr (Nat.le_trans O.size h1)
   case measure => simp [intOf]; omega
  ·obtain rfl : n = 8 := by omega
   go_wp2_with fail
   first | go_end0 | refine bodyPost_ret (results_none rfl _ _ _) rfl ?_
   exact ⟨rfl, D', HW'.out, O, HD.out⟩
set_option maxRecDepth 100000 in
set_option maxHeartbeats 2000000 in
theorem swrite_any {D : Nat → Prop} {b most : Nat} {st : Option (List Nat)} {w : World} (hW : Wtr D b most st w) (hm : most ≤ 140737488355328) (hst : (st.getD []).length ≤ most) (f : Nat → Int) (hr : ∀ j, j < 8 → -9223372036854775808 ≤ f j ∧ f j ≤ 9223372036854775807) (a : Option Addr) (ca : Nat) (l : List V) (hrow : ∀ w', Off D w w' → Row w' a ca l) :
  Calls Tryz.prog 109 #[.pointer (some ⟨b, 0, none⟩), .agg #[.int .i64 (f 0), .int .i64 (f 1), .int .i64 (f 2), .int .i64 (f 3), .int .i64 (f 4), .int .i64 (f 5), .int .i64 (f 6), .int .i64 (f 7), .slice a l.length ca]] w fun e w' => e = .returned (.tuple #[]) ∧ ∃ D', Wtr D' b most (wrS most st f (cont l)) w' ∧ Off D w w' ∧ ∀ c, D' c → D c ∨ w.heap.size ≤ c := by
 have hlb : l.length ≤ 9223372036854775807 := by have h := hrow w (Off.refl _ w); have h1 := h.len; have h2 := h.bound; omega
 have hu0 : IntKind.u64.wrap ((l.length : Nat) : Int) = ((l.length : Nat) : Int) := by
  simp only [IntKind.wrap, IntKind.bits, IntKind.signed]
  go_num
 have HRW : Hid _ := hrow
 have C0 := Cel.new w 44 #[.int .i64 (f 0), .int .i64 (f 1), .int .i64 (f 2), .int .i64 (f 3), .int .i64 (f 4), .int .i64 (f 5), .int .i64 (f 6), .int .i64 (f 7), .slice a l.length ca]
 have O0 : Off (fun _ => False) w (w.alloc (.cells #[.int .i64 (f 0), .int .i64 (f 1), .int .i64 (f 2), .int .i64 (f 3), .int .i64 (f 4), .int .i64 (f 5), .int .i64 (f 6), .int .i64 (f 7), .slice a l.length ca] 44)) := (Off.refl _ w).alloc _
 have HWA : Hid _ := hW.off O0 (fun _ _ _ h => h)
 have HL0 : Hid (¬ D w.heap.size) := fun h => by have := hW.lt _ h; omega
 clear hrow hW
 go_enter Tryz.func109, Tryz.ntmps109
 go_upto_region 1 with fail
 have hq0 : w.heap.size < (w.alloc (.cells #[.int .i64 (f 0), .int .i64 (f 1), .int .i64 (f 2), .int .i64 (f 3), .int .i64 (f 4), .int .i64 (f 5), .int .i64 (f 6), .int .i64 (f 7), .slice a l.length ca] 44)).heap.size := by simp [World.size_alloc]
 generalize hq : w.heap.size = q at C0 HL0 hq0 ⊢
 generalize hv : w.alloc (.cells #[.int .i64 (f 0), .int .i64 (f 1), .int .i64 (f 2), .int .i64 (f 3), .int .i64 (f 4), .int .i64 (f 5), .int .i64 (f 6), .int .i64 (f 7), .slice a l.length ca] 44) = W at C0 O0 HWA hq0 ⊢
 have HQ : Hid (w.heap.size ≤ q ∧ q < W.heap.size) := ⟨by omega, hq0⟩
 clear hq hv hq0
 have HO0 : Hid (Off D w W) := O0.mono (fun _ _ h => h.elim)
 obtain ⟨x0, x1, x2, x3, x4, x5, x6, x7, x8⟩ := cel9 C0
 have HC0 : Hid _ := C0
 clear C0 O0
 go_wp2_with fail
 clear x0 x1 x2 x3 x4 x5 x6 x7 x8
 refine (vwrite_any HWA.out hm hst f hr).mono ?_
 rintro e w1 ⟨rfl, D1, W1, o1, d1⟩
 have HW1 : Hid _ := W1
 have HD1 : Hid (∀ c, D1 c → D c ∨ W.heap.size ≤ c) := d1
 have HC1 : Hid _ := HC0.out.off o1 HL0.out
 have HO1 : Hid (Off D w w1) := HO0.out.trans o1 (fun _ _ h => h)
 have hz1 := o1.size
 have HZ1 : Hid _ := hz1
 clear W1 o1 d1 HC0 HO0 HWA hz1
 obtain ⟨x0, x1, x2, x3, x4, x5, x6, x7, x8⟩ := cel9 HC1.out
 go_wp2_with fail
 clear x0 x1 x2 x3 x4 x5 x6 x7 x8
 have hl1 := wrV_le hst f 8
 refine (wnum_any HW1.out l.length (by omega) (.inr ⟨hm, hl1⟩)).mono ?_
 rintro e w2 ⟨rfl, D2, W2, o2, d2⟩
 have HW2 : Hid _ := W2
 have HN1 : Hid (¬ D1 q) := fun h => (HD1.out q h).elim HL0.out (fun h2 => by have := HQ.out.2; omega)
 have HD2 : Hid (∀ c, D2 c → D c ∨ w.heap.size ≤ c) := fun c hc => (d2 c hc).elim (fun h => (HD1.out c h).imp id (fun h => by have := HQ.out; omega)) (fun h => by have := HZ1.out; have := HQ.out; exact .inr (by omega))
 have HN2 : Hid (¬ D2 q) := fun h => (d2 q h).elim HN1.out (fun h2 => by have := HQ.out.2; have := HZ1.out; omega)
 have HC2 : Hid _ := HC1.out.off o2 HN1.out
 have HO2 : Hid (Off D w w2) := HO1.out.trans o2 (fun i hi h => (HD1.out i h).elim id (fun h2 => by have := HQ.out; omega))
 have HZ2 : Hid (W.heap.size ≤ w2.heap.size) := Nat.le_trans HZ1.out o2.size
 clear W2 o2 d2 HC1 HO1 HW1 HD1 HN1
 have hl2 := put_le hl1 (numB l.length)
 obtain ⟨st2, hst2⟩ : ∃ s, s = putS most (wrV most st f 8) (numB l.length) := ⟨_, rfl⟩
 rw [← hst2] at HW2 hl2
 have HST2 : Hid _ := hst2
 clear hst2 hl1
 obtain ⟨x0, x1, x2, x3, x4, x5, x6, x7, x8⟩ := cel9 HC2.out
 go_wp2_with fail
 clear x0 x1 x2 x3 x4 x5 x6 x7 x8
 go_loopw [19] (fun y wr => ∃ (n : Nat) (D' : Nat → Prop), y = .int .i64 (n : Int) ∧ n ≤ l.length ∧ Wtr D' b most (wrL most st2 (cont (l.take n))) wr ∧ Off D w wr ∧ ∀ c, D' c → D c ∨ w.heap.size ≤ c) (fun y _ => (l.length - intOf y).toNat)
 case atStart => exact ⟨0, D2, rfl, by omega, by simpa [wrL, cont] using HW2.out, HO2.out, HD2.out⟩
 case round =>
  clear HW2 HO2 HD2 HN2 HC2 HZ2
  obtain ⟨n, D', rfl, hn, hw, O, hD⟩ := hrel
  by_cases hln : n < l.length
  ·have i1 : decide ((n : Int) < (l.length : Int)) = true := decide_eq_true (by omega)
   have i2 : decide (n < l.length) = true := decide_eq_true hln
   obtain ⟨x, hx⟩ : ∃ x, l[n]? = some x := ⟨_, List.getElem?_eq_getElem hln⟩
   obtain ⟨ba, fa, hay, h4, hvx⟩ := (HRW.out wr O).at_ n x hx
   obtain ⟨c0, c1, c2, c3⟩ := h4
   have HRO : Hid (∀ w', Off D w w' → VOk w' x) := fun w' o => by
    obtain ⟨_, _, _, _, h⟩ := (HRW.out w' o).at_ n x hx
    exact h
   have hstep : wrL most st2 (cont (l.take (n + 1))) = wrVal most (wrL most st2 (cont (l.take n))) x.abs := wrL_step hx
   have hlw := wrL_le hl2 (cont (l.take n))
   obtain ⟨s0, hs0⟩ : ∃ s, s = wrL most st2 (cont (l.take n)) := ⟨_, rfl⟩
   rw [← hs0] at hstep hlw hw
   have HSTEP : Hid _ := hstep
   have HWR : Hid _ := hw
   have HDD : Hid _ := hD
   have eu := u64_wrap x.node
   have hun := u64N_lt x.node
   have hvk := hvx
   clear hs0 hstep hx hw hD
   subst hay
   go_upto_region 6 with fail
   have CX := Cel.new wr 137 #[.int .i64 x.node, .int .i64 x.num, .slice x.ad x.data.length x.cap, .bool x.dead]
   have OA : Off (fun _ => False) wr (wr.alloc (.cells #[.int .i64 x.node, .int .i64 x.num, .slice x.ad x.data.length x.cap, .bool x.dead] 137)) := (Off.refl _ wr).alloc _
   have hqz : wr.heap.size < (wr.alloc (.cells #[.int .i64 x.node, .int .i64 x.num, .slice x.ad x.data.length x.cap, .bool x.dead] 137)).heap.size := by simp [World.size_alloc]
   have hq1 := HWR.out.lt
   generalize hq : wr.heap.size = qx at CX hqz hq1 ⊢
   have hq2 : w.heap.size ≤ qx := by have := O.size; omega
   have HW3 := HWR.out.off OA (fun _ _ _ h => h)
   generalize hv : wr.alloc (.cells #[.int .i64 x.node, .int .i64 x.num, .slice x.ad x.data.length x.cap, .bool x.dead] 137) = v0 at CX OA hqz HW3 ⊢
   have O1 : Off D w v0 := O.trans (OA.mono (fun _ _ h => h.elim)) (fun _ _ h => h)
   have hD0 : ∀ c, D' c → D c ∨ w.heap.size ≤ c := HDD.out
   have hN0 : ¬ D' qx := fun h => by have := hq1 qx h; omega
   clear hv hq c0 c1 c2 c3 OA O hq1 HWR HDD
   obtain ⟨e0, e1, e2, e3⟩ := cel4 CX
   go_wp2_with fail
   clear e0 e1 e2 e3
   refine (wnum_any HW3 (u64N x.node) hun (.inr ⟨hm, hlw⟩)).mono ?_
   rintro e v1 ⟨rfl, E1, W1, o1, g1⟩
   have CX1 := CX.off o1 hN0
   have O2 : Off D w v1 := O1.trans o1 (fun k hk h => (hD0 k h).elim id (fun h2 => by omega))
   have hD1 : ∀ c, E1 c → D c ∨ w.heap.size ≤ c := fun c hc => (g1 c hc).elim (hD0 c) (fun h => .inr (Nat.le_trans O1.size h))
   have hN1 : ¬ E1 qx := fun h => (g1 qx h).elim hN0 (fun h => by omega)
   have hl1 := put_le hlw (numB (u64N x.node))
   have hz1 : qx < v1.heap.size := Nat.lt_of_lt_of_le hqz o1.size
   clear HW3 CX O1 o1 g1 hD0 hN0 hqz
   obtain ⟨e0, e1, e2, e3⟩ := cel4 CX1
   go_wp2_with fail
   clear e0 e1 e2 e3
   refine (wint_any W1 x.num hvk.m0 hvk.m1 (.inr ⟨hm, hl1⟩)).mono ?_
   rintro e v2 ⟨rfl, E2, W2, o2, g2⟩
   have CX2 := CX1.off o2 hN1
   have O3 : Off D w v2 := O2.trans o2 (fun k hk h => (hD1 k h).elim id (fun h2 => by omega))
   have hD2 : ∀ c, E2 c → D c ∨ w.heap.size ≤ c := fun c hc => (g2 c hc).elim (hD1 c) (fun h => .inr (Nat.le_trans O2.size h))
   have hN2 : ¬ E2 qx := fun h => (g2 qx h).elim hN1 (fun h => by omega)
   have hl3 := put_le hl1 (numB (zig x.num))
   have hz2 : qx < v2.heap.size := Nat.lt_of_lt_of_le hz1 o2.size
   clear W1 CX1 O2 o2 g2 hD1 hN1 hz1
   obtain ⟨e0, e1, e2, e3⟩ := cel4 CX2
   go_wp2_with fail
   clear e0 e1 e2 e3
   refine (wflag_any W2 x.dead (.inr ⟨hm, hl3⟩)).mono ?_
   rintro e v3 ⟨rfl, E3, W3, o3, g3⟩
   have CX3 := CX2.off o3 hN2
   have O4 : Off D w v3 := O3.trans o3 (fun k hk h => (hD2 k h).elim id (fun h2 => by omega))
   have hD3 : ∀ c, E3 c → D c ∨ w.heap.size ≤ c := fun c hc => (g3 c hc).elim (hD2 c) (fun h => .inr (Nat.le_trans O3.size h))
   have hl4 := put_le hl3 [if x.dead then 1 else 0]
   clear W2 CX2 O3 o3 g3 hD2 hN2 hz2
   obtain ⟨e0, e1, e2, e3⟩ := cel4 CX3
   go_wp2_with fail
   clear e0 e1 e2 e3
   refine (wtext_any W3 x.ad x.cap x.data (fun w' o => (HRO.out _ (O4.trans o (fun k hk h => (hD3 k h).elim id (fun h2 => by omega)))).src) (.inr ⟨hm, hl4, hvk.len⟩)).mono ?_
   rintro e v4 ⟨rfl, E4, W4, o4, g4⟩
   have O5 : Off D w v4 := O4.trans o4 (fun k hk h => (hD3 k h).elim id (fun h2 => by omega))
   have hD4 : ∀ c, E4 c → D c ∨ w.heap.size ≤ c := fun c hc => (g4 c hc).elim (hD3 c) (fun h => .inr (Nat.le_trans O4.size h))
   have HF : Hid (Wtr E4 b most (wrL most st2 (cont (l.take (n + 1)))) v4) := by rw [HSTEP.out]; exact W4
   have HO5 : Hid _ := O5
   have HD4 : Hid _ := hD4
   clear W3 W4 CX3 O4 O5 o4 g4 hD3 hD4 hl1 hl3 hl4 hlw HSTEP
   go_wp2_with fail
   go_roundw
   case rel => exact ⟨n + 1, E4, by go_num, by omega, HF.out, HO5.out, HD4.out⟩
   case measure => simp [intOf]; omega
  ·have i1 : decide ((n : Int) < (l.length : Int)) = false := decide_eq_false (by omega)
   have i2 : decide (n < l.length) = false := decide_eq_false hln
   have hF : Wtr D' b most (wrS most st f (cont l)) wr := by
    have e : n = l.length := by omega
    rw [e, List.take_length, HST2.out] at hw
    simpa [wrS, cont_len] using hw
   have HF : Hid _ := hF
   have HO : Hid _ := O
   have HDD : Hid _ := hD
   clear hF hw O hD
   go_wp2_with fail
   first | go_end0 | refine bodyPost_ret (results_none rfl _ _ _) rfl ?_
   exact ⟨rfl, D', HF.out, HO.out, HDD.out⟩
set_option maxRecDepth 100000 in
theorem gvwrite_any {D : Nat → Prop} {b most : Nat} {st : Option (List Nat)} {w : World} (hW : FW D b most st w) (hm : most ≤ 140737488355328) (hst : (st.getD []).length ≤ most) (f : Nat → Int) (hr : ∀ j, j < 8 → -9223372036854775808 ≤ f j ∧ f j ≤ 9223372036854775807) :
  Calls Tryz.prog 43 #[.pointer (some ⟨b, 0, none⟩), .agg #[.int .i64 (f 0), .int .i64 (f 1), .int .i64 (f 2), .int .i64 (f 3), .int .i64 (f 4), .int .i64 (f 5), .int .i64 (f 6), .int .i64 (f 7)]] w fun e w' => e = .returned (.tuple #[]) ∧ ∃ D', FW D' b most (wrV most st f 8) w' ∧ Off D w w' ∧ ∀ c, D' c → D c ∨ w.heap.size ≤ c := by
 have HW : Hid _ := hW
 clear hW
 go_enter Tryz.func43, Tryz.ntmps43
 go_wp2_with fail
 go_loopw [7] (fun y wr => ∃ (n : Nat) (D' : Nat → Prop), y = .int .i64 (n : Int) ∧ n ≤ 8 ∧ FW D' b most (wrV most st f n) wr ∧ Off D w wr ∧ ∀ c, D' c → D c ∨ w.heap.size ≤ c) (fun y _ => (8 - intOf y).toNat)
 case atStart => exact ⟨0, D, rfl, by omega, HW.out.off ((Off.refl (fun _ => False) w).alloc _) (fun _ _ _ h => h), (Off.refl _ w).alloc _, fun c h => .inl h⟩
 case round =>
  obtain ⟨n, D', rfl, hn, hw, O, hD⟩ := hrel
  have HW' : Hid _ := hw
  have HD : Hid _ := hD
  clear hw hD
  by_cases h : n < 8
  ·have hd : decide ((n : Int) < 8) = true := by simp; omega
   have hi := idx_vec f h
   have hl := wrV_le hst f n
   go_wp2_with fail
   refine (fwint_any HW'.out (f n) (hr n h).1 (hr n h).2 (.inr ⟨hm, hl⟩)).mono ?_
   rintro e v ⟨rfl, E, W1, o1, hE⟩
   have HW1 : Hid _ := W1
   have HE : Hid _ := hE
   clear W1 hE
   go_wp2_with fail
   go_roundw
   case rel =>
    refine ⟨n + 1, E, by go_num, by omega, HW1.out, O.trans o1 (fun i hi h => (HD.out i h).elim id (fun h2 => by omega)), fun c hc => ?_⟩
    rcases HE.out c hc with h1 | h1
    ·exact HD.out c h1
    ·exact .inr (Nat.le_trans O.size h1)
   case measure => simp [intOf]; omega
  ·obtain rfl : n = 8 := by omega
   go_wp2_with fail
   first | go_end0 | refine bodyPost_ret (results_none rfl _ _ _) rfl ?_
   exact ⟨rfl, D', HW'.out, O, HD.out⟩
set_option maxRecDepth 100000 in
set_option maxHeartbeats 2000000 in
theorem gswrite_any {D : Nat → Prop} {b most : Nat} {st : Option (List Nat)} {w : World} (hW : FW D b most st w) (hm : most ≤ 140737488355328) (hst : (st.getD []).length ≤ most) (f : Nat → Int) (hr : ∀ j, j < 8 → -9223372036854775808 ≤ f j ∧ f j ≤ 9223372036854775807) (a : Option Addr) (ca : Nat) (l : List V) (hrow : ∀ w', Off D w w' → Row w' a ca l) :
  Calls Tryz.prog 42 #[.pointer (some ⟨b, 0, none⟩), .agg #[.int .i64 (f 0), .int .i64 (f 1), .int .i64 (f 2), .int .i64 (f 3), .int .i64 (f 4), .int .i64 (f 5), .int .i64 (f 6), .int .i64 (f 7), .slice a l.length ca]] w fun e w' => e = .returned (.tuple #[]) ∧ ∃ D', FW D' b most (wrS most st f (cont l)) w' ∧ Off D w w' ∧ ∀ c, D' c → D c ∨ w.heap.size ≤ c := by
 have hlb : l.length ≤ 9223372036854775807 := by have h := hrow w (Off.refl _ w); have h1 := h.len; have h2 := h.bound; omega
 have hu0 : IntKind.u64.wrap ((l.length : Nat) : Int) = ((l.length : Nat) : Int) := by
  simp only [IntKind.wrap, IntKind.bits, IntKind.signed]
  go_num
 have HRW : Hid _ := hrow
 have C0 := Cel.new w 44 #[.int .i64 (f 0), .int .i64 (f 1), .int .i64 (f 2), .int .i64 (f 3), .int .i64 (f 4), .int .i64 (f 5), .int .i64 (f 6), .int .i64 (f 7), .slice a l.length ca]
 have O0 : Off (fun _ => False) w (w.alloc (.cells #[.int .i64 (f 0), .int .i64 (f 1), .int .i64 (f 2), .int .i64 (f 3), .int .i64 (f 4), .int .i64 (f 5), .int .i64 (f 6), .int .i64 (f 7), .slice a l.length ca] 44)) := (Off.refl _ w).alloc _
 have HWA : Hid _ := hW.off O0 (fun _ _ _ h => h)
 have HL0 : Hid (¬ D w.heap.size) := fun h => by have := hW.lt _ h; omega
 clear hrow hW
 go_enter Tryz.func42, Tryz.ntmps42
 go_upto_region 1 with fail
 have hq0 : w.heap.size < (w.alloc (.cells #[.int .i64 (f 0), .int .i64 (f 1), .int .i64 (f 2), .int .i64 (f 3), .int .i64 (f 4), .int .i64 (f 5), .int .i64 (f 6), .int .i64 (f 7), .slice a l.length ca] 44)).heap.size := by simp [World.size_alloc]
 generalize hq : w.heap.size = q at C0 HL0 hq0 ⊢
 generalize hv : w.alloc (.cells #[.int .i64 (f 0), .int .i64 (f 1), .int .i64 (f 2), .int .i64 (f 3), .int .i64 (f 4), .int .i64 (f 5), .int .i64 (f 6), .int .i64 (f 7), .slice a l.length ca] 44) = W at C0 O0 HWA hq0 ⊢
 have HQ : Hid (w.heap.size ≤ q ∧ q < W.heap.size) := ⟨by omega, hq0⟩
 clear hq hv hq0
 have HO0 : Hid (Off D w W) := O0.mono (fun _ _ h => h.elim)
 obtain ⟨x0, x1, x2, x3, x4, x5, x6, x7, x8⟩ := cel9 C0
 have HC0 : Hid _ := C0
 clear C0 O0
 go_wp2_with fail
 clear x0 x1 x2 x3 x4 x5 x6 x7 x8
 refine (gvwrite_any HWA.out hm hst f hr).mono ?_
 rintro e w1 ⟨rfl, D1, W1, o1, d1⟩
 have HW1 : Hid _ := W1
 have HD1 : Hid (∀ c, D1 c → D c ∨ W.heap.size ≤ c) := d1
 have HC1 : Hid _ := HC0.out.off o1 HL0.out
 have HO1 : Hid (Off D w w1) := HO0.out.trans o1 (fun _ _ h => h)
 have hz1 := o1.size
 have HZ1 : Hid _ := hz1
 clear W1 o1 d1 HC0 HO0 HWA hz1
 obtain ⟨x0, x1, x2, x3, x4, x5, x6, x7, x8⟩ := cel9 HC1.out
 go_wp2_with fail
 clear x0 x1 x2 x3 x4 x5 x6 x7 x8
 have hl1 := wrV_le hst f 8
 refine (fwnum_any HW1.out l.length (by omega) (.inr ⟨hm, hl1⟩)).mono ?_
 rintro e w2 ⟨rfl, D2, W2, o2, d2⟩
 have HW2 : Hid _ := W2
 have HN1 : Hid (¬ D1 q) := fun h => (HD1.out q h).elim HL0.out (fun h2 => by have := HQ.out.2; omega)
 have HD2 : Hid (∀ c, D2 c → D c ∨ w.heap.size ≤ c) := fun c hc => (d2 c hc).elim (fun h => (HD1.out c h).imp id (fun h => by have := HQ.out; omega)) (fun h => by have := HZ1.out; have := HQ.out; exact .inr (by omega))
 have HN2 : Hid (¬ D2 q) := fun h => (d2 q h).elim HN1.out (fun h2 => by have := HQ.out.2; have := HZ1.out; omega)
 have HC2 : Hid _ := HC1.out.off o2 HN1.out
 have HO2 : Hid (Off D w w2) := HO1.out.trans o2 (fun i hi h => (HD1.out i h).elim id (fun h2 => by have := HQ.out; omega))
 have HZ2 : Hid (W.heap.size ≤ w2.heap.size) := Nat.le_trans HZ1.out o2.size
 clear W2 o2 d2 HC1 HO1 HW1 HD1 HN1
 have hl2 := put_le hl1 (numB l.length)
 obtain ⟨st2, hst2⟩ : ∃ s, s = putS most (wrV most st f 8) (numB l.length) := ⟨_, rfl⟩
 rw [← hst2] at HW2 hl2
 have HST2 : Hid _ := hst2
 clear hst2 hl1
 obtain ⟨x0, x1, x2, x3, x4, x5, x6, x7, x8⟩ := cel9 HC2.out
 go_wp2_with fail
 clear x0 x1 x2 x3 x4 x5 x6 x7 x8
 go_loopw [19] (fun y wr => ∃ (n : Nat) (D' : Nat → Prop), y = .int .i64 (n : Int) ∧ n ≤ l.length ∧ FW D' b most (wrL most st2 (cont (l.take n))) wr ∧ Off D w wr ∧ ∀ c, D' c → D c ∨ w.heap.size ≤ c) (fun y _ => (l.length - intOf y).toNat)
 case atStart => exact ⟨0, D2, rfl, by omega, by simpa [wrL, cont] using HW2.out, HO2.out, HD2.out⟩
 case round =>
  clear HW2 HO2 HD2 HN2 HC2 HZ2
  obtain ⟨n, D', rfl, hn, hw, O, hD⟩ := hrel
  by_cases hln : n < l.length
  ·have i1 : decide ((n : Int) < (l.length : Int)) = true := decide_eq_true (by omega)
   have i2 : decide (n < l.length) = true := decide_eq_true hln
   obtain ⟨x, hx⟩ : ∃ x, l[n]? = some x := ⟨_, List.getElem?_eq_getElem hln⟩
   obtain ⟨ba, fa, hay, h4, hvx⟩ := (HRW.out wr O).at_ n x hx
   obtain ⟨c0, c1, c2, c3⟩ := h4
   have HRO : Hid (∀ w', Off D w w' → VOk w' x) := fun w' o => by
    obtain ⟨_, _, _, _, h⟩ := (HRW.out w' o).at_ n x hx
    exact h
   have hstep : wrL most st2 (cont (l.take (n + 1))) = wrVal most (wrL most st2 (cont (l.take n))) x.abs := wrL_step hx
   have hlw := wrL_le hl2 (cont (l.take n))
   obtain ⟨s0, hs0⟩ : ∃ s, s = wrL most st2 (cont (l.take n)) := ⟨_, rfl⟩
   rw [← hs0] at hstep hlw hw
   have HSTEP : Hid _ := hstep
   have HWR : Hid _ := hw
   have HDD : Hid _ := hD
   have eu := u64_wrap x.node
   have hun := u64N_lt x.node
   have hvk := hvx
   clear hs0 hstep hx hw hD
   subst hay
   go_upto_region 6 with fail
   have CX := Cel.new wr 137 #[.int .i64 x.node, .int .i64 x.num, .slice x.ad x.data.length x.cap, .bool x.dead]
   have OA : Off (fun _ => False) wr (wr.alloc (.cells #[.int .i64 x.node, .int .i64 x.num, .slice x.ad x.data.length x.cap, .bool x.dead] 137)) := (Off.refl _ wr).alloc _
   have hqz : wr.heap.size < (wr.alloc (.cells #[.int .i64 x.node, .int .i64 x.num, .slice x.ad x.data.length x.cap, .bool x.dead] 137)).heap.size := by simp [World.size_alloc]
   have hq1 := HWR.out.lt
   generalize hq : wr.heap.size = qx at CX hqz hq1 ⊢
   have hq2 : w.heap.size ≤ qx := by have := O.size; omega
   have HW3 := HWR.out.off OA (fun _ _ _ h => h)
   generalize hv : wr.alloc (.cells #[.int .i64 x.node, .int .i64 x.num, .slice x.ad x.data.length x.cap, .bool x.dead] 137) = v0 at CX OA hqz HW3 ⊢
   have O1 : Off D w v0 := O.trans (OA.mono (fun _ _ h => h.elim)) (fun _ _ h => h)
   have hD0 : ∀ c, D' c → D c ∨ w.heap.size ≤ c := HDD.out
   have hN0 : ¬ D' qx := fun h => by have := hq1 qx h; omega
   clear hv hq c0 c1 c2 c3 OA O hq1 HWR HDD
   obtain ⟨e0, e1, e2, e3⟩ := cel4 CX
   go_wp2_with fail
   clear e0 e1 e2 e3
   refine (fwnum_any HW3 (u64N x.node) hun (.inr ⟨hm, hlw⟩)).mono ?_
   rintro e v1 ⟨rfl, E1, W1, o1, g1⟩
   have CX1 := CX.off o1 hN0
   have O2 : Off D w v1 := O1.trans o1 (fun k hk h => (hD0 k h).elim id (fun h2 => by omega))
   have hD1 : ∀ c, E1 c → D c ∨ w.heap.size ≤ c := fun c hc => (g1 c hc).elim (hD0 c) (fun h => .inr (Nat.le_trans O1.size h))
   have hN1 : ¬ E1 qx := fun h => (g1 qx h).elim hN0 (fun h => by omega)
   have hl1 := put_le hlw (numB (u64N x.node))
   have hz1 : qx < v1.heap.size := Nat.lt_of_lt_of_le hqz o1.size
   clear HW3 CX O1 o1 g1 hD0 hN0 hqz
   obtain ⟨e0, e1, e2, e3⟩ := cel4 CX1
   go_wp2_with fail
   clear e0 e1 e2 e3
   refine (fwint_any W1 x.num hvk.m0 hvk.m1 (.inr ⟨hm, hl1⟩)).mono ?_
   rintro e v2 ⟨rfl, E2, W2, o2, g2⟩
   have CX2 := CX1.off o2 hN1
   have O3 : Off D w v2 := O2.trans o2 (fun k hk h => (hD1 k h).elim id (fun h2 => by omega))
   have hD2 : ∀ c, E2 c → D c ∨ w.heap.size ≤ c := fun c hc => (g2 c hc).elim (hD1 c) (fun h => .inr (Nat.le_trans O2.size h))
   have hN2 : ¬ E2 qx := fun h => (g2 qx h).elim hN1 (fun h => by omega)
   have hl3 := put_le hl1 (numB (zig x.num))
   have hz2 : qx < v2.heap.size := Nat.lt_of_lt_of_le hz1 o2.size
   clear W1 CX1 O2 o2 g2 hD1 hN1 hz1
   obtain ⟨e0, e1, e2, e3⟩ := cel4 CX2
   go_wp2_with fail
   clear e0 e1 e2 e3
   refine (fwflag_any W2 x.dead (.inr ⟨hm, hl3⟩)).mono ?_
   rintro e v3 ⟨rfl, E3, W3, o3, g3⟩
   have CX3 := CX2.off o3 hN2
   have O4 : Off D w v3 := O3.trans o3 (fun k hk h => (hD2 k h).elim id (fun h2 => by omega))
   have hD3 : ∀ c, E3 c → D c ∨ w.heap.size ≤ c := fun c hc => (g3 c hc).elim (hD2 c) (fun h => .inr (Nat.le_trans O3.size h))
   have hl4 := put_le hl3 [if x.dead then 1 else 0]
   clear W2 CX2 O3 o3 g3 hD2 hN2 hz2
   obtain ⟨e0, e1, e2, e3⟩ := cel4 CX3
   go_wp2_with fail
   clear e0 e1 e2 e3
   refine (fwtext_any W3 x.ad x.cap x.data (HRO.out _ O4).src (.inr ⟨hm, hl4, hvk.len⟩)).mono ?_
   rintro e v4 ⟨rfl, E4, W4, o4, g4⟩
   have O5 : Off D w v4 := O4.trans o4 (fun k hk h => (hD3 k h).elim id (fun h2 => by omega))
   have hD4 : ∀ c, E4 c → D c ∨ w.heap.size ≤ c := fun c hc => (g4 c hc).elim (hD3 c) (fun h => .inr (Nat.le_trans O4.size h))
   have HF : Hid (FW E4 b most (wrL most st2 (cont (l.take (n + 1)))) v4) := by rw [HSTEP.out]; exact W4
   have HO5 : Hid _ := O5
   have HD4 : Hid _ := hD4
   clear W3 W4 CX3 O4 O5 o4 g4 hD3 hD4 hl1 hl3 hl4 hlw HSTEP
   go_wp2_with fail
   go_roundw
   case rel => exact ⟨n + 1, E4, by go_num, by omega, HF.out, HO5.out, HD4.out⟩
   case measure => simp [intOf]; omega
  ·have i1 : decide ((n : Int) < (l.length : Int)) = false := decide_eq_false (by omega)
   have i2 : decide (n < l.length) = false := decide_eq_false hln
   have hF : FW D' b most (wrS most st f (cont l)) wr := by
    have e : n = l.length := by omega
    rw [e, List.take_length, HST2.out] at hw
    simpa [wrS, cont_len] using hw
   have HF : Hid _ := hF
   have HO : Hid _ := O
   have HDD : Hid _ := hD
   clear hF hw O hD
   go_wp2_with fail
   first | go_end0 | refine bodyPost_ret (results_none rfl _ _ _) rfl ?_
   exact ⟨rfl, D', HF.out, HO.out, HDD.out⟩
end Go.Proofs.YtmbphlkohlggfaaGreat
