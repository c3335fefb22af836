/- Items of several texts. -/
import Derived.Test.YtmbphlkohlggfaaDMm20
import Derived.Test.YtmbphlkohlggfaaDWRops
import Derived.Test.YtmbphlkohlggfaaDSWr
namespace Go.Proofs.Ytmbphlkohlggfaa
set_option maxRecDepth 100000
open Go.RowKit
def Put' (D : Nat → Prop) (b most : Nat) (st' : Option (List Nat)) (w w' : World) : Prop := ∃ D', Wtr D' b most st' w' ∧ Off D w w' ∧ ∀ c, D' c → D c ∨ w.heap.size ≤ c
def i64w (n : Nat) : Int := IntKind.i64.wrap (n : Int)
def mrS (s : RS) : RS := (intS (numS s).2).2
def mrB (s : RS) : Bool := decide ((mrS s).2 = 0) && mbB (i64w (numS s).1) (intS (numS s).2).1
def mrX (s : RS) : Int := if mrB s = true then i64w (numS s).1 else 0
def mrY (s : RS) : Int := if mrB s = true then (intS (numS s).2).1 else 0
set_option maxHeartbeats 1000000 in
theorem mfailed_any {D : Nat → Prop} {b : Nat} {s : RS} {w : World} (hR : Rdr 125 D b s w) :
  Calls Try.prog 125 #[.pointer (some ⟨b, 0, none⟩)] w fun e w' => e = .returned (.bool (!decide (s.2 = 0))) ∧ w' = w := by
 have HR : Hid (Rdr 125 D b s w) := hR
 have hk := hR.ok.2.1
 clear hR
 rcases s with ⟨l, e⟩
 cases l with
 | nil =>
  have hen : Hid (endS (([] : List Nat), e) = e) := by show _ = _; simp [endS]
  have hx : Hid ((((e : Nat) : Int) != 0) = !decide (e = 0)) := by
   show _ = _
   by_cases h : e = 0
   ·simp [h]
   ·simp [h]
  clear hk
  go_enter Try.func125, Try.ntmps125
  go_wp2_with fail
  refine (rleft_any HR.out).mono ?_
  rintro e1 w1 ⟨rfl, hw⟩
  rw [hw]
  clear hw w1
  have e0 : ((([] : List Nat).length : Nat) : Int) = 0 := rfl
  rw [e0]
  clear e0
  go_wp2_with fail
  refine (rend_any HR.out).mono ?_
  rw [hen.out]
  rintro e1 w1 ⟨rfl, hw⟩
  rw [hw]
  clear hw w1
  go_wp2_with fail
  go_ret
  exact ⟨by rw [← hx.out]; rfl, rfl⟩
 | cons x l =>
  have he : e = 0 := Classical.byContradiction (fun h => by have := hk h; simp at this)
  subst he
  obtain ⟨n, hn⟩ : ∃ n, n = (x :: l).length := ⟨_, rfl⟩
  have e1 : (((n : Nat) : Int) == 0) = false := by
   rw [hn]
   simp
   omega
  have HL : Hid (Calls Try.prog 132 #[.pointer (some ⟨b, 0, none⟩)] w fun e w' => e = .returned (.int .i64 ((n : Nat) : Int)) ∧ w' = w) := by
   rw [hn]
   exact rleft_any HR.out
  clear hk hn
  go_enter Try.func125, Try.ntmps125
  go_wp2_with fail
  refine HL.out.mono ?_
  rintro e1 w1 ⟨rfl, hw⟩
  rw [hw]
  clear hw w1
  go_wp2_with fail
  go_ret
  exact ⟨rfl, rfl⟩
set_option maxHeartbeats 1000000 in
theorem mread_any {D : Nat → Prop} {b : Nat} {s : RS} {w : World} (hR : Rdr 125 D b s w) :
  Calls Try.prog 104 #[.pointer (some ⟨b, 0, none⟩)] w fun e w' => e = .returned (.tuple #[.agg #[.int .i64 (mrX s), .int .i64 (mrY s)], .bool (mrB s)]) ∧ Rdr 125 D b (mrS s) w' ∧ Off (fun c => c = b) w w' := by
 have HR : Hid (Rdr 125 D b s w) := hR
 obtain ⟨n, hn⟩ : ∃ n, n = (numS s).1 := ⟨_, rfl⟩
 obtain ⟨y, hy⟩ : ∃ y, y = (intS (numS s).2).1 := ⟨_, rfl⟩
 have hz : IntKind.i64.wrap (n : Int) = i64w n := rfl
 obtain ⟨x, hx⟩ : ∃ x, x = i64w n := ⟨_, rfl⟩
 rw [← hx] at hz
 have HX : Hid (mrX s = if mrB s = true then x else 0) := by show _ = _; rw [hx, hn]; rfl
 have HY : Hid (mrY s = if mrB s = true then y else 0) := by show _ = _; rw [hy]; rfl
 have HB : Hid (mrB s = (decide ((mrS s).2 = 0) && mbB x y)) := by show _ = _; rw [hx, hy, hn]; rfl
 have HN : Hid (n = (numS s).1) := hn
 have HY2 : Hid (y = (intS (numS s).2).1) := hy
 clear hR hn hy hx
 go_enter Try.func104, Try.ntmps104
 go_wp2_with fail
 generalize hV : w.alloc (.cells #[.int .i64 0, .int .i64 0] 63) = V
 have O : Hid (Off (fun _ => False) w V) := by show Off _ _ _; rw [← hV]; exact (Off.refl _ w).alloc _
 have C0 : Hid (Cel w.heap.size 63 #[.int .i64 0, .int .i64 0] V) := by show Cel _ _ _ _; rw [← hV]; exact Cel.new w _ _
 have NB : Hid (w.heap.size ≠ b) := fun h => by have := HR.out.here; omega
 clear hV
 have R0 := HR.out.off O.out (fun h => h) (fun _ _ _ h => h)
 refine (rnum_any R0).mono ?_
 clear R0
 rw [← HN.out]
 rintro e w1 ⟨rfl, r1, o1⟩
 have H1 : Hid _ := r1
 have O1 : Hid _ := o1
 clear r1 o1
 go_wp2_with fail
 refine (rint_any H1.out).mono ?_
 rw [← HY2.out]
 rintro e w2 ⟨rfl, r2, o2⟩
 have H2 : Hid (Rdr 125 D b (mrS s) w2) := r2
 have O2 : Hid _ := o2
 clear r2 o2
 go_wp2_with fail
 generalize hU : w2.alloc (.cells #[.int .i64 x, .int .i64 y] 63) = U
 have O3 : Hid (Off (fun _ => False) w2 U) := by show Off _ _ _; rw [← hU]; exact (Off.refl _ w2).alloc _
 have C3 : Hid (Cel w2.heap.size 63 #[.int .i64 x, .int .i64 y] U) := by show Cel _ _ _ _; rw [← hU]; exact Cel.new w2 _ _
 clear hU
 have R3 : Hid (Rdr 125 D b (mrS s) U) := H2.out.off O3.out (fun h => h) (fun _ _ _ h => h)
 have Z3 : Hid (Cel w.heap.size 63 #[.int .i64 0, .int .i64 0] U) := ((C0.out.off O1.out NB.out).off O2.out NB.out).off O3.out (fun h => h)
 have OO : Hid (Off (fun c => c = b) w U) := (((O.out.mono (fun _ _ h => h.elim)).trans O1.out (fun _ _ h => h)).trans O2.out (fun _ _ h => h)).trans O3.out (fun _ _ h => h.elim)
 clear O1 O2 O3 H1 H2 HN HY2 C0
 refine (mfailed_any R3.out).mono ?_
 cases hd : decide ((mrS s).2 = 0) with
 | false =>
  rw [hd] at HB
  clear hd
  rintro e w3 ⟨rfl, hw⟩
  rw [hw]
  clear hw w3
  have z0 := Z3.out.cell 0
  have z1 := Z3.out.cell 1
  have fz := Z3.out.free
  simp at z0 z1
  go_wp2_with fail
  refine bodyPost_ret (results_mem2 rfl rfl rfl (Z3.out.st2 _ _)) rfl ?_
  have hb : mrB s = false := HB.out
  rw [HX.out, HY.out, hb]
  exact ⟨rfl, R3.out.off (Off.st2 (D := fun c => c = w.heap.size) (Off.refl _ U) (.inl rfl) _ _) (fun h => NB.out h.symm) (fun c hc hD h => by have := HR.out.lt c hD; omega), OO.out.st2 (.inr (Nat.le_refl _)) _ _⟩
 | true =>
  rw [hd] at HB
  clear hd
  rintro e w3 ⟨rfl, hw⟩
  rw [hw]
  clear hw w3
  have y0 := C3.out.cell 0
  have y1 := C3.out.cell 1
  simp at y0 y1
  go_wp2_with fail
  refine (mmay_any _ _ _).mono ?_
  cases hm : mbB x y with
  | false =>
   rw [hm] at HB
   clear hm
   rintro e w4 ⟨rfl, o4⟩
   have Z4 := Z3.out.off o4 (fun h => h)
   have R4 : Hid (Rdr 125 D b (mrS s) w4) := R3.out.off o4 (fun h => h) (fun _ _ _ h => h)
   have O4 : Hid (Off (fun c => c = b) w w4) := OO.out.trans o4 (fun _ _ h => h.elim)
   have z0 := Z4.cell 0
   have z1 := Z4.cell 1
   have fz := Z4.free
   simp at z0 z1
   have HZ4 : Hid _ := Z4
   clear Z4 o4
   go_wp2_with fail
   refine bodyPost_ret (results_mem2 rfl rfl rfl (HZ4.out.st2 _ _)) rfl ?_
   have hb : mrB s = false := HB.out
   rw [HX.out, HY.out, hb]
   exact ⟨rfl, R4.out.off (Off.st2 (D := fun c => c = w.heap.size) (Off.refl _ w4) (.inl rfl) _ _) (fun h => NB.out h.symm) (fun c hc hD h => by have := HR.out.lt c hD; omega), O4.out.st2 (.inr (Nat.le_refl _)) _ _⟩
  | true =>
   rw [hm] at HB
   clear hm
   rintro e w4 ⟨rfl, o4⟩
   have Z4 := Z3.out.off o4 (fun h => h)
   have C4 := C3.out.off o4 (fun h => h)
   have R4 : Hid (Rdr 125 D b (mrS s) w4) := R3.out.off o4 (fun h => h) (fun _ _ _ h => h)
   have O4 : Hid (Off (fun c => c = b) w w4) := OO.out.trans o4 (fun _ _ h => h.elim)
   have z0 := Z4.cell 0
   have z1 := Z4.cell 1
   have k0 := C4.cell 0
   have k1 := C4.cell 1
   have fz := Z4.free
   simp at z0 z1 k0 k1
   have HZ4 : Hid _ := Z4
   clear Z4 o4 C4
   go_wp2_with fail
   refine bodyPost_ret (results_mem2 rfl rfl rfl (HZ4.out.st2 _ _)) rfl ?_
   have hb : mrB s = true := HB.out
   rw [HX.out, HY.out, hb]
   exact ⟨rfl, R4.out.off (Off.st2 (D := fun c => c = w.heap.size) (Off.refl _ w4) (.inl rfl) _ _) (fun h => NB.out h.symm) (fun c hc hD h => by have := HR.out.lt c hD; omega), O4.out.st2 (.inr (Nat.le_refl _)) _ _⟩
def wrM (most : Nat) (st : Option (List Nat)) (x : Int × Int) : Option (List Nat) := putS most (putS most st (numB (u64N x.1))) (numB (zig x.2))
theorem wrM_le {most : Nat} {st : Option (List Nat)} (h : (st.getD []).length ≤ most) (x : Int × Int) : ((wrM most st x).getD []).length ≤ most := put_le (put_le h _) _
set_option maxHeartbeats 1000000 in
theorem mwrite_any {D : Nat → Prop} {b most : Nat} {st : Option (List Nat)} {w : World} (hW : Wtr D b most st w) (hm : most ≤ 140737488355328) (hst : (st.getD []).length ≤ most) (x : Int × Int) (h0 : -9223372036854775808 ≤ x.2) (h1 : x.2 ≤ 9223372036854775807) :
  Calls Try.prog 90 #[.pointer (some ⟨b, 0, none⟩), .agg #[.int .i64 x.1, .int .i64 x.2]] w fun e w' => e = .returned (.tuple #[]) ∧ Put' D b most (wrM most st x) w w' := by
 obtain ⟨s, i⟩ := x
 have hu : IntKind.u64.wrap s = ((u64N s : Nat) : Int) := u64_wrap s
 have HH : Hid (Wtr D b most st w) := hW
 have HR : Hid (-9223372036854775808 ≤ i ∧ i ≤ 9223372036854775807) := ⟨h0, h1⟩
 have HM : Hid (most ≤ 140737488355328 ∧ (st.getD []).length ≤ most) := ⟨hm, hst⟩
 clear hW h0 h1 hm hst
 show Calls Try.prog 90 #[.pointer (some ⟨b, 0, none⟩), .agg #[.int .i64 s, .int .i64 i]] w _
 go_enter Try.func90, Try.ntmps90
 go_wp2_with fail
 generalize hV : w.alloc (.cells #[.int .i64 s, .int .i64 i] 63) = V
 have O : Hid (Off (fun _ => False) w V) := by show Off _ _ _; rw [← hV]; exact (Off.refl _ w).alloc _
 have C0 : Hid (Cel w.heap.size 63 #[.int .i64 s, .int .i64 i] V) := by show Cel _ _ _ _; rw [← hV]; exact Cel.new w _ _
 have N0 : Hid (¬ D w.heap.size) := fun h => by have := HH.out.lt _ h; omega
 clear hV
 have W0 : Wtr D b most st V := HH.out.off O.out (fun _ _ _ h => h)
 refine (wnum_any W0 (u64N s) (u64N_lt s) (.inr HM.out)).mono ?_
 clear W0
 rintro e w1 ⟨rfl, D1, W1, o1, d1⟩
 have C1 := C0.out.off o1 N0.out
 have c1 : w1.cell? ⟨w.heap.size, 1, none⟩ = some (.int .i64 i) := C1.cell 1
 have HW1 : Hid _ := W1
 have HO1 : Hid _ := o1
 have HD1 : Hid _ := d1
 clear C1 W1 o1 d1
 go_wp2_with fail
 refine (wint_any HW1.out i HR.out.1 HR.out.2 (.inr ⟨HM.out.1, put_le HM.out.2 _⟩)).mono ?_
 rintro e w2 ⟨rfl, D2, W2, o2, d2⟩
 go_wp2_with fail
 first | go_end0 | refine bodyPost_ret (results_none rfl _ _ _) rfl ?_
 refine ⟨rfl, D2, W2, ?_, ?_⟩
 ·refine ((O.out.mono (fun _ _ h => h.elim)).trans HO1.out (fun _ _ h => h)).trans o2 (fun c hc h => ?_)
  rcases HD1.out c h with h | h
  ·exact h
  ·have := O.out.size
   omega
 ·intro c hc
  have s0 := O.out.size
  have s1 := HO1.out.size
  rcases d2 c hc with h | h
  ·rcases HD1.out c h with h | h
   ·exact .inl h
   ·exact .inr (by omega)
  ·exact .inr (by omega)
end Go.Proofs.Ytmbphlkohlggfaa
