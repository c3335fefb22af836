/- Items of several texts. -/
import Derived.Deep.CutRange
import Derived.Test.YtmbphlkohlggfaaGreatAMm20
import Derived.Test.YtmbphlkohlggfaaGreatAWRops
import Derived.Test.YtmbphlkohlggfaaGreatASWr
import Derived.Test.YtmbphlkohlggfaaGreatAMay20
import Derived.Test.YtmbphlkohlggfaaGreatASWe
import Derived.Test.YtmbphlkohlggfaaGreatADwr
import Derived.Test.YtmbphlkohlggfaaGreatADbP
namespace Go.Proofs.YtmbphlkohlggfaaGreat
set_option maxRecDepth 100000
open Go.RowKit
def Put' (D : Nat → Prop) (b most : Nat) (st' : Option (List Nat)) (w w' : World) : Prop := ∃ D', Wtr D' b most st' w' ∧ Off D w w' ∧ ∀ c, D' c → D c ∨ w.heap.size ≤ c
def i64w (n : Nat) : Int := IntKind.i64.wrap (n : Int)
theorem i64w_eq (n : Nat) (h : n < 18446744073709551616) : i64w n = if n < 9223372036854775808 then (n : Int) else (n : Int) - 18446744073709551616 := by
 by_cases hc : n < 9223372036854775808
 ·rw [if_pos hc]
  simp only [i64w, IntKind.wrap, IntKind.bits, IntKind.signed]
  go_num
 ·rw [if_neg hc]
  simp only [i64w, IntKind.wrap, IntKind.bits, IntKind.signed]
  go_num
def encM (s i : Int) : List Nat := numB (u64N s) ++ numB (zig i)
def mrS (s : RS) : RS := (intS (numS s).2).2
def mrB (s : RS) : Bool := decide ((mrS s).2 = 0) && mbB (i64w (numS s).1) (intS (numS s).2).1
def mrX (s : RS) : Int := if mrB s = true then i64w (numS s).1 else 0
def mrY (s : RS) : Int := if mrB s = true then (intS (numS s).2).1 else 0
theorem mrS_ok {s : RS} (h : Ok s) : Ok (mrS s) := (num_ok (num_ok h).1).1
set_option maxHeartbeats 1000000 in
theorem mfailed_any {D : Nat → Prop} {b : Nat} {s : RS} {w : World} (hR : Rdr 96 D b s w) :
  Calls Tryz.prog 94 #[.pointer (some ⟨b, 0, none⟩)] w fun e w' => e = .returned (.bool (!decide (s.2 = 0))) ∧ w' = w := by
 have HR : Hid (Rdr 96 D b s w) := hR
 have hk := hR.ok.2.1
 clear hR
 rcases s with ⟨l, e⟩
 cases l with
 | nil =>
  have hen : Hid (endS (([] : List Nat), e) = e) := by show _ = _; simp [endS]
  have hx : Hid ((((e : Nat) : Int) != 0) = !decide (e = 0)) := by
   show _ = _
   by_cases h : e = 0
   ·simp [h]
   ·simp [h]
  clear hk
  go_enter Tryz.func94, Tryz.ntmps94
  go_wp2_with fail
  refine (rleft_any HR.out).mono ?_
  rintro e1 w1 ⟨rfl, hw⟩
  rw [hw]
  clear hw w1
  have e0 : ((([] : List Nat).length : Nat) : Int) = 0 := rfl
  rw [e0]
  clear e0
  go_wp2_with fail
  refine (rend_any HR.out).mono ?_
  rw [hen.out]
  rintro e1 w1 ⟨rfl, hw⟩
  rw [hw]
  clear hw w1
  go_wp2_with fail
  go_ret
  exact ⟨by rw [← hx.out]; rfl, rfl⟩
 | cons x l =>
  have he : e = 0 := Classical.byContradiction (fun h => by have := hk h; simp at this)
  subst he
  obtain ⟨n, hn⟩ : ∃ n, n = (x :: l).length := ⟨_, rfl⟩
  have e1 : (((n : Nat) : Int) == 0) = false := by
   rw [hn]
   simp
   omega
  have HL : Hid (Calls Tryz.prog 115 #[.pointer (some ⟨b, 0, none⟩)] w fun e w' => e = .returned (.int .i64 ((n : Nat) : Int)) ∧ w' = w) := by
   rw [hn]
   exact rleft_any HR.out
  clear hk hn
  go_enter Tryz.func94, Tryz.ntmps94
  go_wp2_with fail
  refine HL.out.mono ?_
  rintro e1 w1 ⟨rfl, hw⟩
  rw [hw]
  clear hw w1
  go_wp2_with fail
  go_ret
  exact ⟨rfl, rfl⟩
set_option maxHeartbeats 1000000 in
theorem mread_any {D : Nat → Prop} {b : Nat} {s : RS} {w : World} (hR : Rdr 96 D b s w) :
  Calls Tryz.prog 54 #[.pointer (some ⟨b, 0, none⟩)] w fun e w' => e = .returned (.tuple #[.agg #[.int .i64 (mrX s), .int .i64 (mrY s)], .bool (mrB s)]) ∧ Rdr 96 D b (mrS s) w' ∧ Off (fun c => c = b) w w' := by
 have HR : Hid (Rdr 96 D b s w) := hR
 obtain ⟨n, hn⟩ : ∃ n, n = (numS s).1 := ⟨_, rfl⟩
 obtain ⟨y, hy⟩ : ∃ y, y = (intS (numS s).2).1 := ⟨_, rfl⟩
 have hz : IntKind.i64.wrap (n : Int) = i64w n := rfl
 obtain ⟨x, hx⟩ : ∃ x, x = i64w n := ⟨_, rfl⟩
 rw [← hx] at hz
 have HX : Hid (mrX s = if mrB s = true then x else 0) := by show _ = _; rw [hx, hn]; rfl
 have HY : Hid (mrY s = if mrB s = true then y else 0) := by show _ = _; rw [hy]; rfl
 have HB : Hid (mrB s = (decide ((mrS s).2 = 0) && mbB x y)) := by show _ = _; rw [hx, hy, hn]; rfl
 have HN : Hid (n = (numS s).1) := hn
 have HY2 : Hid (y = (intS (numS s).2).1) := hy
 clear hR hn hy hx
 go_enter Tryz.func54, Tryz.ntmps54
 go_wp2_with fail
 generalize hV : w.alloc (.cells #[.int .i64 0, .int .i64 0] 60) = V
 have O : Hid (Off (fun _ => False) w V) := by show Off _ _ _; rw [← hV]; exact (Off.refl _ w).alloc _
 have C0 : Hid (Cel w.heap.size 60 #[.int .i64 0, .int .i64 0] V) := by show Cel _ _ _ _; rw [← hV]; exact Cel.new w _ _
 have NB : Hid (w.heap.size ≠ b) := fun h => by have := HR.out.here; omega
 clear hV
 have R0 := HR.out.off O.out (fun h => h) (fun _ _ _ h => h)
 refine (rnum_any R0).mono ?_
 clear R0
 rw [← HN.out]
 rintro e w1 ⟨rfl, r1, o1⟩
 have H1 : Hid _ := r1
 have O1 : Hid _ := o1
 clear r1 o1
 go_wp2_with fail
 refine (rint_any H1.out).mono ?_
 rw [← HY2.out]
 rintro e w2 ⟨rfl, r2, o2⟩
 have H2 : Hid (Rdr 96 D b (mrS s) w2) := r2
 have O2 : Hid _ := o2
 clear r2 o2
 go_wp2_with fail
 generalize hU : w2.alloc (.cells #[.int .i64 x, .int .i64 y] 60) = U
 have O3 : Hid (Off (fun _ => False) w2 U) := by show Off _ _ _; rw [← hU]; exact (Off.refl _ w2).alloc _
 have C3 : Hid (Cel w2.heap.size 60 #[.int .i64 x, .int .i64 y] U) := by show Cel _ _ _ _; rw [← hU]; exact Cel.new w2 _ _
 clear hU
 have R3 : Hid (Rdr 96 D b (mrS s) U) := H2.out.off O3.out (fun h => h) (fun _ _ _ h => h)
 have Z3 : Hid (Cel w.heap.size 60 #[.int .i64 0, .int .i64 0] U) := ((C0.out.off O1.out NB.out).off O2.out NB.out).off O3.out (fun h => h)
 have OO : Hid (Off (fun c => c = b) w U) := (((O.out.mono (fun _ _ h => h.elim)).trans O1.out (fun _ _ h => h)).trans O2.out (fun _ _ h => h)).trans O3.out (fun _ _ h => h.elim)
 clear O1 O2 O3 H1 H2 HN HY2 C0
 refine (mfailed_any R3.out).mono ?_
 cases hd : decide ((mrS s).2 = 0) with
 | false =>
  rw [hd] at HB
  clear hd
  rintro e w3 ⟨rfl, hw⟩
  rw [hw]
  clear hw w3
  have z0 := Z3.out.cell 0
  have z1 := Z3.out.cell 1
  have fz := Z3.out.free
  simp at z0 z1
  go_wp2_with fail
  refine bodyPost_ret (results_mem2 rfl rfl rfl (Z3.out.st2 _ _)) rfl ?_
  have hb : mrB s = false := HB.out
  rw [HX.out, HY.out, hb]
  exact ⟨rfl, R3.out.off (Off.st2 (D := fun c => c = w.heap.size) (Off.refl _ U) (.inl rfl) _ _) (fun h => NB.out h.symm) (fun c hc hD h => by have := HR.out.lt c hD; omega), OO.out.st2 (.inr (Nat.le_refl _)) _ _⟩
 | true =>
  rw [hd] at HB
  clear hd
  rintro e w3 ⟨rfl, hw⟩
  rw [hw]
  clear hw w3
  have y0 := C3.out.cell 0
  have y1 := C3.out.cell 1
  simp at y0 y1
  go_wp2_with fail
  refine (mmay_any _ _ _).mono ?_
  cases hm : mbB x y with
  | false =>
   rw [hm] at HB
   clear hm
   rintro e w4 ⟨rfl, o4⟩
   have Z4 := Z3.out.off o4 (fun h => h)
   have R4 : Hid (Rdr 96 D b (mrS s) w4) := R3.out.off o4 (fun h => h) (fun _ _ _ h => h)
   have O4 : Hid (Off (fun c => c = b) w w4) := OO.out.trans o4 (fun _ _ h => h.elim)
   have z0 := Z4.cell 0
   have z1 := Z4.cell 1
   have fz := Z4.free
   simp at z0 z1
   have HZ4 : Hid _ := Z4
   clear Z4 o4
   go_wp2_with fail
   refine bodyPost_ret (results_mem2 rfl rfl rfl (HZ4.out.st2 _ _)) rfl ?_
   have hb : mrB s = false := HB.out
   rw [HX.out, HY.out, hb]
   exact ⟨rfl, R4.out.off (Off.st2 (D := fun c => c = w.heap.size) (Off.refl _ w4) (.inl rfl) _ _) (fun h => NB.out h.symm) (fun c hc hD h => by have := HR.out.lt c hD; omega), O4.out.st2 (.inr (Nat.le_refl _)) _ _⟩
  | true =>
   rw [hm] at HB
   clear hm
   rintro e w4 ⟨rfl, o4⟩
   have Z4 := Z3.out.off o4 (fun h => h)
   have C4 := C3.out.off o4 (fun h => h)
   have R4 : Hid (Rdr 96 D b (mrS s) w4) := R3.out.off o4 (fun h => h) (fun _ _ _ h => h)
   have O4 : Hid (Off (fun c => c = b) w w4) := OO.out.trans o4 (fun _ _ h => h.elim)
   have z0 := Z4.cell 0
   have z1 := Z4.cell 1
   have k0 := C4.cell 0
   have k1 := C4.cell 1
   have fz := Z4.free
   simp at z0 z1 k0 k1
   have HZ4 : Hid _ := Z4
   clear Z4 o4 C4
   go_wp2_with fail
   refine bodyPost_ret (results_mem2 rfl rfl rfl (HZ4.out.st2 _ _)) rfl ?_
   have hb : mrB s = true := HB.out
   rw [HX.out, HY.out, hb]
   exact ⟨rfl, R4.out.off (Off.st2 (D := fun c => c = w.heap.size) (Off.refl _ w4) (.inl rfl) _ _) (fun h => NB.out h.symm) (fun c hc hD h => by have := HR.out.lt c hD; omega), O4.out.st2 (.inr (Nat.le_refl _)) _ _⟩
def wrM (most : Nat) (st : Option (List Nat)) (x : Int × Int) : Option (List Nat) := putS most (putS most st (numB (u64N x.1))) (numB (zig x.2))
theorem wrM_le {most : Nat} {st : Option (List Nat)} (h : (st.getD []).length ≤ most) (x : Int × Int) : ((wrM most st x).getD []).length ≤ most := put_le (put_le h _) _
set_option maxHeartbeats 1000000 in
theorem mwrite_any {D : Nat → Prop} {b most : Nat} {st : Option (List Nat)} {w : World} (hW : Wtr D b most st w) (hm : most ≤ 140737488355328) (hst : (st.getD []).length ≤ most) (x : Int × Int) (h0 : -9223372036854775808 ≤ x.2) (h1 : x.2 ≤ 9223372036854775807) :
  Calls Tryz.prog 79 #[.pointer (some ⟨b, 0, none⟩), .agg #[.int .i64 x.1, .int .i64 x.2]] w fun e w' => e = .returned (.tuple #[]) ∧ Put' D b most (wrM most st x) w w' := by
 obtain ⟨s, i⟩ := x
 have hu : IntKind.u64.wrap s = ((u64N s : Nat) : Int) := u64_wrap s
 have HH : Hid (Wtr D b most st w) := hW
 have HR : Hid (-9223372036854775808 ≤ i ∧ i ≤ 9223372036854775807) := ⟨h0, h1⟩
 have HM : Hid (most ≤ 140737488355328 ∧ (st.getD []).length ≤ most) := ⟨hm, hst⟩
 clear hW h0 h1 hm hst
 show Calls Tryz.prog 79 #[.pointer (some ⟨b, 0, none⟩), .agg #[.int .i64 s, .int .i64 i]] w _
 go_enter Tryz.func79, Tryz.ntmps79
 go_wp2_with fail
 generalize hV : w.alloc (.cells #[.int .i64 s, .int .i64 i] 60) = V
 have O : Hid (Off (fun _ => False) w V) := by show Off _ _ _; rw [← hV]; exact (Off.refl _ w).alloc _
 have C0 : Hid (Cel w.heap.size 60 #[.int .i64 s, .int .i64 i] V) := by show Cel _ _ _ _; rw [← hV]; exact Cel.new w _ _
 have N0 : Hid (¬ D w.heap.size) := fun h => by have := HH.out.lt _ h; omega
 clear hV
 have W0 : Wtr D b most st V := HH.out.off O.out (fun _ _ _ h => h)
 refine (wnum_any W0 (u64N s) (u64N_lt s) (.inr HM.out)).mono ?_
 clear W0
 rintro e w1 ⟨rfl, D1, W1, o1, d1⟩
 have C1 := C0.out.off o1 N0.out
 have c1 : w1.cell? ⟨w.heap.size, 1, none⟩ = some (.int .i64 i) := C1.cell 1
 have HW1 : Hid _ := W1
 have HO1 : Hid _ := o1
 have HD1 : Hid _ := d1
 clear C1 W1 o1 d1
 go_wp2_with fail
 refine (wint_any HW1.out i HR.out.1 HR.out.2 (.inr ⟨HM.out.1, put_le HM.out.2 _⟩)).mono ?_
 rintro e w2 ⟨rfl, D2, W2, o2, d2⟩
 go_wp2_with fail
 first | go_end0 | refine bodyPost_ret (results_none rfl _ _ _) rfl ?_
 refine ⟨rfl, D2, W2, ?_, ?_⟩
 ·refine ((O.out.mono (fun _ _ h => h.elim)).trans HO1.out (fun _ _ h => h)).trans o2 (fun c hc h => ?_)
  rcases HD1.out c h with h | h
  ·exact h
  ·have := O.out.size
   omega
 ·intro c hc
  have s0 := O.out.size
  have s1 := HO1.out.size
  rcases d2 c hc with h | h
  ·rcases HD1.out c h with h | h
   ·exact .inl h
   ·exact .inr (by omega)
  ·exact .inr (by omega)
end Go.Proofs.YtmbphlkohlggfaaGreat

namespace Go.Proofs.YtmbphlkohlggfaaGreat
set_option maxRecDepth 100000
open Go.RowKit
structure Wq (T : (Nat → Prop) → Nat → Nat → Option (List Nat) → World → Prop) (K : Nat → Prop) (b most : Nat) (st : Option (List Nat)) (w : World) : Prop where
 ex : ∃ D, T D b most st w ∧ ∀ c, D c → ¬ K c
 fit : (st.getD []).length ≤ most
 bd : ∀ c, K c → c < w.heap.size
theorem Wq.step {T : (Nat → Prop) → Nat → Nat → Option (List Nat) → World → Prop} {K D : Nat → Prop} {b most : Nat} {st' : Option (List Nat)} {w w' : World} (hb : ∀ c, K c → c < w.heap.size) (hD : ∀ c, D c → ¬ K c)
  (h : ∃ D', T D' b most st' w' ∧ Off D w w' ∧ ∀ c, D' c → D c ∨ w.heap.size ≤ c) (hf : (st'.getD []).length ≤ most) : Wq T K b most st' w' ∧ Off (fun c => ¬ K c) w w' := by
 obtain ⟨D', h1, h2, h3⟩ := h
 refine ⟨⟨⟨D', h1, fun c hc hk => ?_⟩, hf, fun c hc => Nat.lt_of_lt_of_le (hb c hc) h2.size⟩, h2.mono (fun c _ hc => hD c hc)⟩
 rcases h3 c hc with h | h
 ·exact hD c h hk
 ·have := hb c hk
  omega
theorem Wq.off {K : Nat → Prop} {b most : Nat} {st : Option (List Nat)} {w w' : World} (h : Wq Wtr K b most st w) (o : Off (fun _ => False) w w') : Wq Wtr K b most st w' := by
 obtain ⟨D, h1, h2⟩ := h.ex
 exact ⟨⟨D, h1.off o (fun _ _ _ h => h), h2⟩, h.fit, fun c hc => Nat.lt_of_lt_of_le (h.bd c hc) o.size⟩
theorem Wq.more {K L : Nat → Prop} {b most : Nat} {st : Option (List Nat)} {w w' : World} (h : Wq Wtr K b most st w) (o : Off (fun _ => False) w w') (hL : ∀ c, L c → K c ∨ w.heap.size ≤ c ∧ c < w'.heap.size) : Wq Wtr L b most st w' := by
 obtain ⟨D, h1, h2⟩ := h.ex
 refine ⟨⟨D, h1.off o (fun _ _ _ h => h), fun c hc hl => ?_⟩, h.fit, fun c hc => ?_⟩
 ·rcases hL c hl with h | h
  ·exact h2 c hc h
  ·have := h1.lt c hc
   omega
 ·rcases hL c hc with h5 | h5
  ·exact Nat.lt_of_lt_of_le (h.bd c h5) o.size
  ·exact h5.2
def wrEs (most : Nat) (st : Option (List Nat)) (es : List K) : Option (List Nat) := es.foldl (fun s k => wrE most s k.key k.f k.l) st
def wrGs (most : Nat) (st : Option (List Nat)) (gs : List GK) : Option (List Nat) := gs.foldl (fun s g => wrG most s g.key g.f g.ds) st
def wrMs (most : Nat) (st : Option (List Nat)) (ms : List (Int × Int)) : Option (List Nat) := ms.foldl (wrM most) st
theorem wrEs_step {most : Nat} {st : Option (List Nat)} {l : List E} {n : Nat} {x : E} (h : l[n]? = some x) : wrEs most st ((l.take (n + 1)).map E.abs) = wrE most (wrEs most st ((l.take n).map E.abs)) x.key x.f (cont x.l) := by
 rw [List.take_add_one, h]
 simp [wrEs, E.abs]
theorem wrGs_step {most : Nat} {st : Option (List Nat)} {l : List G} {n : Nat} {x : G} (h : l[n]? = some x) : wrGs most st ((l.take (n + 1)).map G.abs) = wrG most (wrGs most st ((l.take n).map G.abs)) x.key x.f x.ds := by
 rw [List.take_add_one, h]
 simp [wrGs, G.abs]
theorem wrMs_step {most : Nat} {st : Option (List Nat)} {l : List (Int × Int)} {n : Nat} {x : Int × Int} (h : l[n]? = some x) : wrMs most st (l.take (n + 1)) = wrM most (wrMs most st (l.take n)) x := by
 rw [List.take_add_one, h]
 simp [wrMs]
theorem len_wrap {α : Type} (l : List α) (h : l.length ≤ 9223372036854775807) : IntKind.u64.wrap ((l.length : Nat) : Int) = ((l.length : Nat) : Int) := by
 simp only [IntKind.wrap, IntKind.bits, IntKind.signed]
 go_num
theorem may_rng {key : ByteArray} {f : Nat → Int} {l : List A} (h : (keyB key && mayS f l) = true) : key.size ≤ 32 ∧ ∀ j, j < 8 → -9223372036854775808 ≤ f j ∧ f j ≤ 9223372036854775807 := by
 rw [Bool.and_eq_true] at h
 refine ⟨by have := h.1; simp [keyB] at this; omega, fun j hj => ?_⟩
 have := (may_iff.1 h.2).seen j hj
 omega
theorem mayD_rng {key : ByteArray} {f : Nat → Int} {ds : List (Int × Int)} (h : mayD ⟨key, f, ds⟩ = true) : key.size ≤ 32 ∧ (∀ j, j < 8 → -9223372036854775808 ≤ f j ∧ f j ≤ 9223372036854775807) ∧ RgD ds := by
 have hc := mayD_cov h
 simp only [mayD, Bool.and_eq_true, decide_eq_true_eq] at h
 obtain ⟨h1, h2, h3, h4⟩ := h
 have h5 : ∀ j, j < 8 → 0 ≤ f j ∧ f j ≤ 1099511627776 := by simpa [mayB] using h2
 refine ⟨by simp [keyB] at h1; omega, fun j hj => by have := h5 j hj; omega, ⟨fun d hd => ?_⟩⟩
 have h6 := hc d hd
 simp only [coversB, decide_eq_true_eq] at h6
 have h7 := h5 d.1.toNat (by omega)
 omega
theorem wq1E {K : Nat → Prop} {b most : Nat} {sn : Option (List Nat)} {w : World} (h : Wq Wtr K b most sn w) (hm : most ≤ 140737488355328) (v : E) (hok : (keyB v.key && mayS v.f (cont v.l)) = true) (hrow : ∀ w', Off (fun c => ¬ K c) w w' → Row w' v.a v.cap v.l) :
  Calls Tryz.prog 75 #[.pointer (some ⟨b, 0, none⟩), .agg #[.string v.key, .int .i64 (v.f 0), .int .i64 (v.f 1), .int .i64 (v.f 2), .int .i64 (v.f 3), .int .i64 (v.f 4), .int .i64 (v.f 5), .int .i64 (v.f 6), .int .i64 (v.f 7), .slice v.a v.l.length v.cap]] w fun e w' => e = .returned (.tuple #[]) ∧ Wq Wtr K b most (wrE most sn v.key v.f (cont v.l)) w' ∧ Off (fun c => ¬ K c) w w' := by
 obtain ⟨D, hW, hD⟩ := h.ex
 have hst := h.fit
 have hrow := fun w' (o : Off D w w') => hrow w' (o.mono (fun c _ hc => hD c hc))
 refine (writeEntry_any hW hm hst v.key (by have := (may_rng hok).1; omega) v.f (may_rng hok).2 v.a v.cap v.l hrow).mono ?_
 rintro e w' ⟨he, hP⟩
 exact ⟨he, Wq.step h.bd hD hP (wrE_le h.fit _ _ _)⟩
theorem wq1D {K : Nat → Prop} {b most : Nat} {sn : Option (List Nat)} {w : World} (h : Wq Wtr K b most sn w) (hm : most ≤ 140737488355328) (v : G) (hok : mayD ⟨v.key, v.f, v.ds⟩ = true) (hrow : ∀ w', Off (fun c => ¬ K c) w w' → RowD w' v.a v.cap v.ds) :
  Calls Tryz.prog 77 #[.pointer (some ⟨b, 0, none⟩), .agg #[.string v.key, .int .i64 (v.f 0), .int .i64 (v.f 1), .int .i64 (v.f 2), .int .i64 (v.f 3), .int .i64 (v.f 4), .int .i64 (v.f 5), .int .i64 (v.f 6), .int .i64 (v.f 7), .slice v.a v.ds.length v.cap]] w fun e w' => e = .returned (.tuple #[]) ∧ Wq Wtr K b most (wrG most sn v.key v.f v.ds) w' ∧ Off (fun c => ¬ K c) w w' := by
 obtain ⟨D, hW, hD⟩ := h.ex
 have hst := h.fit
 have hrow := fun w' (o : Off D w w') => hrow w' (o.mono (fun c _ hc => hD c hc))
 refine (dwrite_any hW hm hst v.key (by have := (mayD_rng hok).1; omega) v.f (mayD_rng hok).2.1 v.a v.cap v.ds (mayD_rng hok).2.2 hrow).mono ?_
 rintro e w' ⟨he, hP⟩
 exact ⟨he, Wq.step h.bd hD hP (wrG_le h.fit _ _ _)⟩
theorem wq1M {K : Nat → Prop} {b most : Nat} {sn : Option (List Nat)} {w : World} (h : Wq Wtr K b most sn w) (hm : most ≤ 140737488355328) (v : (Int × Int)) (hok : mbB v.1 v.2 = true)  :
  Calls Tryz.prog 79 #[.pointer (some ⟨b, 0, none⟩), .agg #[.int .i64 v.1, .int .i64 v.2]] w fun e w' => e = .returned (.tuple #[]) ∧ Wq Wtr K b most (wrM most sn v) w' ∧ Off (fun c => ¬ K c) w w' := by
 obtain ⟨D, hW, hD⟩ := h.ex
 have hst := h.fit
 skip
 refine (mwrite_any hW hm hst v (by have := mb_of hok; omega) (by have := mb_of hok; omega)).mono ?_
 rintro e w' ⟨he, hP⟩
 exact ⟨he, Wq.step h.bd hD hP (wrM_le h.fit _)⟩
theorem wqNum {K : Nat → Prop} {b most : Nat} {st : Option (List Nat)} {w : World} (h : Wq Wtr K b most st w) (hm : most ≤ 140737488355328) (n : Nat) (hn : n < 18446744073709551616) :
  Calls Tryz.prog 71 #[.pointer (some ⟨b, 0, none⟩), .int .u64 (n : Int)] w fun e w' => e = .returned (.tuple #[]) ∧ Wq Wtr K b most (putS most st (numB n)) w' ∧ Off (fun c => ¬ K c) w w' := by
 obtain ⟨D, hW, hD⟩ := h.ex
 refine (wnum_any hW n hn (.inr ⟨hm, h.fit⟩)).mono ?_
 rintro e w' ⟨he, hP⟩
 exact ⟨he, Wq.step h.bd hD hP (put_le h.fit _)⟩
theorem wqInt {K : Nat → Prop} {b most : Nat} {st : Option (List Nat)} {w : World} (h : Wq Wtr K b most st w) (hm : most ≤ 140737488355328) (i : Int) (h0 : -9223372036854775808 ≤ i) (h1 : i ≤ 9223372036854775807) :
  Calls Tryz.prog 72 #[.pointer (some ⟨b, 0, none⟩), .int .i64 i] w fun e w' => e = .returned (.tuple #[]) ∧ Wq Wtr K b most (putS most st (numB (zig i))) w' ∧ Off (fun c => ¬ K c) w w' := by
 obtain ⟨D, hW, hD⟩ := h.ex
 refine (wint_any hW i h0 h1 (.inr ⟨hm, h.fit⟩)).mono ?_
 rintro e w' ⟨he, hP⟩
 exact ⟨he, Wq.step h.bd hD hP (put_le h.fit _)⟩
theorem wqText {K : Nat → Prop} {b most : Nat} {st : Option (List Nat)} {w : World} (h : Wq Wtr K b most st w) (hm : most ≤ 140737488355328) (bt : Option Addr) (bc : Nat) (bb : List Nat) (hb : bb.length ≤ 32) (hs : Src w bt bc bb) (hk : ∀ k, blk bt = some k → K k) :
  Calls Tryz.prog 73 #[.pointer (some ⟨b, 0, none⟩), .slice bt bb.length bc] w fun e w' => e = .returned (.tuple #[]) ∧ Wq Wtr K b most (putS most st (numB bb.length ++ bb)) w' ∧ Off (fun c => ¬ K c) w w' := by
 obtain ⟨D, hW, hD⟩ := h.ex
 refine (wtext_any hW bt bc bb (fun w' o => hs.off o (fun c _ hc hd => hD c hd (hk c hc))) (.inr ⟨hm, h.fit, by omega⟩)).mono ?_
 rintro e w' ⟨he, hP⟩
 exact ⟨he, Wq.step h.bd hD hP (put_le h.fit _)⟩
set_option maxHeartbeats 2000000 in
theorem wrAllE_any {K : Nat → Prop} {b most : Nat} {st : Option (List Nat)} {w : World} (h : Wq Wtr K b most st w) (hm : most ≤ 140737488355328) (a : Option Addr) (cap : Nat) (xs : List E) (hE : ∀ w', Off (fun c => ¬ K c) w w' → Ens w' a cap xs) (hok : ∀ x ∈ xs, (keyB x.key && mayS x.f (cont x.l)) = true) :
  Calls Tryz.prog 74 #[.pointer (some ⟨b, 0, none⟩), .slice a xs.length cap, .func (.func 75) #[] #[]] w fun e w' => e = .returned (.tuple #[]) ∧ Wq Wtr K b most (wrEs most (putS most st (numB xs.length)) (xs.map E.abs)) w' ∧ Off (fun c => ¬ K c) w w' := by
 have hb0 := (hE w (Off.refl _ w)).len
 have hb := (hE w (Off.refl _ w)).bound
 have hlen : xs.length ≤ 9223372036854775807 := by omega
 have hwrap := len_wrap xs hlen
 have HE : Hid (∀ w', Off (fun c => ¬ K c) w w' → Ens w' a cap xs) := hE
 have HOK : Hid (∀ x ∈ xs, (keyB x.key && mayS x.f (cont x.l)) = true) := hok
 have HM : Hid (most ≤ 140737488355328) := hm
 have HW : Hid _ := h
 clear h hE hok hm hb hb0
 go_enter Tryz.func74, Tryz.ntmps74
 go_wp2_with fail
 refine (wqNum HW.out HM.out xs.length (by omega)).mono ?_
 rintro e w1 ⟨rfl, hq, o1⟩
 have HQ : Hid _ := hq
 have HO : Hid _ := o1
 clear hq o1 hwrap
 go_wp2_with fail
 go_loopw [15] (fun y wr => ∃ n : Nat, y = .int .i64 (n : Int) ∧ n ≤ xs.length ∧ Hid (Wq Wtr K b most (wrEs most (putS most st (numB xs.length)) ((xs.take n).map E.abs)) wr) ∧ Hid (Off (fun c => ¬ K c) w wr)) (fun y _ => (xs.length - intOf y).toNat)
 case atStart => exact ⟨0, rfl, by omega, HQ.out, HO.out⟩
 case round =>
  clear HQ HO
  obtain ⟨n, rfl, hn, HQ, HO⟩ := hrel
  by_cases hlt : n < xs.length
  ·have g1b : decide ((n : Int) < (xs.length : Int)) = true := decide_eq_true (by omega)
   have g2b : decide (n < xs.length) = true := decide_eq_true hlt
   obtain ⟨v, hv⟩ : ∃ v, xs[n]? = some v := ⟨_, List.getElem?_eq_getElem hlt⟩
   have hA := (HE.out wr HO.out).at_ n v hv
   obtain ⟨bx, off, ea, k10, kr⟩ := hA
   have HR : Hid (∀ w', Off (fun c => ¬ K c) wr w' → Row w' v.a v.cap v.l) := fun w' o => by
    obtain ⟨_, _, _, _, r⟩ := (HE.out w' (HO.out.trans o (fun _ _ h => h))).at_ n v hv
    exact r
   clear kr
   subst ea
   obtain ⟨k0, k1, k2, k3, k4, k5, k6, k7, k8, k9⟩ := ent10 k10
   clear k10
   have hix := idx_ents hlt
   have HV : Hid _ := hv
   have HV2 : Hid _ := HOK.out v (List.mem_of_getElem? hv)
   clear hv
   go_upto_region 4 with fail
   have CN := Cel.new wr 46 #[.string v.key, .int .i64 (v.f 0), .int .i64 (v.f 1), .int .i64 (v.f 2), .int .i64 (v.f 3), .int .i64 (v.f 4), .int .i64 (v.f 5), .int .i64 (v.f 6), .int .i64 (v.f 7), .slice v.a v.l.length v.cap]
   have ON : Off (fun _ => False) wr (wr.alloc (.cells #[.string v.key, .int .i64 (v.f 0), .int .i64 (v.f 1), .int .i64 (v.f 2), .int .i64 (v.f 3), .int .i64 (v.f 4), .int .i64 (v.f 5), .int .i64 (v.f 6), .int .i64 (v.f 7), .slice v.a v.l.length v.cap] 46)) := (Off.refl _ wr).alloc _
   generalize hvv : wr.alloc (.cells #[.string v.key, .int .i64 (v.f 0), .int .i64 (v.f 1), .int .i64 (v.f 2), .int .i64 (v.f 3), .int .i64 (v.f 4), .int .i64 (v.f 5), .int .i64 (v.f 6), .int .i64 (v.f 7), .slice v.a v.l.length v.cap] 46) = v1 at CN ON ⊢
   generalize hpp : wr.heap.size = p at CN ⊢
   clear hvv hpp k0 k1 k2 k3 k4 k5 k6 k7 k8 k9 hix
   have z0 := CN.cell 0
   have z1 := CN.cell 1
   have z2 := CN.cell 2
   have z3 := CN.cell 3
   have z4 := CN.cell 4
   have z5 := CN.cell 5
   have z6 := CN.cell 6
   have z7 := CN.cell 7
   have z8 := CN.cell 8
   have z9 := CN.cell 9
   simp at z0 z1 z2 z3 z4 z5 z6 z7 z8 z9
   have HQ1 : Hid _ := HQ.out.off ON
   have HON : Hid (Off (fun c => ¬ K c) wr v1) := ON.mono (fun _ _ h => h.elim)
   clear CN ON
   go_wp2_with fail
   refine (wq1E HQ1.out HM.out v HV2.out (fun w1 o => HR.out w1 (HON.out.trans o (fun _ _ h => h)))).mono ?_
   rintro e w2 ⟨rfl, hq, o2⟩
   clear z0 z1 z2 z3 z4 z5 z6 z7 z8 z9
   have HQ2 : Hid _ := hq
   have HO2 : Hid _ := (HO.out.trans HON.out (fun _ _ h => h)).trans o2 (fun _ _ h => h)
   clear hq o2 HQ1
   go_wp2_with fail
   go_roundw
   case rel => exact ⟨n + 1, by go_num, by omega, by rw [wrEs_step HV.out]; exact HQ2.out, HO2.out⟩
   case measure => simp [intOf]; omega
  ·obtain rfl : n = xs.length := by omega
   have g1b : decide ((xs.length : Int) < (xs.length : Int)) = false := decide_eq_false (by omega)
   have g2b : decide (xs.length < xs.length) = false := decide_eq_false (by omega)
   rw [List.take_length] at HQ
   go_wp2_with fail
   first | go_end0 | refine bodyPost_ret (results_none rfl _ _ _) rfl ?_
   exact ⟨rfl, HQ.out, HO.out⟩
set_option maxHeartbeats 2000000 in
theorem wrAllD_any {K : Nat → Prop} {b most : Nat} {st : Option (List Nat)} {w : World} (h : Wq Wtr K b most st w) (hm : most ≤ 140737488355328) (a : Option Addr) (cap : Nat) (xs : List G) (hE : ∀ w', Off (fun c => ¬ K c) w w' → Dgs w' a cap xs) (hok : ∀ x ∈ xs, mayD ⟨x.key, x.f, x.ds⟩ = true) :
  Calls Tryz.prog 76 #[.pointer (some ⟨b, 0, none⟩), .slice a xs.length cap, .func (.func 77) #[] #[]] w fun e w' => e = .returned (.tuple #[]) ∧ Wq Wtr K b most (wrGs most (putS most st (numB xs.length)) (xs.map G.abs)) w' ∧ Off (fun c => ¬ K c) w w' := by
 have hb0 := (hE w (Off.refl _ w)).len
 have hb := (hE w (Off.refl _ w)).bound
 have hlen : xs.length ≤ 9223372036854775807 := by omega
 have hwrap := len_wrap xs hlen
 have HE : Hid (∀ w', Off (fun c => ¬ K c) w w' → Dgs w' a cap xs) := hE
 have HOK : Hid (∀ x ∈ xs, mayD ⟨x.key, x.f, x.ds⟩ = true) := hok
 have HM : Hid (most ≤ 140737488355328) := hm
 have HW : Hid _ := h
 clear h hE hok hm hb hb0
 go_enter Tryz.func76, Tryz.ntmps76
 go_wp2_with fail
 refine (wqNum HW.out HM.out xs.length (by omega)).mono ?_
 rintro e w1 ⟨rfl, hq, o1⟩
 have HQ : Hid _ := hq
 have HO : Hid _ := o1
 clear hq o1 hwrap
 go_wp2_with fail
 go_loopw [15] (fun y wr => ∃ n : Nat, y = .int .i64 (n : Int) ∧ n ≤ xs.length ∧ Hid (Wq Wtr K b most (wrGs most (putS most st (numB xs.length)) ((xs.take n).map G.abs)) wr) ∧ Hid (Off (fun c => ¬ K c) w wr)) (fun y _ => (xs.length - intOf y).toNat)
 case atStart => exact ⟨0, rfl, by omega, HQ.out, HO.out⟩
 case round =>
  clear HQ HO
  obtain ⟨n, rfl, hn, HQ, HO⟩ := hrel
  by_cases hlt : n < xs.length
  ·have g1b : decide ((n : Int) < (xs.length : Int)) = true := decide_eq_true (by omega)
   have g2b : decide (n < xs.length) = true := decide_eq_true hlt
   obtain ⟨v, hv⟩ : ∃ v, xs[n]? = some v := ⟨_, List.getElem?_eq_getElem hlt⟩
   have hA := (HE.out wr HO.out).at_ n v hv
   obtain ⟨bx, off, ea, k10, kr⟩ := hA
   have HR : Hid (∀ w', Off (fun c => ¬ K c) wr w' → RowD w' v.a v.cap v.ds) := fun w' o => by
    obtain ⟨_, _, _, _, r⟩ := (HE.out w' (HO.out.trans o (fun _ _ h => h))).at_ n v hv
    exact r
   clear kr
   subst ea
   obtain ⟨k0, k1, k2, k3, k4, k5, k6, k7, k8, k9⟩ := dg10 k10
   clear k10
   have hix := idx_dgs hlt
   have HV : Hid _ := hv
   have HV2 : Hid _ := HOK.out v (List.mem_of_getElem? hv)
   clear hv
   go_upto_region 4 with fail
   have CN := Cel.new wr 49 #[.string v.key, .int .i64 (v.f 0), .int .i64 (v.f 1), .int .i64 (v.f 2), .int .i64 (v.f 3), .int .i64 (v.f 4), .int .i64 (v.f 5), .int .i64 (v.f 6), .int .i64 (v.f 7), .slice v.a v.ds.length v.cap]
   have ON : Off (fun _ => False) wr (wr.alloc (.cells #[.string v.key, .int .i64 (v.f 0), .int .i64 (v.f 1), .int .i64 (v.f 2), .int .i64 (v.f 3), .int .i64 (v.f 4), .int .i64 (v.f 5), .int .i64 (v.f 6), .int .i64 (v.f 7), .slice v.a v.ds.length v.cap] 49)) := (Off.refl _ wr).alloc _
   generalize hvv : wr.alloc (.cells #[.string v.key, .int .i64 (v.f 0), .int .i64 (v.f 1), .int .i64 (v.f 2), .int .i64 (v.f 3), .int .i64 (v.f 4), .int .i64 (v.f 5), .int .i64 (v.f 6), .int .i64 (v.f 7), .slice v.a v.ds.length v.cap] 49) = v1 at CN ON ⊢
   generalize hpp : wr.heap.size = p at CN ⊢
   clear hvv hpp k0 k1 k2 k3 k4 k5 k6 k7 k8 k9 hix
   have z0 := CN.cell 0
   have z1 := CN.cell 1
   have z2 := CN.cell 2
   have z3 := CN.cell 3
   have z4 := CN.cell 4
   have z5 := CN.cell 5
   have z6 := CN.cell 6
   have z7 := CN.cell 7
   have z8 := CN.cell 8
   have z9 := CN.cell 9
   simp at z0 z1 z2 z3 z4 z5 z6 z7 z8 z9
   have HQ1 : Hid _ := HQ.out.off ON
   have HON : Hid (Off (fun c => ¬ K c) wr v1) := ON.mono (fun _ _ h => h.elim)
   clear CN ON
   go_wp2_with fail
   refine (wq1D HQ1.out HM.out v HV2.out (fun w1 o => HR.out w1 (HON.out.trans o (fun _ _ h => h)))).mono ?_
   rintro e w2 ⟨rfl, hq, o2⟩
   clear z0 z1 z2 z3 z4 z5 z6 z7 z8 z9
   have HQ2 : Hid _ := hq
   have HO2 : Hid _ := (HO.out.trans HON.out (fun _ _ h => h)).trans o2 (fun _ _ h => h)
   clear hq o2 HQ1
   go_wp2_with fail
   go_roundw
   case rel => exact ⟨n + 1, by go_num, by omega, by rw [wrGs_step HV.out]; exact HQ2.out, HO2.out⟩
   case measure => simp [intOf]; omega
  ·obtain rfl : n = xs.length := by omega
   have g1b : decide ((xs.length : Int) < (xs.length : Int)) = false := decide_eq_false (by omega)
   have g2b : decide (xs.length < xs.length) = false := decide_eq_false (by omega)
   rw [List.take_length] at HQ
   go_wp2_with fail
   first | go_end0 | refine bodyPost_ret (results_none rfl _ _ _) rfl ?_
   exact ⟨rfl, HQ.out, HO.out⟩
set_option maxHeartbeats 2000000 in
theorem wrAllM_any {K : Nat → Prop} {b most : Nat} {st : Option (List Nat)} {w : World} (h : Wq Wtr K b most st w) (hm : most ≤ 140737488355328) (a : Option Addr) (cap : Nat) (xs : List (Int × Int)) (hE : ∀ w', Off (fun c => ¬ K c) w w' → RowD w' a cap xs) (hok : ∀ x ∈ xs, mbB x.1 x.2 = true) :
  Calls Tryz.prog 78 #[.pointer (some ⟨b, 0, none⟩), .slice a xs.length cap, .func (.func 79) #[] #[]] w fun e w' => e = .returned (.tuple #[]) ∧ Wq Wtr K b most (wrMs most (putS most st (numB xs.length)) xs) w' ∧ Off (fun c => ¬ K c) w w' := by
 have hb0 := (hE w (Off.refl _ w)).len
 have hb := (hE w (Off.refl _ w)).bound
 have hlen : xs.length ≤ 9223372036854775807 := by omega
 have hwrap := len_wrap xs hlen
 have HE : Hid (∀ w', Off (fun c => ¬ K c) w w' → RowD w' a cap xs) := hE
 have HOK : Hid (∀ x ∈ xs, mbB x.1 x.2 = true) := hok
 have HM : Hid (most ≤ 140737488355328) := hm
 have HW : Hid _ := h
 clear h hE hok hm hb hb0
 go_enter Tryz.func78, Tryz.ntmps78
 go_wp2_with fail
 refine (wqNum HW.out HM.out xs.length (by omega)).mono ?_
 rintro e w1 ⟨rfl, hq, o1⟩
 have HQ : Hid _ := hq
 have HO : Hid _ := o1
 clear hq o1 hwrap
 go_wp2_with fail
 go_loopw [15] (fun y wr => ∃ n : Nat, y = .int .i64 (n : Int) ∧ n ≤ xs.length ∧ Hid (Wq Wtr K b most (wrMs most (putS most st (numB xs.length)) (xs.take n)) wr) ∧ Hid (Off (fun c => ¬ K c) w wr)) (fun y _ => (xs.length - intOf y).toNat)
 case atStart => exact ⟨0, rfl, by omega, HQ.out, HO.out⟩
 case round =>
  clear HQ HO
  obtain ⟨n, rfl, hn, HQ, HO⟩ := hrel
  by_cases hlt : n < xs.length
  ·have g1b : decide ((n : Int) < (xs.length : Int)) = true := decide_eq_true (by omega)
   have g2b : decide (n < xs.length) = true := decide_eq_true hlt
   obtain ⟨v, hv⟩ : ∃ v, xs[n]? = some v := ⟨_, List.getElem?_eq_getElem hlt⟩
   have hA := (HE.out wr HO.out).at_ n v hv
   obtain ⟨bx, off, ea, k0, k1⟩ := hA
   subst ea
   have hix := idx_mems hlt
   have HV : Hid _ := hv
   have HV2 : Hid _ := HOK.out v (List.mem_of_getElem? hv)
   clear hv
   go_upto_region 4 with fail
   have CN := Cel.new wr 60 #[.int .i64 v.1, .int .i64 v.2]
   have ON : Off (fun _ => False) wr (wr.alloc (.cells #[.int .i64 v.1, .int .i64 v.2] 60)) := (Off.refl _ wr).alloc _
   generalize hvv : wr.alloc (.cells #[.int .i64 v.1, .int .i64 v.2] 60) = v1 at CN ON ⊢
   generalize hpp : wr.heap.size = p at CN ⊢
   clear hvv hpp k0 k1 hix
   have z0 := CN.cell 0
   have z1 := CN.cell 1
   simp at z0 z1
   have HQ1 : Hid _ := HQ.out.off ON
   have HON : Hid (Off (fun c => ¬ K c) wr v1) := ON.mono (fun _ _ h => h.elim)
   clear CN ON
   go_wp2_with fail
   refine (wq1M HQ1.out HM.out v HV2.out).mono ?_
   rintro e w2 ⟨rfl, hq, o2⟩
   clear z0 z1
   have HQ2 : Hid _ := hq
   have HO2 : Hid _ := (HO.out.trans HON.out (fun _ _ h => h)).trans o2 (fun _ _ h => h)
   clear hq o2 HQ1
   go_wp2_with fail
   go_roundw
   case rel => exact ⟨n + 1, by go_num, by omega, by rw [wrMs_step HV.out]; exact HQ2.out, HO2.out⟩
   case measure => simp [intOf]; omega
  ·obtain rfl : n = xs.length := by omega
   have g1b : decide ((xs.length : Int) < (xs.length : Int)) = false := decide_eq_false (by omega)
   have g2b : decide (xs.length < xs.length) = false := decide_eq_false (by omega)
   rw [List.take_length] at HQ
   go_wp2_with fail
   first | go_end0 | refine bodyPost_ret (results_none rfl _ _ _) rfl ?_
   exact ⟨rfl, HQ.out, HO.out⟩
end Go.Proofs.YtmbphlkohlggfaaGreat

namespace Go.Proofs.YtmbphlkohlggfaaGreat
set_option maxRecDepth 100000
open Go.RowKit
def wr3 (most : Nat) (x : Option (List Nat)) (d : MD) : Option (List Nat) := putS most (putS most (putS most x (numB (u64N d.k))) (numB (u64N d.fr))) (numB (u64N d.tn))
def wrOp (most : Nat) (s : Bool) (d : MD) (x : Option (List Nat)) : Option (List Nat) := cond s (putS most x (numB (zig d.op))) x
def wrFo (most : Nat) (s : Bool) (d : MD) (x : Option (List Nat)) : Option (List Nat) := cond s (putS most x (numB (u64N d.fo))) x
def wrKey (most : Nat) (s : Bool) (d : MD) (x : Option (List Nat)) : Option (List Nat) := cond s (putS most x (numB (keyL d.key).length ++ keyL d.key)) x
def wrBk (most : Nat) (s : Bool) (d : MD) (x : Option (List Nat)) : Option (List Nat) := cond s (putS most x (numB (u64N d.bk))) x
def wrES (most : Nat) (s : Bool) (d : MD) (x : Option (List Nat)) : Option (List Nat) := cond s (wrEs most (putS most x (numB d.es.length)) d.es) x
def wrGS (most : Nat) (s : Bool) (d : MD) (x : Option (List Nat)) : Option (List Nat) := cond s (wrGs most (putS most x (numB d.gs.length)) d.gs) x
def wrMS (most : Nat) (s : Bool) (d : MD) (x : Option (List Nat)) : Option (List Nat) := cond s (wrMs most (putS most x (numB d.ms.length)) d.ms) x
def wrMsg (most : Nat) (x : Option (List Nat)) (s : Msk) (d : MD) : Option (List Nat) := wrMS most s.ms d (wrGS most s.gs d (wrES most s.es d (wrBk most s.bk d (wrKey most s.key d (wrFo most s.fo d (wrOp most s.op d (wr3 most x d)))))))
theorem wr_plain (most : Nat) (x : Option (List Nat)) (s : Msk) (m : Mg) (es : List E) (gs : List G) (ms : List (Int × Int)) : wrMsg most x s (mdOf (plM s m) (cond s.es es []) (cond s.gs gs []) (cond s.ms ms [])) = wrMsg most x s (mdOf m es gs ms) := by
 obtain ⟨o, f, k, b, e, g, n⟩ := s
 have h1 : ∀ y, wrOp most o (mdOf (plM ⟨o, f, k, b, e, g, n⟩ m) (cond e es []) (cond g gs []) (cond n ms [])) y = wrOp most o (mdOf m es gs ms) y := fun y => by cases o <;> rfl
 have h2 : ∀ y, wrFo most f (mdOf (plM ⟨o, f, k, b, e, g, n⟩ m) (cond e es []) (cond g gs []) (cond n ms [])) y = wrFo most f (mdOf m es gs ms) y := fun y => by cases f <;> rfl
 have h3 : ∀ y, wrKey most k (mdOf (plM ⟨o, f, k, b, e, g, n⟩ m) (cond e es []) (cond g gs []) (cond n ms [])) y = wrKey most k (mdOf m es gs ms) y := fun y => by cases k <;> rfl
 have h4 : ∀ y, wrBk most b (mdOf (plM ⟨o, f, k, b, e, g, n⟩ m) (cond e es []) (cond g gs []) (cond n ms [])) y = wrBk most b (mdOf m es gs ms) y := fun y => by cases b <;> rfl
 have h5 : ∀ y, wrES most e (mdOf (plM ⟨o, f, k, b, e, g, n⟩ m) (cond e es []) (cond g gs []) (cond n ms [])) y = wrES most e (mdOf m es gs ms) y := fun y => by cases e <;> rfl
 have h6 : ∀ y, wrGS most g (mdOf (plM ⟨o, f, k, b, e, g, n⟩ m) (cond e es []) (cond g gs []) (cond n ms [])) y = wrGS most g (mdOf m es gs ms) y := fun y => by cases g <;> rfl
 have h7 : ∀ y, wrMS most n (mdOf (plM ⟨o, f, k, b, e, g, n⟩ m) (cond e es []) (cond g gs []) (cond n ms [])) y = wrMS most n (mdOf m es gs ms) y := fun y => by cases n <;> rfl
 show wrMS most n _ (wrGS most g _ (wrES most e _ (wrBk most b _ (wrKey most k _ (wrFo most f _ (wrOp most o _ _)))))) = wrMS most n _ (wrGS most g _ (wrES most e _ (wrBk most b _ (wrKey most k _ (wrFo most f _ (wrOp most o _ _))))))
 rw [h1, h2, h3, h4, h5, h6, h7]
 rfl
theorem conv_key2 (key : ByteArray) (W : World) : ∃ cap W', (convert 9 28 (.string key)).run Tryz.prog W = .ok (.slice (some ⟨W.heap.size, 0, none⟩) (keyL key).length cap) W' ∧ Src W' (some ⟨W.heap.size, 0, none⟩) cap (keyL key) ∧ Off (fun _ => False) W W' ∧ W.heap.size < W'.heap.size := by
 refine ⟨_, _, by rw [keyL_len]; exact run_bytes_of_string W 9 28 5 key Tryz.underlying9 Tryz.underlying28 Tryz.underlying5, ⟨.inr ⟨_, rfl, fun j u hj => ?_⟩⟩, ((Off.refl _ W).drew).alloc _, by rw [World.size_alloc]; exact Nat.lt_succ_self _⟩
 have hj' := vl_lt hj
 rw [vl_get _ _ hj'] at hj
 rw [keyL_len] at hj'
 rw [add_lit]
 simp only [World.cell?]
 rw [show (W.heap.size) = W.drew.heap.size from rfl, heap_alloc_new]
 simp only [Nat.zero_add]
 rw [← hj]
 have hj2 : j < key.data.size := hj'
 have h := bytesRow_at key (grownCap W key.size 0 5) j hj2
 have e : (keyL key).getD j 0 = key.data[j].toNat := by
  unfold keyL
  rw [List.getD_eq_getElem?_getD, List.getElem?_map, Array.getElem?_toList, Array.getElem?_eq_getElem hj2]
  rfl
 rw [e]
 exact h
theorem Wq.less {K L : Nat → Prop} {b most : Nat} {st : Option (List Nat)} {w : World} (h : Wq Wtr K b most st w) (hL : ∀ c, L c → K c) : Wq Wtr L b most st w := by
 obtain ⟨D, h1, h2⟩ := h.ex
 exact ⟨⟨D, h1, fun c hc hl => h2 c hc (hL c hl)⟩, h.fit, fun c hc => h.bd c (hL c hc)⟩
set_option maxHeartbeats 8000000 in
theorem xwrite_core {K : Nat → Prop} {b most : Nat} {st : Option (List Nat)} {w : World} (h : Wq Wtr K b most st w) (hm : most ≤ 140737488355328) (m : Mg) (es : List E) (gs : List G) (ms : List (Int × Int)) (hE : ∀ w', Off (fun c => ¬ K c) w w' → MsgAt w' m es gs ms) (so sf sk sb se sg sn : Bool)
  (hp : ∀ W, Calls Tryz.prog 46 #[.int .i64 m.k] W fun e w' => e = .returned (.agg #[.bool so, .bool sf, .bool sk, .bool sb, .bool se, .bool sg, .bool sn]) ∧ Off (fun _ => False) W w')
  (hr : (so = true → 0 ≤ m.op ∧ m.op ≤ 1099511627776) ∧ (sk = true → m.key.size ≤ 32) ∧ (se = true → ∀ x ∈ es, (keyB x.key && mayS x.f (cont x.l)) = true) ∧ (sg = true → ∀ x ∈ gs, mayD ⟨x.key, x.f, x.ds⟩ = true) ∧ (sn = true → ∀ x ∈ ms, mbB x.1 x.2 = true)) :
  Calls Tryz.prog 34 #[.pointer (some ⟨b, 0, none⟩), (.agg #[.int .i64 m.k, .int .i64 m.fr, .int .i64 m.tn, .int .i64 m.op, .int .i64 m.fo, .string m.key, .int .i64 m.bk, .slice m.ea m.el m.ec, .slice m.da m.dl m.dc, .slice m.ma m.ml m.mc])] w fun e w' => e = .returned (.tuple #[]) ∧ Wq Wtr K b most (wrMsg most st ⟨so, sf, sk, sb, se, sg, sn⟩ (mdOf m es gs ms)) w' ∧ Off (fun c => ¬ K c) w w' := by
 have HP : Hid (∀ W, Calls Tryz.prog 46 #[.int .i64 m.k] W fun e w' => e = .returned (.agg #[.bool so, .bool sf, .bool sk, .bool sb, .bool se, .bool sg, .bool sn]) ∧ Off (fun _ => False) W w') := hp
 have HE0 : Hid (∀ w', Off (fun c => ¬ K c) w w' → MsgAt w' m es gs ms) := hE
 have HR : Hid ((so = true → 0 ≤ m.op ∧ m.op ≤ 1099511627776) ∧ (sk = true → m.key.size ≤ 32) ∧ (se = true → ∀ x ∈ es, (keyB x.key && mayS x.f (cont x.l)) = true) ∧ (sg = true → ∀ x ∈ gs, mayD ⟨x.key, x.f, x.ds⟩ = true) ∧ (sn = true → ∀ x ∈ ms, mbB x.1 x.2 = true)) := hr
 have hmm := hE w (Off.refl _ w)
 have HL : Hid (m.el = es.length ∧ m.dl = gs.length ∧ m.ml = ms.length) := ⟨hmm.el, hmm.dl, hmm.ml⟩
 have HMO : Hid (most ≤ 140737488355328) := hm
 have HW : Hid _ := h
 clear hp hE hr hm h hmm
 have C0 := Cel.new w 26 #[.int .i64 m.k, .int .i64 m.fr, .int .i64 m.tn, .int .i64 m.op, .int .i64 m.fo, .string m.key, .int .i64 m.bk, .slice m.ea m.el m.ec, .slice m.da m.dl m.dc, .slice m.ma m.ml m.mc]
 have O0 : Off (fun _ => False) w (w.alloc (.cells #[.int .i64 m.k, .int .i64 m.fr, .int .i64 m.tn, .int .i64 m.op, .int .i64 m.fo, .string m.key, .int .i64 m.bk, .slice m.ea m.el m.ec, .slice m.da m.dl m.dc, .slice m.ma m.ml m.mc] 26)) := (Off.refl _ w).alloc _
 go_enter Tryz.func34, Tryz.ntmps34
 go_upto_region 1 with fail
 generalize hv : w.alloc (.cells #[.int .i64 m.k, .int .i64 m.fr, .int .i64 m.tn, .int .i64 m.op, .int .i64 m.fo, .string m.key, .int .i64 m.bk, .slice m.ea m.el m.ec, .slice m.da m.dl m.dc, .slice m.ma m.ml m.mc] 26) = V0 at C0 O0 ⊢
 obtain ⟨p, hpp⟩ : ∃ p, p = w.heap.size := ⟨_, rfl⟩
 rw [← hpp] at C0 ⊢
 have HP0 : Hid (p = w.heap.size) := hpp
 clear hv hpp
 obtain ⟨x0, x1, x2, x3, x4, x5, x6, x7, x8, x9⟩ := celw10 C0
 have HC0 : Hid _ := C0
 have HO0 : Hid _ := O0
 clear C0 O0
 go_wp2_with fail
 refine (HP.out _).mono ?_
 rintro e w1 ⟨rfl, o1⟩
 clear x0 x1 x2 x3 x4 x5 x6 x7 x8 x9
 have HC1 : Hid _ := HC0.out.off o1 (fun h => h)
 have HO1 : Hid _ := HO0.out.trans o1 (fun _ _ h => h)
 clear o1 HC0 HO0 HP
 obtain ⟨x0, x1, x2, x3, x4, x5, x6, x7, x8, x9⟩ := celw10 HC1.out
 go_upto_region 2 with fail
 have P2 : Cel w1.heap.size 99 #[.bool so, .bool sf, .bool sk, .bool sb, .bool se, .bool sg, .bool sn] (w1.alloc (.cells #[.bool so, .bool sf, .bool sk, .bool sb, .bool se, .bool sg, .bool sn] 99)) := Cel.new w1 _ _
 have O2 : Off (fun _ => False) w1 (w1.alloc (.cells #[.bool so, .bool sf, .bool sk, .bool sb, .bool se, .bool sg, .bool sn] 99)) := (Off.refl _ w1).alloc _
 generalize hv : w1.alloc (.cells #[.bool so, .bool sf, .bool sk, .bool sb, .bool se, .bool sg, .bool sn] 99) = V at O2 P2 ⊢
 obtain ⟨q, hq⟩ : ∃ q, q = w1.heap.size := ⟨_, rfl⟩
 rw [← hq] at P2 ⊢
 have HM : Hid _ := HC1.out.off O2 (fun h => h)
 have HPQ : Hid _ := P2
 have HOV : Hid (Off (fun _ => False) w V) := HO1.out.trans O2 (fun _ _ h => h)
 have HNQ : Hid (w.heap.size ≤ q ∧ q < V.heap.size ∧ p < V.heap.size) := ⟨by have := HO1.out.size; omega, P2.lt, HM.out.lt⟩
 clear hv hq x0 x1 x2 x3 x4 x5 x6 x7 x8 x9 O2 P2 HO1 HC1
 obtain ⟨K1, hK1⟩ : ∃ K1 : Nat → Prop, K1 = (fun c => K c ∨ c = p ∨ c = q) := ⟨_, rfl⟩
 have HK1 : Hid (∀ c, K1 c ↔ K c ∨ c = p ∨ c = q) := fun c => by rw [hK1]
 have HQ : Hid (Wq Wtr K1 b most st V) := HW.out.more HOV.out (fun c hc => by have := HNQ.out; have := HP0.out; rcases (HK1.out c).1 hc with h | rfl | rfl; exact .inl h; exact .inr ⟨by omega, by omega⟩; exact .inr ⟨by omega, by omega⟩)
 have HO : Hid (Off (fun c => ¬ K1 c) V V) := Off.refl _ V
 have HE : Hid (∀ w', Off (fun c => ¬ K1 c) V w' → MsgAt w' m es gs ms) := fun w' o => HE0.out w' ((HOV.out.mono (fun _ _ h => h.elim)).trans o (fun c _ h h2 => h ((HK1.out c).2 (.inl h2))))
 clear hK1 HE0
 obtain ⟨x0, x1, x2, x3, x4, x5, x6, x7, x8, x9⟩ := celw10 HM.out
 have hu0 := u64_wrap m.k
 have hu1 := u64_wrap m.fr
 have hu2 := u64_wrap m.tn
 go_wp2_with fail
 refine (wqNum HQ.out HMO.out (u64N m.k) (u64N_lt m.k)).mono ?_
 rintro e w5 ⟨rfl, hq, o5⟩
 clear x0 x1 x2 x3 x4 x5 x6 x7 x8 x9
 have HO5 : Hid _ := HO.out.trans o5 (fun _ _ h => h)
 clear HQ HO
 have HQ : Hid _ := hq
 have HO : Hid _ := HO5.out
 clear hq o5 HO5
 obtain ⟨x0, x1, x2, x3, x4, x5, x6, x7, x8, x9⟩ := celw10 (HM.out.off HO.out (fun e => e ((HK1.out p).2 (.inr (.inl rfl)))))
 go_wp2_with fail
 refine (wqNum HQ.out HMO.out (u64N m.fr) (u64N_lt m.fr)).mono ?_
 rintro e w5 ⟨rfl, hq, o5⟩
 clear x0 x1 x2 x3 x4 x5 x6 x7 x8 x9
 have HO5 : Hid _ := HO.out.trans o5 (fun _ _ h => h)
 clear HQ HO
 have HQ : Hid _ := hq
 have HO : Hid _ := HO5.out
 clear hq o5 HO5
 obtain ⟨x0, x1, x2, x3, x4, x5, x6, x7, x8, x9⟩ := celw10 (HM.out.off HO.out (fun e => e ((HK1.out p).2 (.inr (.inl rfl)))))
 go_wp2_with fail
 refine (wqNum HQ.out HMO.out (u64N m.tn) (u64N_lt m.tn)).mono ?_
 rintro e w5 ⟨rfl, hq, o5⟩
 clear x0 x1 x2 x3 x4 x5 x6 x7 x8 x9
 have HO5 : Hid _ := HO.out.trans o5 (fun _ _ h => h)
 clear HQ HO
 have HQ : Hid _ := hq
 have HO : Hid _ := HO5.out
 clear hq o5 HO5
 obtain ⟨x0, x1, x2, x3, x4, x5, x6, x7, x8, x9⟩ := celw10 (HM.out.off HO.out (fun e => e ((HK1.out p).2 (.inr (.inl rfl)))))
 clear hu0 hu1 hu2
 obtain ⟨s3, hs⟩ : ∃ x, x = wr3 most st (mdOf m es gs ms) := ⟨_, rfl⟩
 have HS3 : Hid (s3 = wr3 most st (mdOf m es gs ms)) := hs
 have HQ' : Hid (Wq Wtr K1 b most s3 w5) := by show Wq _ _ _ _ _ _; rw [hs]; exact HQ.out
 clear HQ hs x0 x1 x2 x3 x4 x5 x6 x7 x8 x9
 have HQ := HQ'
 clear HQ'
 have p0 := (HPQ.out.off HO.out (fun e => e ((HK1.out q).2 (.inr (.inr rfl))))).cell 0
 simp at p0
 obtain ⟨s4, hs⟩ : ∃ x, x = wrOp most so (mdOf m es gs ms) s3 := ⟨_, rfl⟩
 have HS4 : Hid (s4 = wrOp most so (mdOf m es gs ms) s3) := hs
 clear hs
 go_upto_if 24 with fail
 go_cut [] from 25 to 28 (fun wx => Hid (Wq Wtr K1 b most s4 wx) ∧ Hid (Off (fun c => ¬ K1 c) V wx))
 case first =>
  have HS := HS4
  clear p0
  have m0 := (HM.out.off HO.out (fun e => e ((HK1.out p).2 (.inr (.inl rfl))))).cell 3
  simp at m0
  cases so
  ·go_wp2_with fail
   go_meet
   case rel => exact ⟨by rw [show s4 = _ from HS.out]; exact HQ.out, HO.out⟩
  ·go_wp2_with fail
   refine (wqInt HQ.out HMO.out m.op (by have := (HR.out.1 (by simp)); omega) (by have := (HR.out.1 (by simp)); omega)).mono ?_
   rintro e w5 ⟨rfl, hq, o5⟩
   have HQ5 : Hid _ := hq
   have HO5 : Hid _ := HO.out.trans o5 (fun _ _ h => h)
   clear hq o5
   go_wp2_with fail
   go_meet
   case rel => exact ⟨by rw [show s4 = _ from HS.out]; exact HQ5.out, HO5.out⟩
 case rest =>
  clear p0 HQ HO
  obtain ⟨HQ, HO⟩ := hcut
  have p1 := (HPQ.out.off HO.out (fun e => e ((HK1.out q).2 (.inr (.inr rfl))))).cell 1
  simp at p1
  obtain ⟨s5, hs⟩ : ∃ x, x = wrFo most sf (mdOf m es gs ms) s4 := ⟨_, rfl⟩
  have HS5 : Hid (s5 = wrFo most sf (mdOf m es gs ms) s4) := hs
  clear hs
  go_upto_if 30 with fail
  go_cut [] from 31 to 35 (fun wx => Hid (Wq Wtr K1 b most s5 wx) ∧ Hid (Off (fun c => ¬ K1 c) V wx))
  case first =>
   have HS := HS5
   clear p1
   have m1 := (HM.out.off HO.out (fun e => e ((HK1.out p).2 (.inr (.inl rfl))))).cell 4
   simp at m1
   have hu := u64_wrap m.fo
   cases sf
   ·go_wp2_with fail
    go_meet
    case rel => exact ⟨by rw [show s5 = _ from HS.out]; exact HQ.out, HO.out⟩
   ·go_wp2_with fail
    refine (wqNum HQ.out HMO.out (u64N m.fo) (u64N_lt m.fo)).mono ?_
    rintro e w5 ⟨rfl, hq, o5⟩
    have HQ5 : Hid _ := hq
    have HO5 : Hid _ := HO.out.trans o5 (fun _ _ h => h)
    clear hq o5
    go_wp2_with fail
    go_meet
    case rel => exact ⟨by rw [show s5 = _ from HS.out]; exact HQ5.out, HO5.out⟩
  case rest =>
   clear p1 HQ HO
   obtain ⟨HQ, HO⟩ := hcut
   have p2 := (HPQ.out.off HO.out (fun e => e ((HK1.out q).2 (.inr (.inr rfl))))).cell 2
   simp at p2
   obtain ⟨s6, hs⟩ : ∃ x, x = wrKey most sk (mdOf m es gs ms) s5 := ⟨_, rfl⟩
   have HS6 : Hid (s6 = wrKey most sk (mdOf m es gs ms) s5) := hs
   clear hs
   go_upto_if 37 with fail
   go_cut [] from 38 to 42 (fun wx => Hid (Wq Wtr K1 b most s6 wx) ∧ Hid (Off (fun c => ¬ K1 c) V wx))
   case first =>
    have HS := HS6
    clear p2
    have m2 := (HM.out.off HO.out (fun e => e ((HK1.out p).2 (.inr (.inl rfl))))).cell 5
    simp at m2
    obtain ⟨cap, W', hcv, hsrc, hof, hlt⟩ := conv_key2 m.key wc
    have HSR : Hid _ := hsrc
    have HOF : Hid _ := hof
    have HLT : Hid (wc.heap.size < W'.heap.size) := hlt
    clear hsrc hof hlt
    cases sk
    ·go_wp2_with fail
     go_meet
     case rel => exact ⟨by rw [show s6 = _ from HS.out]; exact HQ.out, HO.out⟩
    ·go_wp2_with fail
     have HQ2 : Wq Wtr (fun c => K1 c ∨ c = wc.heap.size) b most s5 W' := HQ.out.more HOF.out (fun c hc => hc.imp id (fun e => ⟨by omega, by rw [e]; exact HLT.out⟩))
     refine (wqText HQ2 HMO.out _ cap (keyL m.key) (by rw [keyL_len]; exact HR.out.2.1 (by simp)) HSR.out (fun k hk => .inr (by simpa [blk] using hk.symm))).mono ?_
     rintro e w5 ⟨rfl, hq, o5⟩
     have HQ5 : Hid _ := hq.less (fun c h => .inl h)
     have HO5 : Hid _ := (HO.out.trans HOF.out (fun _ _ h => h.elim)).trans o5 (fun c _ h h2 => h (.inl h2))
     clear hq o5 HQ2
     go_wp2_with fail
     go_meet
     case rel => exact ⟨by rw [show s6 = _ from HS.out]; exact HQ5.out, HO5.out⟩
   case rest =>
    clear p2 HQ HO
    obtain ⟨HQ, HO⟩ := hcut
    have p3 := (HPQ.out.off HO.out (fun e => e ((HK1.out q).2 (.inr (.inr rfl))))).cell 3
    simp at p3
    obtain ⟨s7, hs⟩ : ∃ x, x = wrBk most sb (mdOf m es gs ms) s6 := ⟨_, rfl⟩
    have HS7 : Hid (s7 = wrBk most sb (mdOf m es gs ms) s6) := hs
    clear hs
    go_upto_if 44 with fail
    go_cut [] from 45 to 49 (fun wx => Hid (Wq Wtr K1 b most s7 wx) ∧ Hid (Off (fun c => ¬ K1 c) V wx))
    case first =>
     have HS := HS7
     clear p3
     have m3 := (HM.out.off HO.out (fun e => e ((HK1.out p).2 (.inr (.inl rfl))))).cell 6
     simp at m3
     have hu := u64_wrap m.bk
     cases sb
     ·go_wp2_with fail
      go_meet
      case rel => exact ⟨by rw [show s7 = _ from HS.out]; exact HQ.out, HO.out⟩
     ·go_wp2_with fail
      refine (wqNum HQ.out HMO.out (u64N m.bk) (u64N_lt m.bk)).mono ?_
      rintro e w5 ⟨rfl, hq, o5⟩
      have HQ5 : Hid _ := hq
      have HO5 : Hid _ := HO.out.trans o5 (fun _ _ h => h)
      clear hq o5
      go_wp2_with fail
      go_meet
      case rel => exact ⟨by rw [show s7 = _ from HS.out]; exact HQ5.out, HO5.out⟩
    case rest =>
     clear p3 HQ HO
     obtain ⟨HQ, HO⟩ := hcut
     have p4 := (HPQ.out.off HO.out (fun e => e ((HK1.out q).2 (.inr (.inr rfl))))).cell 4
     simp at p4
     obtain ⟨s8, hs⟩ : ∃ x, x = wrES most se (mdOf m es gs ms) s7 := ⟨_, rfl⟩
     have HS8 : Hid (s8 = wrES most se (mdOf m es gs ms) s7) := hs
     clear hs
     go_upto_if 51 with fail
     go_cut [] from 52 to 55 (fun wx => Hid (Wq Wtr K1 b most s8 wx) ∧ Hid (Off (fun c => ¬ K1 c) V wx))
     case first =>
      have HS := HS8
      clear p4
      have m4 := (HM.out.off HO.out (fun e => e ((HK1.out p).2 (.inr (.inl rfl))))).cell 7
      simp at m4
      rw [HL.out.1] at m4
      cases se
      ·go_wp2_with fail
       go_meet
       case rel => exact ⟨by rw [show s8 = _ from HS.out]; exact HQ.out, HO.out⟩
      ·go_wp2_with fail
       refine (wrAllE_any HQ.out HMO.out m.ea m.ec es (fun w1 o1 => (HE.out w1 (HO.out.trans o1 (fun _ _ h => h))).ens) (HR.out.2.2.1 (by simp))).mono ?_
       rintro e w5 ⟨rfl, hq, o5⟩
       have HQ5 : Hid _ := hq
       have HO5 : Hid _ := HO.out.trans o5 (fun _ _ h => h)
       clear hq o5
       go_wp2_with fail
       go_meet
       case rel => exact ⟨by rw [show s8 = _ from HS.out]; show Wq _ _ _ _ (wrEs most (putS most s7 (numB (es.map E.abs).length)) _) _; rw [List.length_map]; exact HQ5.out, HO5.out⟩
     case rest =>
      clear p4 HQ HO
      obtain ⟨HQ, HO⟩ := hcut
      have p5 := (HPQ.out.off HO.out (fun e => e ((HK1.out q).2 (.inr (.inr rfl))))).cell 5
      simp at p5
      obtain ⟨s9, hs⟩ : ∃ x, x = wrGS most sg (mdOf m es gs ms) s8 := ⟨_, rfl⟩
      have HS9 : Hid (s9 = wrGS most sg (mdOf m es gs ms) s8) := hs
      clear hs
      go_upto_if 57 with fail
      go_cut [] from 58 to 61 (fun wx => Hid (Wq Wtr K1 b most s9 wx) ∧ Hid (Off (fun c => ¬ K1 c) V wx))
      case first =>
       have HS := HS9
       clear p5
       have m5 := (HM.out.off HO.out (fun e => e ((HK1.out p).2 (.inr (.inl rfl))))).cell 8
       simp at m5
       rw [HL.out.2.1] at m5
       cases sg
       ·go_wp2_with fail
        go_meet
        case rel => exact ⟨by rw [show s9 = _ from HS.out]; exact HQ.out, HO.out⟩
       ·go_wp2_with fail
        refine (wrAllD_any HQ.out HMO.out m.da m.dc gs (fun w1 o1 => (HE.out w1 (HO.out.trans o1 (fun _ _ h => h))).dgs) (HR.out.2.2.2.1 (by simp))).mono ?_
        rintro e w5 ⟨rfl, hq, o5⟩
        have HQ5 : Hid _ := hq
        have HO5 : Hid _ := HO.out.trans o5 (fun _ _ h => h)
        clear hq o5
        go_wp2_with fail
        go_meet
        case rel => exact ⟨by rw [show s9 = _ from HS.out]; show Wq _ _ _ _ (wrGs most (putS most s8 (numB (gs.map G.abs).length)) _) _; rw [List.length_map]; exact HQ5.out, HO5.out⟩
      case rest =>
       clear p5 HQ HO
       obtain ⟨HQ, HO⟩ := hcut
       have p6 := (HPQ.out.off HO.out (fun e => e ((HK1.out q).2 (.inr (.inr rfl))))).cell 6
       simp at p6
       have m6 := (HM.out.off HO.out (fun e => e ((HK1.out p).2 (.inr (.inl rfl))))).cell 9
       simp at m6
       rw [HL.out.2.2] at m6
       cases sn
       ·go_wp2_with fail
        first | go_end0 | refine bodyPost_ret (results_none rfl _ _ _) rfl ?_
        refine ⟨rfl, ?_, (HOV.out.mono (fun _ _ h => h.elim)).trans HO.out (fun c _ h h2 => h ((HK1.out c).2 (.inl h2)))⟩
        have e : wrMsg most st ⟨so, sf, sk, sb, se, sg, false⟩ (mdOf m es gs ms) = wrMS most false (mdOf m es gs ms) s9 := by
         rw [show s9 = _ from HS9.out, show s8 = _ from HS8.out, show s7 = _ from HS7.out, show s6 = _ from HS6.out, show s5 = _ from HS5.out, show s4 = _ from HS4.out, show s3 = _ from HS3.out]
         rfl
        rw [e]
        exact HQ.out.less (fun c h => (HK1.out c).2 (.inl h))
       ·go_wp2_with fail
        refine (wrAllM_any HQ.out HMO.out m.ma m.mc ms (fun w1 o1 => (HE.out w1 (HO.out.trans o1 (fun _ _ h => h))).mbs) (HR.out.2.2.2.2 (by simp))).mono ?_
        rintro e w5 ⟨rfl, hq, o5⟩
        have HQ5 : Hid _ := hq
        have HO5 : Hid _ := HO.out.trans o5 (fun _ _ h => h)
        clear hq o5
        go_wp2_with fail
        first | go_end0 | refine bodyPost_ret (results_none rfl _ _ _) rfl ?_
        refine ⟨rfl, ?_, (HOV.out.mono (fun _ _ h => h.elim)).trans HO5.out (fun c _ h h2 => h ((HK1.out c).2 (.inl h2)))⟩
        have e : wrMsg most st ⟨so, sf, sk, sb, se, sg, true⟩ (mdOf m es gs ms) = wrMS most true (mdOf m es gs ms) s9 := by
         rw [show s9 = _ from HS9.out, show s8 = _ from HS8.out, show s7 = _ from HS7.out, show s6 = _ from HS6.out, show s5 = _ from HS5.out, show s4 = _ from HS4.out, show s3 = _ from HS3.out]
         rfl
        rw [e]
        exact HQ5.out.less (fun c h => (HK1.out c).2 (.inl h))
end Go.Proofs.YtmbphlkohlggfaaGreat

namespace Go.Proofs.YtmbphlkohlggfaaGreat
set_option maxRecDepth 100000
open Go.RowKit
structure EncR (d : MD) (bs : List Nat) (er : Int) : Prop where
 is : (¬ MayM d ∧ bs = [] ∧ er = 1) ∨ (MayM d ∧ bs = (wrMsg 60000 (some []) (msk d.k) d).getD [] ∧ er = ((errW (wrMsg 60000 (some []) (msk d.k) d) : Nat) : Int))
theorem may_parts {m : Mg} {es : List E} {gs : List G} {ms : List (Int × Int)} (h : MayM (mdM m es gs ms)) : ((msk m.k).op = true → 0 ≤ m.op ∧ m.op ≤ 1099511627776) ∧ ((msk m.k).key = true → m.key.size ≤ 32) ∧ ((msk m.k).es = true → ∀ x ∈ es, (keyB x.key && mayS x.f (cont x.l)) = true) ∧ ((msk m.k).gs = true → ∀ x ∈ gs, mayD ⟨x.key, x.f, x.ds⟩ = true) ∧ ((msk m.k).ms = true → ∀ x ∈ ms, mbB x.1 x.2 = true) := by
 have h1 := h.op
 have h3 := h.es
 have h4 := h.gs
 have h5 := h.ms
 simp only [mdM, mdOf, plM] at h1 h3 h4 h5
 refine ⟨fun e => ?_, fun e => ?_, fun e => ?_, fun e => ?_, fun e => ?_⟩
 ·rw [e] at h1
  exact h1
 ·have ek : (mdM m es gs ms).key = m.key := by show cond (msk m.k).key m.key _ = _; rw [e]; rfl
  rw [← ek]
  have h2 := h.key
  cases hd : decide ((mdM m es gs ms).k = 4)
  ·rw [hd] at h2
   simpa using h2
  ·rw [hd] at h2
   simp [keyB] at h2
   omega
 ·rw [e] at h3
  exact allE_iff.1 h3
 ·rw [e] at h4
  exact allG_iff.1 h4
 ·rw [e] at h5
  exact h5
theorem xwrite_any {K : Nat → Prop} {b most : Nat} {st : Option (List Nat)} {w : World} (h : Wq Wtr K b most st w) (hm : most ≤ 140737488355328) (m : Mg) (es : List E) (gs : List G) (ms : List (Int × Int)) (hE : ∀ w', Off (fun c => ¬ K c) w w' → MsgAt w' m es gs ms) (hmay : MayM (mdM m es gs ms)) :
  Calls Tryz.prog 34 #[.pointer (some ⟨b, 0, none⟩), (.agg #[.int .i64 m.k, .int .i64 m.fr, .int .i64 m.tn, .int .i64 m.op, .int .i64 m.fo, .string m.key, .int .i64 m.bk, .slice m.ea m.el m.ec, .slice m.da m.dl m.dc, .slice m.ma m.ml m.mc])] w fun e w' => e = .returned (.tuple #[]) ∧ Wq Wtr K b most (wrMsg most st (msk m.k) (mdM m es gs ms)) w' ∧ Off (fun c => ¬ K c) w w' := by
 have e : wrMsg most st (msk m.k) (mdM m es gs ms) = wrMsg most st (msk m.k) (mdOf m es gs ms) := wr_plain most st (msk m.k) m es gs ms
 rw [e]
 exact xwrite_core h hm m es gs ms hE _ _ _ _ _ _ _ (fun W => xpartsOf_any m.k W) (may_parts hmay)
set_option maxHeartbeats 2000000 in
theorem xencode_any (m : Mg) (es : List E) (gs : List G) (ms : List (Int × Int)) (w : World) (h : MsgAt w m es gs ms) :
  Calls Tryz.prog 10 #[(.agg #[.int .i64 m.k, .int .i64 m.fr, .int .i64 m.tn, .int .i64 m.op, .int .i64 m.fo, .string m.key, .int .i64 m.bk, .slice m.ea m.el m.ec, .slice m.da m.dl m.dc, .slice m.ma m.ml m.mc])] w fun e w' => ∃ (t : Option Addr) (c : Nat) (bs : List Nat) (er : Int), e = .returned (.tuple #[.slice t bs.length c, .int .i64 er]) ∧ EncR (mdM m es gs ms) bs er ∧ OwnR w' t c bs ∧ (∀ k, blk t = some k → w.heap.size ≤ k) ∧ Off (fun _ => False) w w' := by
 have C0 := Cel.new w 26 #[.int .i64 m.k, .int .i64 m.fr, .int .i64 m.tn, .int .i64 m.op, .int .i64 m.fo, .string m.key, .int .i64 m.bk, .slice m.ea m.el m.ec, .slice m.da m.dl m.dc, .slice m.ma m.ml m.mc]
 have O0 : Off (fun _ => False) w (w.alloc (.cells #[.int .i64 m.k, .int .i64 m.fr, .int .i64 m.tn, .int .i64 m.op, .int .i64 m.fo, .string m.key, .int .i64 m.bk, .slice m.ea m.el m.ec, .slice m.da m.dl m.dc, .slice m.ma m.ml m.mc] 26)) := (Off.refl _ w).alloc _
 obtain ⟨d, hd⟩ : ∃ d, d = mdM m es gs ms := ⟨_, rfl⟩
 have HD : Hid (d = mdM m es gs ms) := hd
 rw [← hd]
 clear hd
 have HX : Hid _ := h
 clear h
 go_enter Tryz.func10, Tryz.ntmps10
 go_upto_region 1 with fail
 generalize hv : w.alloc (.cells #[.int .i64 m.k, .int .i64 m.fr, .int .i64 m.tn, .int .i64 m.op, .int .i64 m.fo, .string m.key, .int .i64 m.bk, .slice m.ea m.el m.ec, .slice m.da m.dl m.dc, .slice m.ma m.ml m.mc] 26) = V at C0 O0 ⊢
 generalize hp : w.heap.size = p at C0 ⊢
 have HP : Hid (w.heap.size = p) := hp
 clear hv hp
 obtain ⟨x0, x1, x2, x3, x4, x5, x6, x7, x8, x9⟩ := celw10 C0
 have HC : Hid _ := C0
 have HO : Hid _ := O0
 clear C0 O0
 go_wp2_with fail
 refine (xmay_any m es gs ms _ (HX.out.off HO.out)).mono ?_
 rintro e w1 ⟨⟨b, rfl, hb⟩, o1⟩
 rw [← HD.out] at hb
 have HB : Hid (b = true ↔ MayM d) := hb
 clear x0 x1 x2 x3 x4 x5 x6 x7 x8 x9 hb
 have HC1 : Hid _ := HC.out.off o1 (fun h => h)
 have HO1 : Hid _ := HO.out.trans o1 (fun _ _ h => h)
 clear o1 HC HO
 cases b with
 | false =>
  go_wp2_with fail
  refine bodyPost_ret (results_tmp2 rfl _ _ _) rfl ?_
  exact ⟨none, 0, [], 1, rfl, ⟨.inl ⟨fun h => (by have := HB.out.2 h; cases this), rfl, rfl⟩⟩, OwnR.nil _, fun k hk => by simp [blk] at hk, HO1.out⟩
 | true =>
  have HMAY : Hid (MayM d) := HB.out.1 rfl
  clear HB
  go_wp2_with fail
  refine (newWriter_any 60000 (by decide) w1).mono ?_
  rintro e w2 ⟨rfl, W2, o2⟩
  rw [show Int.toNat 60000 = 60000 from rfl] at W2
  have HQ : Hid (Wq Wtr (fun c => c < w1.heap.size) w1.heap.size 60000 (some []) w2) := ⟨⟨_, W2, fun c hc h => by have hc : c = w1.heap.size := hc; omega⟩, by simp, fun c hc => Nat.lt_of_lt_of_le hc o2.size⟩
  have HE : Hid (∀ w', Off (fun c => ¬ c < w1.heap.size) w2 w' → MsgAt w' m es gs ms) := fun w' o => HX.out.off (HO1.out.trans ((o2.mono (fun _ _ h => h.elim)).trans o (fun c hc h => h hc)) (fun c hc h => h))
  have HO2 : Hid _ := HO1.out.trans o2 (fun _ _ h => h)
  obtain ⟨x0, x1, x2, x3, x4, x5, x6, x7, x8, x9⟩ := celw10 (HC1.out.off o2 (fun h => h))
  have HS : Hid (w1.heap.size ≤ w2.heap.size) := o2.size
  have HP1 : Hid (w.heap.size ≤ w1.heap.size) := HO1.out.size
  clear W2 o2
  generalize hq : w1.heap.size = q at HQ HE HS HP1 ⊢
  clear hq
  go_wp2_with fail
  have WC := xwrite_any HQ.out (by decide) m es gs ms HE.out (by rw [← HD.out]; exact HMAY.out)
  rw [← HD.out] at WC
  refine WC.mono ?_
  clear WC
  rintro e w3 ⟨rfl, hq3, o3⟩
  clear x0 x1 x2 x3 x4 x5 x6 x7 x8 x9
  have HQ3 : Hid _ := hq3
  have HO3 : Hid (Off (fun _ => False) w w3) := HO2.out.trans o3 (fun c hc h => h (by have := HP1.out; omega))
  clear hq3 o3
  obtain ⟨st, hst⟩ : ∃ st, st = wrMsg 60000 (some []) (msk m.k) d := ⟨_, rfl⟩
  rw [← hst] at HQ3
  have HST : Hid (st = wrMsg 60000 (some []) (msk d.k) d) := by show st = _; rw [hst, HD.out]; rfl
  clear hst
  go_wp2_with fail
  obtain ⟨D, WD, -⟩ := HQ3.out.ex
  refine (done_any WD (by have := HQ3.out.fit; omega)).mono ?_
  rintro e w4 ⟨t, c, rfl, own, hlo, o4⟩
  have HOW : Hid _ := own
  have HLO : Hid _ := hlo
  have HO4 : Hid _ := HO3.out.trans o4 (fun _ _ h => h)
  have HS3 : Hid (w.heap.size ≤ w3.heap.size) := HO3.out.size
  clear WD own hlo o4
  go_wp2_with fail
  refine bodyPost_ret (results_tmp2 rfl _ _ _) rfl ?_
  exact ⟨t, c, st.getD [], _, rfl, ⟨.inr ⟨HMAY.out, by rw [HST.out], by rw [HST.out]⟩⟩, HOW.out, fun k hk => Nat.le_trans HS3.out (HLO.out k hk), HO4.out⟩
def mgA : Mg := ⟨4, 1, 2, 3, 0, ⟨#[97]⟩, 0, none, 0, 0, none, 0, 0, none, 0, 0⟩
theorem mgA_at (w : World) : MsgAt w mgA [] [] [] := ⟨Ens.nil w none 0 (by omega), rfl, Dgs.nil w none 0 (by omega), rfl, RowD.nil w none 0 (by omega), rfl⟩
theorem mgA_may : MayM (mdM mgA [] [] []) := ⟨by decide, by decide, by decide, by decide, by decide, by decide, by decide, by decide, by decide, fun x hx => (by revert x hx; decide), by decide, fun x hx => (by revert x hx; decide), by decide, fun x hx => (by revert x hx; decide)⟩
theorem mgA_enc {bs : List Nat} {er : Int} (h : EncR (mdM mgA [] [] []) bs er) : bs = [4, 1, 2, 6, 1, 97] ∧ er = 0 := by
 have e : wrMsg 60000 (some []) (msk (mdM mgA [] [] []).k) (mdM mgA [] [] []) = some [4, 1, 2, 6, 1, 97] := by decide +kernel
 rcases h.is with ⟨h1, -⟩ | ⟨-, h2, h3⟩
 ·exact absurd mgA_may h1
 ·rw [e] at h2 h3
  exact ⟨h2, h3⟩
set_option maxHeartbeats 2000000 in
theorem awake_any (w : World) : Calls Tryz.prog 5 #[] w fun e w' => e = .returned (.bool true) ∧ Off (fun _ => False) w w' := by
 go_enter Tryz.func5, Tryz.ntmps5
 go_wp2_with fail
 refine (xencode_any mgA [] [] [] w (mgA_at w)).mono ?_
 rintro e w1 ⟨t, c, bs, er, rfl, hr, own, -, o1⟩
 obtain ⟨rfl, rfl⟩ := mgA_enc hr
 have HO : Hid _ := o1
 obtain ⟨g, rfl, hc⟩ : ∃ g, t = some ⟨g, 0, none⟩ ∧ ∀ j u, (vl [4, 1, 2, 6, 1, 97])[j]? = some u → w1.cell? ⟨g, j, none⟩ = some u := by
  rcases own.shape with ⟨-, h, -⟩ | ⟨g, h1, -, -, h2⟩
  ·cases h
  ·exact ⟨g, h1, h2⟩
 have c3 := hc 3 _ rfl
 have c5 := hc 5 _ rfl
 simp at c3 c5
 clear hr own hc o1
 go_wp2_with fail
 go_ret
 exact ⟨rfl, HO.out⟩
end Go.Proofs.YtmbphlkohlggfaaGreat
