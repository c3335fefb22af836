/- A member as bytes: Write, Read; what they come to. -/
import Derived.Test.YtgnchloclkjalaaWRops
namespace Go.Proofs.Ytgnchloclkjalaa
set_option maxRecDepth 100000
open Go.RowKit

def u64N (n : Int) : Nat := (n % 18446744073709551616).toNat
theorem u64N_lt (n : Int) : u64N n < 18446744073709551616 := by unfold u64N; omega
theorem u64_wrap (n : Int) : IntKind.u64.wrap n = ((u64N n : Nat) : Int) := by
  simp only [IntKind.wrap, IntKind.bits, IntKind.signed, u64N]
  go_num
def i64w (n : Nat) : Int := IntKind.i64.wrap (n : Int)
theorem i64w_eq (n : Nat) (h : n < 18446744073709551616) : i64w n = if n < 9223372036854775808 then (n : Int) else (n : Int) - 18446744073709551616 := by
  by_cases hc : n < 9223372036854775808
  · rw [if_pos hc]
    simp only [i64w, IntKind.wrap, IntKind.bits, IntKind.signed]
    go_num
  · rw [if_neg hc]
    simp only [i64w, IntKind.wrap, IntKind.bits, IntKind.signed]
    go_num
def encM (s i : Int) : List Nat := numB (u64N s) ++ numB (zig i)
def mrS (s : RS) : RS := (intS (numS s).2).2
def mrB (s : RS) : Bool := decide ((mrS s).2 = 0) && mayB (i64w (numS s).1) (intS (numS s).2).1
def mrX (s : RS) : Int := if mrB s = true then i64w (numS s).1 else 0
def mrY (s : RS) : Int := if mrB s = true then (intS (numS s).2).1 else 0
theorem mrS_ok {s : RS} (h : Ok s) : Ok (mrS s) := (num_ok (num_ok h).1).1

theorem put_some {most : Nat} {a x : List Nat} (h : a.length + x.length ≤ most) : putS most (some a) x = some (a ++ x) := by
  simp only [putS]
  rw [if_pos (by omega)]
theorem enc_len {s i : Int} (h0 : -9223372036854775808 ≤ i) (h1 : i ≤ 9223372036854775807) : (encM s i).length ≤ 20 := by
  have a := numB_ten (u64N_lt s)
  have b := numB_ten (zig_lt h0 h1)
  simp only [encM, List.length_append]
  omega
theorem enc_lt (s i : Int) : ∀ b ∈ encM s i, b < 256 := by
  intro b hb
  simp only [encM, List.mem_append] at hb
  exact hb.elim (numB_lt _ b) (numB_lt _ b)
theorem enc_put {s i : Int} (h0 : -9223372036854775808 ≤ i) (h1 : i ≤ 9223372036854775807) : putS 40 (putS 40 (some []) (numB (u64N s))) (numB (zig i)) = some (encM s i) := by
  have a := numB_ten (u64N_lt s)
  have b := numB_ten (zig_lt h0 h1)
  rw [put_some (by simp; omega), put_some (by simp; omega)]
  rfl
theorem num_on {n : Nat} (h : n < 18446744073709551616) (l : List Nat) : numS (numB n ++ l, 0) = (n, (l, 0)) := by
  simp only [numS, ne_eq, not_true_eq_false, if_false]
  rw [rd_back l n 0 0 (by omega) (by simpa using h) (by omega)]
  simp
theorem int_on {i : Int} (h0 : -9223372036854775808 ≤ i) (h1 : i ≤ 9223372036854775807) (l : List Nat) : intS (numB (zig i) ++ l, 0) = (i, (l, 0)) := by
  simp only [intS, num_on (zig_lt h0 h1), unzig_zig]
/-- What was written is read. -/
theorem rd_enc {s i : Int} (s0 : -9223372036854775808 ≤ s) (s1 : s ≤ 9223372036854775807) (h0 : -9223372036854775808 ≤ i) (h1 : i ≤ 9223372036854775807) :
    mrS (encM s i, 0) = ([], 0) ∧ mrB (encM s i, 0) = mayB s i ∧ (mayB s i = true → mrX (encM s i, 0) = s ∧ mrY (encM s i, 0) = i) := by
  have a : numS (encM s i, 0) = (u64N s, (numB (zig i) ++ [], 0)) := by
    rw [List.append_nil]
    exact num_on (u64N_lt s) _
  have b := int_on h0 h1 []
  have c : i64w (u64N s) = s := by
    rw [i64w_eq _ (u64N_lt s)]
    unfold u64N
    split <;> omega
  have hs : mrS (encM s i, 0) = ([], 0) := by simp only [mrS, a, b]
  have hb : mrB (encM s i, 0) = mayB s i := by
    simp only [mrB, hs, a, b, c]
    simp
  refine ⟨hs, hb, fun h => ?_⟩
  simp only [mrX, mrY, hb, h, if_true, a, b, c]
  exact ⟨trivial, trivial⟩
/-- What is read is what writing it makes. -/
theorem rd_is {bs : List Nat} (hl : ∀ b ∈ bs, b < 256) (h : mrB (bs, 0) = true) : mayB (mrX (bs, 0)) (mrY (bs, 0)) = true ∧ ∃ l, bs = encM (mrX (bs, 0)) (mrY (bs, 0)) ++ l ∧ mrS (bs, 0) = (l, 0) := by
  have hx : mrX (bs, 0) = i64w (numS (bs, 0)).1 := if_pos h
  have hy : mrY (bs, 0) = (intS (numS (bs, 0)).2).1 := if_pos h
  have h2 : (mrS (bs, 0)).2 = 0 ∧ mayB (i64w (numS (bs, 0)).1) (intS (numS (bs, 0)).2).1 = true := by simpa [mrB] using h
  obtain ⟨h2, h3⟩ := h2
  rw [← hx, ← hy] at h3
  refine ⟨h3, ?_⟩
  have key : ∀ (cs : List Nat), (∀ b ∈ cs, b < 256) → (numS (cs, 0)).2.2 = 0 → ∃ n l, numS (cs, 0) = (n, (l, 0)) ∧ cs = numB n ++ l ∧ n < 18446744073709551616 := by
    intro cs hc he
    simp only [numS, ne_eq, not_true_eq_false, if_false] at he ⊢
    split at he
    · rename_i e h0
      rcases rd_err _ _ _ _ h0 with rfl | rfl <;> simp at he
    · rename_i n l h0
      obtain ⟨m, e1, e2, e3, -⟩ := rd_inv _ _ _ _ _ hc (by omega) h0
      simp at e2 e3
      subst e2
      exact ⟨n, l, rfl, e1, e3⟩
  have h1 : (numS (bs, 0)).2.2 = 0 := by
    rcases Nat.eq_zero_or_pos (numS (bs, 0)).2.2 with h1 | h1
    · exact h1
    · have : (mrS (bs, 0)).2 = (numS (bs, 0)).2.2 := by
        simp only [mrS, intS]
        rw [show numS (numS (bs, 0)).2 = (0, (numS (bs, 0)).2) from by rw [numS, if_pos (by omega)]]
      omega
  obtain ⟨n, l, en, eb, hn⟩ := key bs hl h1
  have hl2 : ∀ b ∈ l, b < 256 := fun b hb => hl b (by rw [eb]; exact List.mem_append_right _ hb)
  rw [en] at hx hy
  have h4 : (numS (l, 0)).2.2 = 0 := by
    have : mrS (bs, 0) = (numS (l, 0)).2 := by simp only [mrS, intS, en]
    rw [← this]
    exact h2
  obtain ⟨m, l2, em, el, hm⟩ := key l hl2 h4
  simp only [intS, em] at hy
  refine ⟨l2, ?_, ?_⟩
  · have u : u64N (mrX (bs, 0)) = n := by
      rw [hx, i64w_eq _ hn]
      unfold u64N
      split <;> omega
    rw [encM, u, hy, zig_unzig, List.append_assoc, ← el]
    exact eb
  · simp only [mrS, intS, en, em]

set_option maxHeartbeats 1000000 in
theorem mwrite_any {D : Nat → Prop} {b : Nat} {w : World} (hW : Wtr D b 40 (some []) w) (s i : Int) (h0 : -9223372036854775808 ≤ i) (h1 : i ≤ 9223372036854775807) :
    Calls Try.prog 17 #[.pointer (some ⟨b, 0, none⟩), .agg #[.int .i64 s, .int .i64 i]] w fun e w' => e = .returned (.tuple #[]) ∧ ∃ D', Wtr D' b 40 (some (encM s i)) w' ∧ Off D w w' ∧ ∀ c, D' c → D c ∨ w.heap.size ≤ c := by
  have hu : IntKind.u64.wrap s = ((u64N s : Nat) : Int) := u64_wrap s
  have HE : Hid (putS 40 (putS 40 (some []) (numB (u64N s))) (numB (zig i)) = some (encM s i)) := enc_put h0 h1
  have HL : Hid ((numB (u64N s)).length ≤ 10) := numB_ten (u64N_lt s)
  have HH : Hid (Wtr D b 40 (some []) w) := hW
  have HR : Hid (-9223372036854775808 ≤ i ∧ i ≤ 9223372036854775807) := ⟨h0, h1⟩
  clear hW h0 h1
  go_enter Try.func17, Try.ntmps17
  go_wp2_with fail
  generalize hV : w.alloc (.cells #[.int .i64 s, .int .i64 i] 23) = V
  have O : Hid (Off (fun _ => False) w V) := by show Off _ _ _; rw [← hV]; exact (Off.refl _ w).alloc _
  have C0 : Hid (Cel w.heap.size 23 #[.int .i64 s, .int .i64 i] V) := by show Cel _ _ _ _; rw [← hV]; exact Cel.new w _ _
  have N0 : Hid (¬ D w.heap.size) := fun h => by have := HH.out.lt _ h; omega
  clear hV
  have W0 : Wtr D b 40 (some []) V := HH.out.off O.out (fun _ _ _ h => h)
  refine (wnum_any W0 (u64N s) (u64N_lt s) (.inl (by simp))).mono ?_
  clear W0
  rintro e w1 ⟨rfl, D1, W1, o1, d1⟩
  have C1 := C0.out.off o1 N0.out
  have c1 : w1.cell? ⟨w.heap.size, 1, none⟩ = some (.int .i64 i) := C1.cell 1
  have HW1 : Hid _ := W1
  have HO1 : Hid _ := o1
  have HD1 : Hid _ := d1
  clear C1 W1 o1 d1
  go_wp2_with fail
  refine (wint_any HW1.out i HR.out.1 HR.out.2 (.inl ?_)).mono ?_
  · have := HL.out
    rw [put_some (by simp; omega)]
    simp
    omega
  rintro e w2 ⟨rfl, D2, W2, o2, d2⟩
  rw [HE.out] at W2
  go_wp2_with fail
  first | go_end0 | refine bodyPost_ret (results_none rfl _ _ _) rfl ?_
  refine ⟨rfl, D2, W2, ?_, ?_⟩
  · refine ((O.out.mono (fun _ _ h => h.elim)).trans HO1.out (fun _ _ h => h)).trans o2 (fun c hc h => ?_)
    rcases HD1.out c h with h | h
    · exact h
    · have := O.out.size
      omega
  · intro c hc
    have s0 := O.out.size
    have s1 := HO1.out.size
    rcases d2 c hc with h | h
    · rcases HD1.out c h with h | h
      · exact .inl h
      · exact .inr (by omega)
    · exact .inr (by omega)

set_option maxHeartbeats 1000000 in
theorem mfailed_any {D : Nat → Prop} {b : Nat} {s : RS} {w : World} (hR : Rdr 53 D b s w) :
    Calls Try.prog 29 #[.pointer (some ⟨b, 0, none⟩)] w fun e w' => e = .returned (.bool (!decide (s.2 = 0))) ∧ w' = w := by
  have HR : Hid (Rdr 53 D b s w) := hR
  have hk := hR.ok.2.1
  clear hR
  rcases s with ⟨l, e⟩
  cases l with
  | nil =>
    have hen : Hid (endS (([] : List Nat), e) = e) := by show _ = _; simp [endS]
    have hx : Hid ((((e : Nat) : Int) != 0) = !decide (e = 0)) := by
      show _ = _
      by_cases h : e = 0
      · simp [h]
      · simp [h]
    clear hk
    go_enter Try.func29, Try.ntmps29
    go_wp2_with fail
    refine (rleft_any HR.out).mono ?_
    rintro e1 w1 ⟨rfl, hw⟩
    rw [hw]
    clear hw w1
    have e0 : ((([] : List Nat).length : Nat) : Int) = 0 := rfl
    rw [e0]
    clear e0
    go_wp2_with fail
    refine (rend_any HR.out).mono ?_
    rw [hen.out]
    rintro e1 w1 ⟨rfl, hw⟩
    rw [hw]
    clear hw w1
    go_wp2_with fail
    go_ret
    exact ⟨by rw [← hx.out]; rfl, rfl⟩
  | cons x l =>
    have he : e = 0 := Classical.byContradiction (fun h => by have := hk h; simp at this)
    subst he
    obtain ⟨n, hn⟩ : ∃ n, n = (x :: l).length := ⟨_, rfl⟩
    have e1 : (((n : Nat) : Int) == 0) = false := by
      rw [hn]
      simp
      omega
    have HL : Hid (Calls Try.prog 22 #[.pointer (some ⟨b, 0, none⟩)] w fun e w' => e = .returned (.int .i64 ((n : Nat) : Int)) ∧ w' = w) := by
      rw [hn]
      exact rleft_any HR.out
    clear hk hn
    go_enter Try.func29, Try.ntmps29
    go_wp2_with fail
    refine HL.out.mono ?_
    rintro e1 w1 ⟨rfl, hw⟩
    rw [hw]
    clear hw w1
    go_wp2_with fail
    go_ret
    exact ⟨rfl, rfl⟩

set_option maxHeartbeats 1000000 in
theorem mread_any {D : Nat → Prop} {b : Nat} {s : RS} {w : World} (hR : Rdr 53 D b s w) :
    Calls Try.prog 20 #[.pointer (some ⟨b, 0, none⟩)] w fun e w' => e = .returned (.tuple #[.agg #[.int .i64 (mrX s), .int .i64 (mrY s)], .bool (mrB s)]) ∧ Rdr 53 D b (mrS s) w' ∧ Off (fun c => c = b) w w' := by
  have HR : Hid (Rdr 53 D b s w) := hR
  obtain ⟨n, hn⟩ : ∃ n, n = (numS s).1 := ⟨_, rfl⟩
  obtain ⟨y, hy⟩ : ∃ y, y = (intS (numS s).2).1 := ⟨_, rfl⟩
  have hz : IntKind.i64.wrap (n : Int) = i64w n := rfl
  obtain ⟨x, hx⟩ : ∃ x, x = i64w n := ⟨_, rfl⟩
  rw [← hx] at hz
  have HX : Hid (mrX s = if mrB s = true then x else 0) := by show _ = _; rw [hx, hn]; rfl
  have HY : Hid (mrY s = if mrB s = true then y else 0) := by show _ = _; rw [hy]; rfl
  have HB : Hid (mrB s = (decide ((mrS s).2 = 0) && mayB x y)) := by show _ = _; rw [hx, hy, hn]; rfl
  have HN : Hid (n = (numS s).1) := hn
  have HY2 : Hid (y = (intS (numS s).2).1) := hy
  clear hR hn hy hx
  go_enter Try.func20, Try.ntmps20
  go_wp2_with fail
  generalize hV : w.alloc (.cells #[.int .i64 0, .int .i64 0] 23) = V
  have O : Hid (Off (fun _ => False) w V) := by show Off _ _ _; rw [← hV]; exact (Off.refl _ w).alloc _
  have C0 : Hid (Cel w.heap.size 23 #[.int .i64 0, .int .i64 0] V) := by show Cel _ _ _ _; rw [← hV]; exact Cel.new w _ _
  have NB : Hid (w.heap.size ≠ b) := fun h => by have := HR.out.here; omega
  clear hV
  have R0 := HR.out.off O.out (fun h => h) (fun _ _ _ h => h)
  refine (rnum_any R0).mono ?_
  clear R0
  rw [← HN.out]
  rintro e w1 ⟨rfl, r1, o1⟩
  have H1 : Hid _ := r1
  have O1 : Hid _ := o1
  clear r1 o1
  go_wp2_with fail
  refine (rint_any H1.out).mono ?_
  rw [← HY2.out]
  rintro e w2 ⟨rfl, r2, o2⟩
  have H2 : Hid (Rdr 53 D b (mrS s) w2) := r2
  have O2 : Hid _ := o2
  clear r2 o2
  go_wp2_with fail
  generalize hU : w2.alloc (.cells #[.int .i64 x, .int .i64 y] 23) = U
  have O3 : Hid (Off (fun _ => False) w2 U) := by show Off _ _ _; rw [← hU]; exact (Off.refl _ w2).alloc _
  have C3 : Hid (Cel w2.heap.size 23 #[.int .i64 x, .int .i64 y] U) := by show Cel _ _ _ _; rw [← hU]; exact Cel.new w2 _ _
  clear hU
  have R3 : Hid (Rdr 53 D b (mrS s) U) := H2.out.off O3.out (fun h => h) (fun _ _ _ h => h)
  have Z3 : Hid (Cel w.heap.size 23 #[.int .i64 0, .int .i64 0] U) := ((C0.out.off O1.out NB.out).off O2.out NB.out).off O3.out (fun h => h)
  have OO : Hid (Off (fun c => c = b) w U) := (((O.out.mono (fun _ _ h => h.elim)).trans O1.out (fun _ _ h => h)).trans O2.out (fun _ _ h => h)).trans O3.out (fun _ _ h => h.elim)
  clear O1 O2 O3 H1 H2 HN HY2 C0
  refine (mfailed_any R3.out).mono ?_
  cases hd : decide ((mrS s).2 = 0) with
  | false =>
    rw [hd] at HB
    clear hd
    rintro e w3 ⟨rfl, hw⟩
    rw [hw]
    clear hw w3
    have z0 := Z3.out.cell 0
    have z1 := Z3.out.cell 1
    have fz := Z3.out.free
    simp at z0 z1
    go_wp2_with fail
    refine bodyPost_ret (results_mem2 rfl rfl rfl (Z3.out.st2 _ _)) rfl ?_
    have hb : mrB s = false := HB.out
    rw [HX.out, HY.out, hb]
    exact ⟨rfl, R3.out.off (Off.st2 (D := fun c => c = w.heap.size) (Off.refl _ U) (.inl rfl) _ _) (fun h => NB.out h.symm) (fun c hc hD h => by have := HR.out.lt c hD; omega), OO.out.st2 (.inr (Nat.le_refl _)) _ _⟩
  | true =>
    rw [hd] at HB
    clear hd
    rintro e w3 ⟨rfl, hw⟩
    rw [hw]
    clear hw w3
    have y0 := C3.out.cell 0
    have y1 := C3.out.cell 1
    simp at y0 y1
    go_wp2_with fail
    refine (may_any _ _ _).mono ?_
    cases hm : mayB x y with
    | false =>
      rw [hm] at HB
      clear hm
      rintro e w4 ⟨rfl, o4⟩
      have Z4 := Z3.out.off o4 (fun h => h)
      have R4 : Hid (Rdr 53 D b (mrS s) w4) := R3.out.off o4 (fun h => h) (fun _ _ _ h => h)
      have O4 : Hid (Off (fun c => c = b) w w4) := OO.out.trans o4 (fun _ _ h => h.elim)
      have z0 := Z4.cell 0
      have z1 := Z4.cell 1
      have fz := Z4.free
      simp at z0 z1
      have HZ4 : Hid _ := Z4
      clear Z4 o4
      go_wp2_with fail
      refine bodyPost_ret (results_mem2 rfl rfl rfl (HZ4.out.st2 _ _)) rfl ?_
      have hb : mrB s = false := HB.out
      rw [HX.out, HY.out, hb]
      exact ⟨rfl, R4.out.off (Off.st2 (D := fun c => c = w.heap.size) (Off.refl _ w4) (.inl rfl) _ _) (fun h => NB.out h.symm) (fun c hc hD h => by have := HR.out.lt c hD; omega), O4.out.st2 (.inr (Nat.le_refl _)) _ _⟩
    | true =>
      rw [hm] at HB
      clear hm
      rintro e w4 ⟨rfl, o4⟩
      have Z4 := Z3.out.off o4 (fun h => h)
      have C4 := C3.out.off o4 (fun h => h)
      have R4 : Hid (Rdr 53 D b (mrS s) w4) := R3.out.off o4 (fun h => h) (fun _ _ _ h => h)
      have O4 : Hid (Off (fun c => c = b) w w4) := OO.out.trans o4 (fun _ _ h => h.elim)
      have z0 := Z4.cell 0
      have z1 := Z4.cell 1
      have k0 := C4.cell 0
      have k1 := C4.cell 1
      have fz := Z4.free
      simp at z0 z1 k0 k1
      have HZ4 : Hid _ := Z4
      clear Z4 o4 C4
      go_wp2_with fail
      refine bodyPost_ret (results_mem2 rfl rfl rfl (HZ4.out.st2 _ _)) rfl ?_
      have hb : mrB s = true := HB.out
      rw [HX.out, HY.out, hb]
      exact ⟨rfl, R4.out.off (Off.st2 (D := fun c => c = w.heap.size) (Off.refl _ w4) (.inl rfl) _ _) (fun h => NB.out h.symm) (fun c hc hD h => by have := HR.out.lt c hD; omega), O4.out.st2 (.inr (Nat.le_refl _)) _ _⟩
end Go.Proofs.Ytgnchloclkjalaa
