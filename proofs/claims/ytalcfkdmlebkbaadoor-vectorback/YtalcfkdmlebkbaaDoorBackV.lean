/- VectorBack. -/
import Derived.Test.YtalcfkdmlebkbaaDoorParseV
namespace Go.Proofs.YtalcfkdmlebkbaaDoor
open Go.RowKit

theorem rd_all {f : Nat → Int} (hr : ∀ j, j < 8 → -9223372036854775808 ≤ f j ∧ f j ≤ 9223372036854775807) : ∀ n, n ≤ 8 → ∀ r : List Nat, rdV (encV f n ++ r, 0) n = (r, 0) ∧ ∀ j, j < n → rdF (encV f n ++ r, 0) j = f j := by
  intro n
  induction n with
  | zero => intro _ r; exact ⟨rfl, fun j hj => by omega⟩
  | succ n ih =>
    intro hn r
    have e : (encV f (n + 1) ++ r, 0) = (encV f n ++ (numB (zig (f n)) ++ r), 0) := by simp [encV]
    obtain ⟨h1, h2⟩ := ih (by omega) (numB (zig (f n)) ++ r)
    have h3 := int_back (hr n (by omega)).1 (hr n (by omega)).2 r
    rw [e]
    refine ⟨?_, fun j hj => ?_⟩
    · simp only [rdV]
      rw [h1, h3]
    · rcases Nat.lt_or_ge j n with h | h
      · exact h2 j h
      · rw [show j = n by omega]
        simp only [rdF]
        rw [h1, h3]
theorem read_back {f : Nat → Int} (hr : ∀ j, j < 8 → -9223372036854775808 ≤ f j ∧ f j ≤ 9223372036854775807) : rdV (encV f 8, 0) 8 = ([], 0) ∧ readB (encV f 8, 0) = mayB f ∧ (mayB f = true → ∀ j, j < 8 → readF (encV f 8, 0) j = f j) := by
  obtain ⟨h1, h2⟩ := rd_all hr 8 (by omega) []
  rw [List.append_nil] at h1 h2
  have hm : mayB (rdF (encV f 8, 0)) = mayB f := by
    rw [Bool.eq_iff_iff]
    simp only [mayB, decide_eq_true_eq]
    constructor
    · intro h j hj
      rw [← h2 j hj]
      exact h j hj
    · intro h j hj
      rw [h2 j hj]
      exact h j hj
  have hb : readB (encV f 8, 0) = mayB f := by
    unfold readB
    rw [h1, hm]
    simp
  refine ⟨h1, hb, fun h j hj => ?_⟩
  unfold readF
  rw [hb, if_pos h, h2 j hj]
theorem told_back {f g : Nat → Int} {ok : Bool} (h : Told (textV f) g ok) : ok = mayB f ∧ (mayB f = true → ∀ j, j < 8 → g j = f j) := by
  rcases h.is with ⟨rfl, m, e⟩ | ⟨rfl, z, n⟩
  · have hj := textV_inj' e
    have : mayB f = true := by
      simp only [mayB, decide_eq_true_eq]
      intro j hj8
      rw [hj j hj8]
      exact may_at m hj8
    exact ⟨this.symm, fun _ j hj8 => (hj j hj8).symm⟩
  · have : mayB f = false := by
      cases hm : mayB f with
      | false => rfl
      | true => exact absurd rfl (n f hm)
    exact ⟨this.symm, fun h => by rw [this] at h; cases h⟩
theorem enc_lt (f : Nat → Int) : ∀ n, ∀ x ∈ encV f n, x < 256
  | 0 => by simp [encV]
  | n + 1 => by
    intro x hx
    simp only [encV, List.mem_append] at hx
    rcases hx with h | h
    · exact enc_lt f n x h
    · exact numB_lt _ x h
theorem eq_of {f g : Nat → Int} (h : ∀ j, j < 8 → f j = g j) : eqB f g = true := by simpa [eqB] using h
set_option maxRecDepth 100000 in
set_option maxHeartbeats 1000000 in
theorem back_walk (f : Nat → Int) (w : World) (ht : Tab w) (he : Errs w) (hr : ∀ j, j < 8 → -9223372036854775808 ≤ f j ∧ f j ≤ 9223372036854775807) :
    Calls Tryd.prog 8 #[.agg #[.int .i64 (f 0), .int .i64 (f 1), .int .i64 (f 2), .int .i64 (f 3), .int .i64 (f 4), .int .i64 (f 5), .int .i64 (f 6), .int .i64 (f 7)]] w fun e w' => e = .returned (.bool true) ∧ Off (fun _ => False) w w' := by
  have hnot := not_any
  have HT : Hid (∀ w', Off (fun c => w.heap.size ≤ c) w w' → Tab w') := fun w' h => ht.off h (fun _ _ h => by omega)
  have HE : Hid (∀ w', Off (fun c => w.heap.size ≤ c) w w' → Errs w') := fun w' h => he.off h (fun _ _ h => by omega)
  have HRG : Hid _ := hr
  have hel := encV_len f hr 8 (by omega)
  have hRB := read_back hr
  have htl : (textV f).length ≤ 200 := by
    rw [textV_top]
    have h1 := topV_le f
    have := textL_len f hr (topV f) h1.2
    omega
  clear ht he hr
  obtain ⟨en, hen⟩ : ∃ en, en = encV f 8 := ⟨_, rfl⟩
  rw [← hen] at hel hRB
  have HEN : Hid _ := hen
  have HRB : Hid _ := hRB
  clear hen hRB
  go_enter Tryd.func8, Tryd.ntmps8
  go_wp2_with fail
  obtain ⟨w0, hw0⟩ : ∃ w0, w0 = w.alloc (.cells #[.int .i64 (f 0), .int .i64 (f 1), .int .i64 (f 2), .int .i64 (f 3), .int .i64 (f 4), .int .i64 (f 5), .int .i64 (f 6), .int .i64 (f 7)] 23) := ⟨_, rfl⟩
  have C0 : Cel w.heap.size 23 #[.int .i64 (f 0), .int .i64 (f 1), .int .i64 (f 2), .int .i64 (f 3), .int .i64 (f 4), .int .i64 (f 5), .int .i64 (f 6), .int .i64 (f 7)] w0 := by rw [hw0]; exact Cel.new w _ _
  have o0 : Off (fun _ => False) w w0 := by rw [hw0]; exact (Off.refl _ w).alloc _
  rw [← hw0]
  clear hw0
  have hq0 : w.heap.size < w0.heap.size := C0.lt
  obtain ⟨q0, hq⟩ : ∃ q0, q0 = w.heap.size := ⟨_, rfl⟩
  rw [← hq] at C0 hq0 ⊢
  have hqa : w.heap.size ≤ q0 := by omega
  clear hq
  refine (newWriter_any 200 (by decide) w0).mono ?_
  rintro e w1 ⟨rfl, hW, o1⟩
  rw [show (200 : Int).toNat = 200 from rfl] at hW
  have hw1 : w0.heap.size < w1.heap.size := hW.lt _ rfl
  obtain ⟨bw, hbw⟩ : ∃ bw, bw = w0.heap.size := ⟨_, rfl⟩
  rw [← hbw] at hW ⊢
  have hbwa : w0.heap.size ≤ bw := by omega
  have hbwb : bw < w1.heap.size := by omega
  clear hbw hw1
  have C1 := C0.off o1 (fun h => h)
  have O1 := o0.trans o1 (fun _ _ h => h)
  have HW : Hid _ := hW
  have HC1 : Hid _ := C1
  clear hW C1 C0 o0 o1
  have hn0 : q0 ≠ bw := by omega
  obtain ⟨c0, c1, c2, c3, c4, c5, c6, c7⟩ := cel8 HC1.out
  go_wp2_with fail
  clear c0 c1 c2 c3 c4 c5 c6 c7
  refine (vwrite_any HW.out f HRG.out).mono ?_
  rw [← HEN.out]
  rintro e w3 ⟨rfl, D3, X3, o3, hD3⟩
  have C3 := HC1.out.off o3 (fun h => hn0 h)
  have O3 : Off (fun c => w.heap.size ≤ c) w w3 := (O1.mono (fun _ _ h => h.elim)).trans o3 (fun _ _ h => by omega)
  have HX3 : Hid _ := X3
  have HC3 : Hid _ := C3
  clear X3 hD3 C3 HW HC1 O1 o3
  go_wp2_with fail
  refine (done_any HX3.out (by simp; omega)).mono ?_
  rintro e w5 ⟨t5, k5, rfl, own5, hb5, o5⟩
  rw [show ((errW (some en) : Nat) : Int) = 0 from rfl]
  simp only [Option.getD_some] at own5 ⊢
  have C5 := HC3.out.off o5 (fun h => h)
  have O5 : Off (fun c => w.heap.size ≤ c) w w5 := O3.trans o5 (fun _ _ h => h.elim)
  have HC5 : Hid _ := C5
  have HO5 : Hid _ := own5
  have hblt : Hid (∀ x ∈ en, x < 256) := by
    show ∀ x ∈ en, x < 256
    rw [HEN.out]
    exact enc_lt f 8
  clear C5 own5 hb5 HX3 HC3 O3 o5
  go_wp2_with fail
  refine (newReader_any t5 k5 en (by omega) hblt.out w5 HO5.out.src).mono ?_
  rintro e W ⟨rb, Dr, rfl, hrb, hDlo, R, o6⟩
  have C6 := HC5.out.off o6 (fun h => h)
  have O6 : Off (fun c => w.heap.size ≤ c) w W := O5.trans o6 (fun _ _ h => h.elim)
  have hq5 := HC5.out.lt
  have hw5 := O5.size
  have HC6 : Hid _ := C6
  have HR : Hid (Rdr 69 Dr rb (en, 0) W) := R
  have hnr : q0 ≠ rb := by omega
  clear C6 R O5 HC5 HO5 o6 hDlo
  obtain ⟨RA, RB, RC⟩ := HRB.out
  have VR := vread_any HR.out
  obtain ⟨F, hF⟩ : ∃ F, F = readF (en, 0) := ⟨_, rfl⟩
  rw [RA, RB, ← hF] at VR
  rw [← hF] at RC
  have HRC : Hid _ := RC
  have HVR : Hid _ := VR
  clear RA RB RC VR hF HRB
  go_wp2_with fail
  refine Calls.mono HVR.out ?_
  rintro e v6 ⟨rfl, R6, o8⟩
  have C8 := HC6.out.off o8 (fun h => hnr h)
  have O8 : Off (fun c => w.heap.size ≤ c) w v6 := O6.trans o8 (fun _ _ h => by omega)
  have HC8 : Hid _ := C8
  have HR8 : Hid _ := R6
  clear C8 R6 HC6 O6 o8 HR HVR
  obtain ⟨c0, c1, c2, c3, c4, c5, c6, c7⟩ := cel8 (HC8.out.alloc (.cells #[.int .i64 (F 0), .int .i64 (F 1), .int .i64 (F 2), .int .i64 (F 3), .int .i64 (F 4), .int .i64 (F 5), .int .i64 (F 6), .int .i64 (F 7)] 23))
  go_wp2_with fail
  clear c0 c1 c2 c3 c4 c5 c6 c7
  obtain ⟨V1, hV1⟩ : ∃ V1, V1 = v6.alloc (.cells #[.int .i64 (F 0), .int .i64 (F 1), .int .i64 (F 2), .int .i64 (F 3), .int .i64 (F 4), .int .i64 (F 5), .int .i64 (F 6), .int .i64 (F 7)] 23) := ⟨_, rfl⟩
  have oo : Off (fun _ => False) v6 V1 := by rw [hV1]; exact (Off.refl _ v6).alloc _
  have G7 : Cel v6.heap.size 23 #[.int .i64 (F 0), .int .i64 (F 1), .int .i64 (F 2), .int .i64 (F 3), .int .i64 (F 4), .int .i64 (F 5), .int .i64 (F 6), .int .i64 (F 7)] V1 := by rw [hV1]; exact Cel.new v6 _ _
  rw [← hV1]
  clear hV1
  generalize v6.heap.size = q7 at G7 ⊢
  have O9 : Off (fun c => w.heap.size ≤ c) w V1 := O8.trans oo (fun _ _ h => h.elim)
  have C9 := HC8.out.off oo (fun h => h)
  have R9 := HR8.out.off oo (fun h => h) (fun _ _ _ h => h)
  clear HC8 HR8 O8 oo
  refine (text_any f HRG.out _ (HT.out _ O9)).mono ?_
  rintro e V2 ⟨rfl, o2⟩
  have O10 : Off (fun c => w.heap.size ≤ c) w V2 := O9.trans o2 (fun _ _ h => h.elim)
  have C10 := C9.off o2 (fun h => h)
  have R10 := R9.off o2 (fun h => h) (fun _ _ _ h => h)
  have G10 := G7.off o2 (fun h => h)
  clear C9 R9 G7 o2 O9
  obtain ⟨tx, htx⟩ : ∃ tx, tx = textV f := ⟨_, rfl⟩
  rw [← htx] at htl ⊢
  have PV := parse_any tx (by omega) V2 (HT.out _ O10) (HE.out _ O10)
  rw [htx] at PV
  rw [← htx] at PV
  have HTX : Hid _ := htx
  clear htx
  go_wp2_with fail
  refine Calls.mono PV ?_
  rintro e V3 ⟨o3, g, ok, rfl, told⟩
  rw [HTX.out] at told
  obtain ⟨t1, t2⟩ := told_back told
  rw [t1]
  have HT2 : Hid _ := t2
  have O11 : Off (fun c => w.heap.size ≤ c) w V3 := O10.trans o3 (fun _ _ h => h.elim)
  have C11 := C10.off o3 (fun h => h)
  have R11 := R10.off o3 (fun h => h) (fun _ _ _ h => h)
  have G11 := G10.off o3 (fun h => h)
  clear C10 R10 G10 o3 O10 PV told t1 t2 ok
  obtain ⟨c0, c1, c2, c3, c4, c5, c6, c7⟩ := cel8 (C11.alloc (.cells #[.int .i64 (g 0), .int .i64 (g 1), .int .i64 (g 2), .int .i64 (g 3), .int .i64 (g 4), .int .i64 (g 5), .int .i64 (g 6), .int .i64 (g 7)] 23))
  go_wp2_with fail
  clear c0 c1 c2 c3 c4 c5 c6 c7
  obtain ⟨V4, hV4⟩ : ∃ V4, V4 = V3.alloc (.cells #[.int .i64 (g 0), .int .i64 (g 1), .int .i64 (g 2), .int .i64 (g 3), .int .i64 (g 4), .int .i64 (g 5), .int .i64 (g 6), .int .i64 (g 7)] 23) := ⟨_, rfl⟩
  have oo : Off (fun _ => False) V3 V4 := by rw [hV4]; exact (Off.refl _ V3).alloc _
  have G9 : Cel V3.heap.size 23 #[.int .i64 (g 0), .int .i64 (g 1), .int .i64 (g 2), .int .i64 (g 3), .int .i64 (g 4), .int .i64 (g 5), .int .i64 (g 6), .int .i64 (g 7)] V4 := by rw [hV4]; exact Cel.new V3 _ _
  rw [← hV4]
  clear hV4
  generalize V3.heap.size = q9 at G9 ⊢
  have O12 : Off (fun c => w.heap.size ≤ c) w V4 := O11.trans oo (fun _ _ h => h.elim)
  have C12 := C11.off oo (fun h => h)
  have R12 := R11.off oo (fun h => h) (fun _ _ _ h => h)
  have G12 := G11.off oo (fun h => h)
  clear C11 R11 G11 oo O11
  refine (may_any f _).mono ?_
  rintro e V5 ⟨rfl, o5⟩
  have O : Off (fun c => w.heap.size ≤ c) w V5 := O12.trans o5 (fun _ _ h => h.elim)
  have C := C12.off o5 (fun h => h)
  have R := R12.off o5 (fun h => h) (fun _ _ _ h => h)
  have G := G12.off o5 (fun h => h)
  have GG := G9.off o5 (fun h => h)
  clear C12 R12 G12 G9 o5 O12
  have HRR : Hid _ := R
  clear R
  by_cases hm : mayB f = true
  · rw [hm]
    have e1 := eql_vec F f
    rw [eq_of (HRC.out hm)] at e1
    have e2 := eql_vec g f
    rw [eq_of (HT2.out hm)] at e2
    clear hm
    obtain ⟨c0, c1, c2, c3, c4, c5, c6, c7⟩ := cel8 C
    obtain ⟨d0, d1, d2, d3, d4, d5, d6, d7⟩ := cel8 G
    obtain ⟨k0, k1, k2, k3, k4, k5, k6, k7⟩ := cel8 GG
    go_wp2_with fail
    clear c0 c1 c2 c3 c4 c5 c6 c7 d0 d1 d2 d3 d4 d5 d6 d7 k0 k1 k2 k3 k4 k5 k6 k7
    refine (rend_any HRR.out).mono ?_
    rw [show ((endS ([], 0) : Nat) : Int) = 0 from rfl]
    rintro e V6 ⟨rfl, hw⟩
    rw [hw]
    clear hw V6
    obtain ⟨c0, c1, c2, c3, c4, c5, c6, c7⟩ := cel8 C
    obtain ⟨k0, k1, k2, k3, k4, k5, k6, k7⟩ := cel8 GG
    go_wp2_with fail
    refine (awake_any _ (HT.out _ O)).mono ?_
    rintro e V7 ⟨rfl, o7⟩
    go_wp2_with fail
    go_ret
    exact ⟨rfl, (O.mono (fun i hi h => by omega)).trans o7 (fun _ _ h => h)⟩
  · have hm : mayB f = false := by simpa using hm
    rw [hm]
    go_wp2_with fail
    refine (awake_any _ (HT.out _ O)).mono ?_
    rintro e V7 ⟨rfl, o7⟩
    go_wp2_with fail
    go_ret
    exact ⟨rfl, (O.mono (fun i hi h => by omega)).trans o7 (fun _ _ h => h)⟩
end Go.Proofs.YtalcfkdmlebkbaaDoor
