/- The reference's ParseKey. -/
import Derived.Test.YtdkmnnihgobmoaaPar9
namespace Go.Proofs.Ytdkmnnihgobmoaa
open Go.RowKit

/-- What every key of this text goes on with behind the bytes that are read. -/
def Way (l ys : List Nat) (j : Nat) : Prop := (∀ x ∈ ys, x < 256) ∧ ∀ k, (∀ x ∈ k, x < 256) → txt k = l → ∃ k2, k = ys ++ k2 ∧ txt k2 = l.drop j ∧ ∀ x ∈ k2, x < 256
theorem way_start (l : List Nat) : Way l [] 0 := ⟨by simp, fun k hk e => ⟨k, rfl, e, hk⟩⟩
theorem drop_at {l : List Nat} {j : Nat} (h : j < l.length) : l.drop j = l.getD j 0 :: l.drop (j + 1) := by
  rw [List.drop_eq_getElem_cons h]
  congr 1
  rw [List.getD_eq_getElem?_getD, List.getElem?_eq_getElem h]
  rfl
theorem way_plain {l ys : List Nat} {j c : Nat} (h : Way l ys j) (hj : j < l.length) (hc : l.getD j 0 = c) (hc8 : c < 256) (h37 : c ≠ 37) : Way l (ys ++ [c]) (j + 1) := by
  refine ⟨fun x hx => ?_, fun k hk e => ?_⟩
  · rcases List.mem_append.1 hx with hx | hx
    · exact h.1 x hx
    · simp at hx
      omega
  · obtain ⟨k2, rfl, e2, h2⟩ := h.2 k hk e
    rw [drop_at hj, hc] at e2
    cases k2 with
    | nil => cases e2
    | cons x k3 =>
      rw [txt_cons] at e2
      cases hp : pl x
      · rw [t1_no hp] at e2
        simp at e2
        exact absurd e2.1.symm h37
      · rw [t1_pl hp] at e2
        simp only [List.cons_append, List.nil_append, List.cons.injEq] at e2
        obtain ⟨rfl, e3⟩ := e2
        exact ⟨k3, by simp, e3, fun y hy => h2 y (by simp [hy])⟩
theorem way_mark {l ys : List Nat} {j : Nat} (h : Way l ys j) (hj : j < l.length) (hc : l.getD j 0 = 37) : ∀ k, (∀ x ∈ k, x < 256) → txt k = l → ∃ x k3, k = ys ++ x :: k3 ∧ x < 256 ∧ (∀ y ∈ k3, y < 256) ∧ l.drop (j + 1) = hx (x / 16) :: hx (x % 16) :: txt k3 := by
  intro k hk e
  obtain ⟨k2, rfl, e2, h2⟩ := h.2 k hk e
  rw [drop_at hj, hc] at e2
  cases k2 with
  | nil => cases e2
  | cons x k3 =>
    rw [txt_cons] at e2
    cases hp : pl x
    · rw [t1_no hp] at e2
      simp only [List.cons_append, List.nil_append, List.cons.injEq, true_and] at e2
      exact ⟨x, k3, rfl, h2 x (by simp), fun y hy => h2 y (by simp [hy]), e2.symm⟩
    · rw [t1_pl hp] at e2
      simp only [List.cons_append, List.nil_append, List.cons.injEq] at e2
      rw [e2.1, pl_37] at hp
      cases hp
theorem way_short {l ys : List Nat} {j : Nat} (h : Way l ys j) (hj : j < l.length) (hc : l.getD j 0 = 37) (hl : l.length ≤ j + 2) : Told l ⟨#[]⟩ false := by
  refine ⟨.inr ⟨rfl, rfl, fun k hk e => ?_⟩⟩
  obtain ⟨x, k3, -, -, -, e2⟩ := way_mark h hj hc k hk e
  have := congrArg List.length e2
  simp at this
  omega
theorem drop2 {l : List Nat} {j : Nat} (h : j + 2 < l.length) : l.drop (j + 1) = l.getD (j + 1) 0 :: l.getD (j + 2) 0 :: l.drop (j + 3) := by
  rw [drop_at (by omega), drop_at h]
theorem way_bad {l ys : List Nat} {j a b : Nat} (h : Way l ys j) (hj : j + 2 < l.length) (hc : l.getD j 0 = 37) (ha : l.getD (j + 1) 0 = a) (hb : l.getD (j + 2) 0 = b) (hn : ¬ (dgB a = true ∧ dgB b = true)) : Told l ⟨#[]⟩ false := by
  refine ⟨.inr ⟨rfl, rfl, fun k hk e => ?_⟩⟩
  obtain ⟨x, k3, -, hx, -, e2⟩ := way_mark h (by omega) hc k hk e
  rw [drop2 hj, ha, hb] at e2
  simp only [List.cons.injEq] at e2
  exact hn ⟨by rw [e2.1]; exact (hx_dg (by omega)).1, by rw [e2.2.1]; exact (hx_dg (by omega)).1⟩
theorem way_ok {l ys : List Nat} {j a b : Nat} (h : Way l ys j) (hj : j + 2 < l.length) (hc : l.getD j 0 = 37) (ha : l.getD (j + 1) 0 = a) (hb : l.getD (j + 2) 0 = b) : Way l (ys ++ [16 * dg a + dg b]) (j + 3) := by
  have la := dg_lt a
  have lb := dg_lt b
  refine ⟨fun x hx => ?_, fun k hk e => ?_⟩
  · rcases List.mem_append.1 hx with hx | hx
    · exact h.1 x hx
    · simp at hx
      omega
  · obtain ⟨x, k3, rfl, hx, h3, e2⟩ := way_mark h (by omega) hc k hk e
    rw [drop2 hj, ha, hb] at e2
    simp only [List.cons.injEq] at e2
    have e3 : dg a = x / 16 := by rw [e2.1]; exact (hx_dg (by omega)).2
    have e4 : dg b = x % 16 := by rw [e2.2.1]; exact (hx_dg (by omega)).2
    refine ⟨k3, ?_, e2.2.2.symm, h3⟩
    rw [e3, e4, show 16 * (x / 16) + x % 16 = x by omega]
    simp
theorem way_end {l ys : List Nat} {j : Nat} (h : Way l ys j) (hj : l.length ≤ j) (hn : txt ys ≠ l) : Told l ⟨#[]⟩ false := by
  refine ⟨.inr ⟨rfl, rfl, fun k hk e => ?_⟩⟩
  obtain ⟨k2, rfl, e2, -⟩ := h.2 k hk e
  rw [List.drop_of_length_le hj] at e2
  rw [txt_nil e2, List.append_nil] at e
  exact hn e
theorem hex_ok {c : Nat} (hc : c < 256) (h : dgB c = true) (w : World) : Calls Try.prog 24 #[.int .u8 (c : Int)] w fun e w' => e = .returned (.int .i64 (dg c : Nat)) ∧ w' = w := by
  have := hex_any c hc w
  rw [hexI, if_pos h] at this
  exact this
theorem hex_no {c : Nat} (hc : c < 256) (h : dgB c = false) (w : World) : Calls Try.prog 24 #[.int .u8 (c : Int)] w fun e w' => e = .returned (.int .i64 (-1)) ∧ w' = w := by
  have := hex_any c hc w
  rw [hexI, if_neg (by rw [h]; decide)] at this
  exact this

set_option maxRecDepth 100000 in
set_option maxHeartbeats 2000000 in
theorem parsekey_any (s : ByteArray) (hs : s.size ≤ 140737488351232) (w : World) :
    Calls Try.prog 19 #[.string s] w fun e w' => ∃ (r : ByteArray) (ok : Bool), e = .returned (.tuple #[.string r, .bool ok]) ∧ Told (tx s) r ok ∧ Off (fun _ => False) w w' := by
  have hl := tx_len s
  have HL : Hid _ := hl
  have hnot := not_any
  clear hl
  go_enter Try.func19, Try.ntmps19
  go_wp2
  go_loopw [4, 5] (fun l i wr => ∃ (j : Nat) (t : Option Addr) (c : Nat) (ys : List Nat), j ≤ s.size ∧ ys.length ≤ j ∧ i = .int .i64 j ∧ l = .slice t ys.length c ∧ Hid (Way (tx s) ys j) ∧ OwnR wr t c ys ∧ Off (fun _ => False) w wr ∧ ∀ k, blk t = some k → w.heap.size ≤ k) (fun _ i _ => (s.size - intOf i).toNat)
  case atStart => exact ⟨0, none, 0, [], by omega, by simp, rfl, rfl, (way_start _ : Way (tx s) [] 0), OwnR.nil _, Off.refl _ _, by simp [blk]⟩
  case round =>
    obtain ⟨j, t, c, ys, hj, hyj, rfl, rfl, WAY, own, off, hfr⟩ := hrel
    have OWN : Hid _ := own
    have OFF : Hid _ := off
    have FR : Hid _ := hfr
    clear own off hfr
    by_cases hlt : j < s.size
    · have i0 := idx_any s (i := j) (by rw [HL.out]; exact hlt) .i64
      have l0 := tx_at s (i := j) (by rw [HL.out]; exact hlt)
      obtain ⟨x, hxx⟩ : ∃ x, x = (tx s).getD j 0 := ⟨_, rfl⟩
      rw [← hxx] at i0 l0
      by_cases h37 : x = 37
      · subst h37
        have HC : Hid _ := hxx
        clear hxx l0
        by_cases h2 : s.size ≤ j + 2
        · have d2 : decide ((s.size : Int) ≤ (j : Int) + 2) = true := decide_eq_true (by omega)
          have NO : Hid _ := way_short WAY.out (by rw [HL.out]; exact hlt) HC.out.symm (by rw [HL.out]; omega)
          go_wp2_with fail
          go_ret2
          exact ⟨⟨#[]⟩, false, rfl, NO.out, OFF.out⟩
        · have d2 : decide ((s.size : Int) ≤ (j : Int) + 2) = false := decide_eq_false (by omega)
          have i1 := idx_any s (i := j + 1) (by rw [HL.out]; omega) .i64
          have l1 := tx_at s (i := j + 1) (by rw [HL.out]; omega)
          have i2 := idx_any s (i := j + 2) (by rw [HL.out]; omega) .i64
          have l2 := tx_at s (i := j + 2) (by rw [HL.out]; omega)
          obtain ⟨x1, hx1⟩ : ∃ x1, x1 = (tx s).getD (j + 1) 0 := ⟨_, rfl⟩
          obtain ⟨x2, hx2⟩ : ∃ x2, x2 = (tx s).getD (j + 2) 0 := ⟨_, rfl⟩
          rw [← hx1] at i1 l1
          rw [← hx2] at i2 l2
          have i1 : ∀ W, (Instr.index 9 (.string s) (.int .i64 ((j : Int) + 1))).run Try.prog W = .ok (.int .u8 (x1 : Int)) W := i1
          have i2 : ∀ W, (Instr.index 9 (.string s) (.int .i64 ((j : Int) + 2))).run Try.prog W = .ok (.int .u8 (x2 : Int)) W := i2
          have H1 : Hid _ := hx1
          have H2 : Hid _ := hx2
          clear hx1 hx2
          cases hd1 : dgB x1 with
          | false =>
            have NO : Hid _ := way_bad WAY.out (by rw [HL.out]; omega) HC.out.symm H1.out.symm H2.out.symm (by rw [hd1]; simp)
            have HX1 : Hid _ := hex_no l1 hd1
            clear hd1
            go_wp2_with fail
            refine Calls.mono (HX1.out _) ?_
            rintro e w1 ⟨rfl, hw⟩
            rw [hw]
            clear hw w1
            go_wp2_with fail
            go_ret2
            exact ⟨⟨#[]⟩, false, rfl, NO.out, OFF.out⟩
          | true =>
            have hx1 := hex_ok l1 hd1
            obtain ⟨A, hA⟩ : ∃ A, A = dg x1 := ⟨_, rfl⟩
            have lA := dg_lt x1
            rw [← hA] at hx1 lA
            have HX1 : Hid _ := hx1
            have dA : decide ((A : Int) < 0) = false := decide_eq_false (by omega)
            clear hx1
            cases hd2 : dgB x2 with
            | false =>
              have NO : Hid _ := way_bad WAY.out (by rw [HL.out]; omega) HC.out.symm H1.out.symm H2.out.symm (by rw [hd2]; simp)
              have HX2 : Hid _ := hex_no l2 hd2
              clear hd1 hd2 hA
              go_wp2_with fail
              refine Calls.mono (HX1.out _) ?_
              rintro e w1 ⟨rfl, hw⟩
              rw [hw]
              clear hw w1
              go_wp2_with fail
              refine Calls.mono (HX2.out _) ?_
              rintro e w1 ⟨rfl, hw⟩
              rw [hw]
              clear hw w1
              go_wp2_with fail
              go_ret2
              exact ⟨⟨#[]⟩, false, rfl, NO.out, OFF.out⟩
            | true =>
              have hx2 := hex_ok l2 hd2
              obtain ⟨B, hB⟩ : ∃ B, B = dg x2 := ⟨_, rfl⟩
              have lB := dg_lt x2
              rw [← hB] at hx2 lB
              have HX2 : Hid _ := hx2
              have dB : decide ((B : Int) < 0) = false := decide_eq_false (by omega)
              clear hx2
              obtain ⟨b, hb⟩ : ∃ b, b = 16 * A + B := ⟨_, rfl⟩
              have HBI : Hid (16 * (A : Int) + (B : Int) = (b : Int)) := show 16 * (A : Int) + (B : Int) = (b : Int) by omega
              have lb : b < 256 := by omega
              have NEW : Hid (Way (tx s) (ys ++ [b]) (j + 3)) := by
                rw [hb, hA, hB]
                exact way_ok WAY.out (by rw [HL.out]; omega) HC.out.symm H1.out.symm H2.out.symm
              clear hd1 hd2 hA hB hb
              go_wp2_with fail
              refine Calls.mono (HX1.out _) ?_
              rintro e w1 ⟨rfl, hw⟩
              rw [hw]
              clear hw w1
              go_wp2_with fail
              refine Calls.mono (HX2.out _) ?_
              rintro e w1 ⟨rfl, hw⟩
              rw [hw]
              clear hw w1
              go_wp2_with fail
              refine wp_region_held_drew (S := fun w' => Off (fun c => blk t = some c) wr w') (by kernel_rfl) ((Off.refl _ wr).drew) (fun hS => ?_)
              have hS0 : Off (fun _ => False) wr wr.drew := (Off.refl _ wr).drew
              generalize wr.drew = W0 at hS hS0 ⊢
              refine take_at (i := 0) 43 (v := .slice t ys.length c) rfl rfl (by kernel_rfl) (by kernel_rfl) (by kernel_rfl) (fun _ _ _ h => h) (Or.inl ⟨by rfl, fun w' hw' => by go_simp⟩) hS ?_
              simp only [Act.put, List.setIfInBounds_toArray, List.set_cons_zero, List.set_cons_succ]
              refine take_at (i := 1) 44 (v := .string s) rfl rfl (by kernel_rfl) (by kernel_rfl) (by kernel_rfl) (fun _ _ _ h => h) (Or.inl ⟨by rfl, fun w' hw' => by go_simp⟩) hS ?_
              simp only [Act.put, List.setIfInBounds_toArray, List.set_cons_zero, List.set_cons_succ]
              refine take_at (i := 2) 45 (v := .int .i64 (j : Int)) rfl rfl (by kernel_rfl) (by kernel_rfl) (by kernel_rfl) (fun _ _ _ h => h) (Or.inl ⟨by rfl, fun w' hw' => by go_simp⟩) hS ?_
              simp only [Act.put, List.setIfInBounds_toArray, List.set_cons_zero, List.set_cons_succ]
              refine take_at (i := 3) 46 (v := .int .i64 ((j : Int) + 1)) rfl rfl (by kernel_rfl) (by kernel_rfl) (by kernel_rfl) (fun _ _ _ h => h) (Or.inl ⟨by rfl, fun w' hw' => by go_simp; rw [IntKind.wrap_i64]; omega⟩) hS ?_
              simp only [Act.put, List.setIfInBounds_toArray, List.set_cons_zero, List.set_cons_succ]
              refine take_at (i := 4) 47 (v := .int .u8 (x1 : Int)) rfl rfl (by kernel_rfl) (by kernel_rfl) (by kernel_rfl) (fun _ _ _ h => h) (Or.inl ⟨by rfl, fun w' hw' => by have h9 := i1 w'; go_simp⟩) hS ?_
              simp only [Act.put, List.setIfInBounds_toArray, List.set_cons_zero, List.set_cons_succ]
              refine take_at (i := 7) 50 (v := .string s) rfl rfl (by kernel_rfl) (by kernel_rfl) (by kernel_rfl) (fun _ _ _ h => h) (Or.inl ⟨by rfl, fun w' hw' => by go_simp⟩) hS ?_
              simp only [Act.put, List.setIfInBounds_toArray, List.set_cons_zero, List.set_cons_succ]
              refine take_at (i := 8) 51 (v := .int .i64 (j : Int)) rfl rfl (by kernel_rfl) (by kernel_rfl) (by kernel_rfl) (fun _ _ _ h => h) (Or.inl ⟨by rfl, fun w' hw' => by go_simp⟩) hS ?_
              simp only [Act.put, List.setIfInBounds_toArray, List.set_cons_zero, List.set_cons_succ]
              refine take_at (i := 9) 52 (v := .int .i64 ((j : Int) + 2)) rfl rfl (by kernel_rfl) (by kernel_rfl) (by kernel_rfl) (fun _ _ _ h => h) (Or.inl ⟨by rfl, fun w' hw' => by go_simp; rw [IntKind.wrap_i64]; omega⟩) hS ?_
              simp only [Act.put, List.setIfInBounds_toArray, List.set_cons_zero, List.set_cons_succ]
              refine take_at (i := 10) 53 (v := .int .u8 (x2 : Int)) rfl rfl (by kernel_rfl) (by kernel_rfl) (by kernel_rfl) (fun _ _ _ h => h) (Or.inl ⟨by rfl, fun w' hw' => by have h9 := i2 w'; go_simp⟩) hS ?_
              simp only [Act.put, List.setIfInBounds_toArray, List.set_cons_zero, List.set_cons_succ]
              refine wpAnyH_ready (rs := [5]) (by kernel_rfl) (by simp) ?_
              refine AllReadyH.cons rfl (fun K' hK' => ?_) AllReadyH.nil
              go_simp
              refine Calls.mono (HX1.out _) ?_
              rintro e W1 ⟨rfl, hw⟩
              rw [hw]
              clear hw W1
              refine hK'.out _ _ hS (fun hS => ?_)
              clear hK' K'
              refine take_at (i := 6) 49 (v := .int .i64 (16 * (A : Int))) rfl rfl (by kernel_rfl) (by kernel_rfl) (by kernel_rfl) (fun _ _ _ h => h) (Or.inl ⟨by rfl, fun w' hw' => by go_simp; rw [IntKind.wrap_i64]; omega⟩) hS ?_
              simp only [Act.put, List.setIfInBounds_toArray, List.set_cons_zero, List.set_cons_succ]
              refine wpAnyH_ready (rs := [11]) (by kernel_rfl) (by simp) ?_
              refine AllReadyH.cons rfl (fun K' hK' => ?_) AllReadyH.nil
              go_simp
              refine Calls.mono (HX2.out _) ?_
              rintro e W1 ⟨rfl, hw⟩
              rw [hw]
              clear hw W1
              refine hK'.out _ _ hS (fun hS => ?_)
              clear hK' K'
              refine take_at (i := 12) 55 (v := .int .i64 (16 * (A : Int) + (B : Int))) rfl rfl (by kernel_rfl) (by kernel_rfl) (by kernel_rfl) (fun _ _ _ h => h) (Or.inl ⟨by rfl, fun w' hw' => by go_simp; rw [IntKind.wrap_i64]; omega⟩) hS ?_
              simp only [Act.put, List.setIfInBounds_toArray, List.set_cons_zero, List.set_cons_succ]
              refine take_at (i := 13) 56 (v := .int .u8 (b : Int)) rfl rfl (by kernel_rfl) (by kernel_rfl) (by kernel_rfl) (fun _ _ _ h => h) (Or.inl ⟨by rfl, fun w' hw' => by have h9 := HBI.out; go_simp; rw [IntKind.wrap_u8]; omega⟩) hS ?_
              simp only [Act.put, List.setIfInBounds_toArray, List.set_cons_zero, List.set_cons_succ]
              refine wpAnyH_ready (rs := [14]) (by kernel_rfl) (by simp) ?_
              refine AllReadyH.cons rfl (fun K' hK' => ?_) AllReadyH.nil
              go_simp
              refine hK'.out _ _ (hS.alloc _) (fun hS => ?_)
              clear hK' K'
              have S3 := src_new W0 b
              have OW := (OWN.out.off hS0 (fun _ _ _ h => h)).off ((Off.refl (fun _ => False) W0).alloc (.cells #[.int .u8 (b : Int)] 5)) (fun _ _ _ h => h)
              obtain ⟨t3, c3, W3, hr, own3, o3, at3⟩ := app_run OW S3 (by simp; omega) 27
              have O3 : Off (fun c => blk t = some c) wr W3 := hS.trans o3 (fun _ _ h => h)
              refine wpAnyH_ready (rs := [15]) (by kernel_rfl) (by simp) ?_
              refine AllReadyH.cons rfl (fun K' hK' => ?_) AllReadyH.nil
              refine wp_append_if rfl (.tmp 43) (.tmp 57) rfl rfl rfl hr 58 rfl ?_
              simp only [Act.put, List.setIfInBounds_toArray, List.set_cons_zero, List.set_cons_succ]
              obtain ⟨zs, hzs⟩ : ∃ zs, zs = ys ++ [b] := ⟨_, rfl⟩
              rw [← hzs] at own3 NEW ⊢
              have hzl : zs.length ≤ j + 1 := by rw [hzs, List.length_append]; simp; omega
              clear hzs
              have OW3 : Hid _ := own3
              clear own3
              refine hK'.out _ _ O3 (fun hS => ?_)
              clear hK' K' hr O3 o3
              refine take_at (i := 16) 4 (v := .slice t3 zs.length c3) rfl rfl (by kernel_rfl) (by kernel_rfl) (by kernel_rfl) (fun _ _ _ h => h) (Or.inl ⟨by rfl, fun w' hw' => by go_simp⟩) hS ?_
              simp only [Act.put, List.setIfInBounds_toArray, List.set_cons_zero, List.set_cons_succ]
              refine wpAnyH_done (by kernel_rfl) ?_ _
              have OFF3 : Hid (Off (fun _ => False) w W3) := ((OFF.out.mono (E := fun c => w.heap.size ≤ c) (fun _ _ h => h.elim)).trans hS (fun k _ h => FR.out k h)).mono (fun i hi h => by omega)
              have FR3 : Hid (∀ k, blk t3 = some k → w.heap.size ≤ k) := fun k hk => by
                have := OFF.out.size
                have := hS0.size
                rcases at3 with e | e
                · exact FR.out k (e ▸ hk)
                · rw [e] at hk
                  simp at hk
                  omega
              clear at3 hS hS0 OW S3
              go_wp2_with fail
              go_roundw
              case rel => exact ⟨j + 3, t3, c3, zs, by omega, by omega, by go_num, rfl, NEW, OW3.out, OFF3.out, FR3.out⟩
              case measure => simp [intOf]; omega
      · have d37 : ((x : Int) == 37) = false := by rw [beq_eq_false_iff_ne]; omega
        have NEW : Hid _ := way_plain WAY.out (by rw [HL.out]; exact hlt) hxx.symm l0 h37
        have S1 := src_new wr x
        clear hxx h37
        go_wp2_with (at_builtin; refine wpList_app rfl (.tmp 16) (.tmp 20) rfl t c ys rfl (OWN.out.off ((Off.refl (fun _ => False) wr).alloc _) (fun _ _ _ h => h)) (some ⟨wr.heap.size, 0, none⟩) 1 [x] rfl S1 (by simp; omega) ?_; intro t2 c2 w2 zs hzs own2 off2 at2)
        have hzl : zs.length ≤ j + 1 := by rw [hzs.out, List.length_append]; simp; omega
        rw [← hzs.out] at NEW
        have OFF2 : Hid (Off (fun _ => False) w w2) := ((OFF.out.alloc _).mono (E := fun c => w.heap.size ≤ c) (fun _ _ h => h.elim)).trans off2 (fun k _ h => FR.out k h) |>.mono (fun i hi h => by omega)
        have FR2 : Hid (∀ k, blk t2 = some k → w.heap.size ≤ k) := fun k hk => by
          have := OFF.out.size
          rcases at2 with e | e
          · exact FR.out k (e ▸ hk)
          · rw [e] at hk
            simp at hk
            omega
        go_roundw
        case rel => exact ⟨j + 1, t2, c2, zs, by omega, hzl, by go_num, rfl, NEW, own2, OFF2.out, FR2.out⟩
        case measure => simp [intOf]; omega
    · obtain rfl : j = s.size := by omega
      have hcs := conv_src OWN.out.src
      have hsz : (strOf ys).size ≤ 1000000000000000 := by rw [← tx_len, tx_strOf WAY.out.1]; omega
      go_wp2_with fail
      refine (keytext_any (strOf ys) hsz _).mono ?_
      rintro e w1 ⟨r, rfl, hr, o1⟩
      rw [tx_strOf WAY.out.1] at hr
      have hcs := conv_src (OWN.out.off o1 (fun _ _ _ h => h)).src
      have OFF1 : Hid (Off (fun _ => False) w w1) := OFF.out.trans o1 (fun _ _ h => h)
      have eq := tx_eql r s
      by_cases he : txt ys = tx s
      · have e1 : (r.toList == s.toList) = true := by rw [eq, hr]; exact decide_eq_true he
        have HE : Hid _ := he
        clear eq hr he o1
        go_wp2_with fail
        go_ret2
        refine ⟨strOf ys, true, rfl, ⟨.inl ⟨rfl, ?_⟩⟩, OFF1.out⟩
        rw [tx_strOf WAY.out.1]
        exact HE.out
      · have e1 : (r.toList == s.toList) = false := by rw [eq, hr]; exact decide_eq_false he
        have NO : Hid _ := way_end WAY.out (by rw [HL.out]; exact Nat.le_refl _) he
        clear eq hr he o1
        go_wp2_with fail
        go_ret2
        exact ⟨⟨#[]⟩, false, rfl, NO.out, OFF1.out⟩
end Go.Proofs.Ytdkmnnihgobmoaa
