/- The reference's Number. -/
import Derived.Test.YtalcfkdmlebkbaaDoorFText
namespace Go.Proofs.YtalcfkdmlebkbaaDoor
open Go.RowKit

theorem idx_str (l : List UInt8) {i : Nat} (h : i < l.length) (W : World) : (Instr.index 9 (.string ⟨l.toArray⟩) (.int .i64 (i : Int))).run Tryd.prog W = .ok (.int .u8 ((l.getD i 0).toNat : Int)) W := by
  rw [run_index_string (h := Tryd.underlying9)]
  have hs : (⟨l.toArray⟩ : ByteArray).size = l.length := by simp [ByteArray.size]
  rw [dif_pos ⟨by omega, by rw [hs]; omega⟩]
  have e : (⟨l.toArray⟩ : ByteArray)[(i : Int).toNat]'(by simp [ByteArray.size, h]) = l.getD i 0 := by
    simp [List.getD_eq_getElem?_getD, h]
    rfl
  rw [e]
theorem dd_len (k : Nat) : ∀ u, u < 10 ^ (k + 1) → (Lib.decDigits u).length ≤ k + 1 := by
  induction k with
  | zero =>
    intro u h
    rw [Lib.decDigits, dif_pos (by simpa using h)]
    simp
  | succ k ih =>
    intro u h
    rw [Lib.decDigits]
    split
    · simp
    · have := ih (u / 10) (by rw [Nat.pow_succ] at h; omega)
      simp
      omega
theorem dd_head (u : Nat) : ∀ r, Lib.decDigits u = 48 :: r → u = 0 := by
  induction u using Nat.strongRecOn with
  | ind u ih =>
    intro r h
    rw [Lib.decDigits] at h
    split at h
    · rename_i h1
      have h2 := (List.cons.inj h).1
      have h3 := congrArg UInt8.toNat h2
      rw [digit_toNat h1] at h3
      have h4 : (48 : UInt8).toNat = 48 := rfl
      omega
    · rename_i h1
      cases hd : Lib.decDigits (u / 10) with
      | nil => exact absurd hd (dd_ne _)
      | cons c s =>
        rw [hd] at h
        simp only [List.cons_append, List.cons.injEq] at h
        have := ih (u / 10) (by omega) s (by rw [hd, h.1])
        omega
theorem val_take (t : List UInt8) {i : Nat} (h : i < t.length) : decVal (t.take (i + 1)) = decVal (t.take i) * 10 + ((t.getD i 0).toNat - 48) := by
  rw [List.take_add_one]
  simp only [List.getElem?_eq_getElem h, Option.toList_some]
  rw [decVal_snoc]
  simp [List.getD_eq_getElem?_getD, h]
theorem i64_any (x : Int) : -9223372036854775808 ≤ IntKind.i64.wrap x ∧ IntKind.i64.wrap x ≤ 9223372036854775807 := by
  rw [IntKind.wrap_i64]
  omega
theorem w64_any (x : Int) : -9223372036854775808 ≤ RowKit.wrap64 x ∧ RowKit.wrap64 x ≤ 9223372036854775807 := by
  unfold RowKit.wrap64
  omega
/-- What Number tells of a numeral. -/
def NumOk (l : List UInt8) (n : Int) (ok : Bool) : Prop := (-9223372036854775808 ≤ n ∧ n ≤ 9223372036854775807) ∧ ∀ x : Int, 0 ≤ x → x ≤ 1099511627776 → l = Lib.itoa x → ok = true ∧ n = x
theorem numOk_none {l : List UInt8} (h : ∀ x : Int, 0 ≤ x → x ≤ 1099511627776 → l ≠ Lib.itoa x) : NumOk l 0 false := ⟨by omega, fun x h0 h1 e => absurd e (h x h0 h1)⟩
theorem pow10_19 : (10 : Nat) ^ 19 = 10000000000000000000 := by decide
set_option maxRecDepth 100000 in
set_option maxHeartbeats 2000000 in
theorem number_any (l : List UInt8) (hl : l.length ≤ 200) (w : World) :
    Calls Tryd.prog 46 #[.string ⟨l.toArray⟩] w fun e w' => w' = w ∧ ∃ (n : Int) (ok : Bool), e = .returned (.tuple #[.int .i64 n, .bool ok]) ∧ NumOk l n ok := by
  have hnot := not_any
  have hsz : (⟨l.toArray⟩ : ByteArray).size = l.length := by simp [ByteArray.size]
  by_cases hne : l = []
  · subst hne
    go_enter Tryd.func46, Tryd.ntmps46
    go_wp2_with fail
    go_ret2
    exact ⟨rfl, 0, false, rfl, numOk_none (fun x _ _ e => itoa_ne x e.symm)⟩
  · have hlp : 0 < l.length := List.length_pos_iff.2 hne
    have hdl : decide ((0 : Int) < (l.length : Int)) = true := by simp; omega
    have hb : 0 < (⟨l.toArray⟩ : ByteArray).size := by rw [hsz]; exact hlp
    have h0e : (⟨l.toArray⟩ : ByteArray)[0]'hb = l.getD 0 0 := by cases l with | nil => exact absurd rfl hne | cons c s => rfl
    have H0E : Hid _ := h0e
    clear h0e
    by_cases h45 : l.getD 0 0 = 45
    · obtain ⟨r, hlr⟩ : ∃ r, l = 45 :: r := by
        cases l with
        | nil => exact absurd rfl hne
        | cons c r => simp at h45; exact ⟨r, by rw [h45]⟩
      have NE : Hid (∀ x : Int, 0 ≤ x → x ≤ 1099511627776 → l ≠ Lib.itoa x) := by
        intro x h0 h1 e
        rw [itoa_nn h0, hlr] at e
        have := dd_mem x.toNat 45 (by rw [← e]; simp)
        have e2 : (45 : UInt8).toNat = 45 := rfl
        omega
      have ey : (((((⟨l.toArray⟩ : ByteArray)[0]'hb).toNat : Nat) : Int) == 45) = true := by rw [H0E.out, h45]; rfl
      have eb : (⟨l.toArray⟩ : ByteArray).extract 1 l.length = ⟨r.toArray⟩ := by
        have := ext_back l 1 l.length (Nat.le_refl _)
        rw [this, hlr]
        rfl
      have hr19 : r.length ≤ 199 := by rw [hlr] at hl; simp at hl; omega
      have hl1 : decide ((1 : Int) ≤ (l.length : Int)) = true := by simp; omega
      clear hlr h45
      go_enter Tryd.func46, Tryd.ntmps46
      have hst : (⟨r.toArray⟩ : ByteArray).size = r.length := by simp [ByteArray.size]
      by_cases t0 : r = []
      · subst t0
        go_wp2_with fail
        go_ret2
        exact ⟨rfl, 0, false, rfl, numOk_none NE.out⟩
      · have e0 : (r == ([] : List UInt8)) = false := by rw [beq_eq_false_iff_ne]; exact t0
        have hpos : 0 < r.length := List.length_pos_iff.2 t0
        have hbt : 0 < (⟨r.toArray⟩ : ByteArray).size := by rw [hst]; exact hpos
        have e0b : r.isEmpty = false := by rw [List.isEmpty_eq_false_iff]; exact t0
        by_cases t19 : 19 < r.length
        · have e1 : decide ((19 : Int) < (r.length : Int)) = true := by simp; omega
          go_wp2_with fail
          go_ret2
          exact ⟨rfl, 0, false, rfl, numOk_none NE.out⟩
        · have e1 : decide ((19 : Int) < (r.length : Int)) = false := by simp; omega
          by_cases z : ((⟨r.toArray⟩ : ByteArray)[0]'hbt).toNat = 48 ∧ l ≠ [48]
          · have e2 : (((((⟨r.toArray⟩ : ByteArray)[0]'hbt).toNat : Nat) : Int) == 48) = true := by rw [z.1]; rfl
            have e3 : (l == ([48] : List UInt8)) = false := by rw [beq_eq_false_iff_ne]; exact z.2
            have Z : Hid _ := z
            clear z
            go_wp2_with fail
            go_ret2
            exact ⟨rfl, 0, false, rfl, numOk_none NE.out⟩
          · have pass : (((((⟨r.toArray⟩ : ByteArray)[0]'hbt).toNat : Nat) : Int) == 48) = false ∨ ((((((⟨r.toArray⟩ : ByteArray)[0]'hbt).toNat : Nat) : Int) == 48) = true ∧ (l == ([48] : List UInt8)) = true) := by
              by_cases h48 : ((⟨r.toArray⟩ : ByteArray)[0]'hbt).toNat = 48
              · right
                refine ⟨by rw [h48]; rfl, ?_⟩
                rw [beq_iff_eq]
                exact Classical.byContradiction fun h => z ⟨h48, h⟩
              · left
                rw [beq_eq_false_iff_ne]
                omega
            clear z
            rcases pass with e2 | ⟨e2, e3⟩
            · go_wp2_with fail
              go_loopw [6, 38] (fun x y wr => ∃ i : Nat, x = .int .u64 ((decVal (r.take i) : Nat) : Int) ∧ y = .int .i64 (i : Int) ∧ i ≤ r.length ∧ decVal (r.take i) < 10 ^ i ∧ wr = w) (fun _ y _ => (20 - intOf y).toNat)
              case atStart => exact ⟨0, rfl, rfl, by omega, by simp [decVal], rfl⟩
              case round =>
                obtain ⟨i, rfl, rfl, hi, hv, hwr⟩ := hrel
                rw [hwr]
                clear hwr
                by_cases h : i < r.length
                · have hd : decide ((i : Int) < (r.length : Int)) = true := by simp; omega
                  have ix := idx_str r h
                  have vt := val_take r h
                  have hp : (10 : Nat) ^ i ≤ 10 ^ 18 := Nat.pow_le_pow_right (by omega) (by omega)
                  have hp2 : (10 : Nat) ^ (i + 1) = 10 ^ i * 10 := Nat.pow_succ ..
                  have hc256 : (r.getD i 0).toNat < 256 := UInt8.toNat_lt _
                  obtain ⟨v, hvv⟩ : ∃ v, v = decVal (r.take i) := ⟨_, rfl⟩
                  obtain ⟨c, hcc⟩ : ∃ c, c = (r.getD i 0).toNat := ⟨_, rfl⟩
                  rw [← hvv] at vt hv ⊢
                  rw [← hcc] at vt ix hc256
                  have hv18 : v < 1000000000000000000 := Nat.lt_of_lt_of_le hv (by simpa using hp)
                  have HVT : Hid _ := vt
                  have HCC : Hid _ := hcc
                  have HV : Hid _ := hv
                  have HP2 : Hid _ := hp2
                  clear vt hvv hcc hv hp hp2
                  by_cases c48 : c < 48
                  · have e5 : decide (((c : Nat) : Int) < 48) = true := by simp; omega
                    go_wp2_with fail
                    go_ret2
                    exact ⟨rfl, 0, false, rfl, numOk_none NE.out⟩
                  · have e5 : decide (((c : Nat) : Int) < 48) = false := by simp; omega
                    by_cases c57 : 57 < c
                    · have e6 : decide ((57 : Int) < ((c : Nat) : Int)) = true := by simp; omega
                      go_wp2_with fail
                      go_ret2
                      exact ⟨rfl, 0, false, rfl, numOk_none NE.out⟩
                    · have e6 : decide ((57 : Int) < ((c : Nat) : Int)) = false := by simp; omega
                      have w1 : IntKind.u64.wrap (10 * (v : Int)) = ((10 * v : Nat) : Int) := by rw [IntKind.wrap_u64]; omega
                      have w2 : IntKind.u8.wrap ((c : Int) - 48) = ((c - 48 : Nat) : Int) := by rw [show (c : Int) - 48 = ((c - 48 : Nat) : Int) by omega, wrap8]; omega
                      have w3 : IntKind.u64.wrap ((c - 48 : Nat) : Int) = ((c - 48 : Nat) : Int) := by rw [IntKind.wrap_u64]; omega
                      have w4 : IntKind.u64.wrap (((10 * v : Nat) : Int) + ((c - 48 : Nat) : Int)) = ((v * 10 + (c - 48) : Nat) : Int) := by rw [IntKind.wrap_u64]; omega
                      go_wp2_with fail
                      go_roundw
                      case rel =>
                        refine ⟨i + 1, by rw [HVT.out]; congr 1; omega, by go_num, by omega, ?_, by simp⟩
                        rw [HVT.out, HP2.out]
                        have := HV.out
                        omega
                      case measure => simp [intOf]; omega
                · obtain rfl : i = r.length := by omega
                  rw [List.take_length] at hv ⊢
                  have hp : (10 : Nat) ^ r.length ≤ 10 ^ 19 := Nat.pow_le_pow_right (by omega) (by omega)
                  obtain ⟨v, hvv⟩ : ∃ v, v = decVal r := ⟨_, rfl⟩
                  rw [← hvv] at hv ⊢
                  have hv19 : v < 10000000000000000000 := Nat.lt_of_lt_of_le hv (by rw [← pow10_19]; exact hp)
                  have HVV : Hid _ := hvv
                  clear hvv hv hp
                  by_cases hb : v ≤ 9223372036854775808
                  · have e7 : decide (((v : Nat) : Int) ≤ 9223372036854775808) = true := by simp; omega
                    go_wp2_with fail
                    go_ret2
                    exact ⟨rfl, _, true, rfl, w64_any _, fun x h0 h1 e => absurd e (NE.out x h0 h1)⟩
                  · have e7 : decide (((v : Nat) : Int) ≤ 9223372036854775808) = false := by simp; omega
                    go_wp2_with fail
                    go_ret2
                    exact ⟨rfl, 0, false, rfl, numOk_none NE.out⟩
            · go_wp2_with fail
              go_loopw [6, 38] (fun x y wr => ∃ i : Nat, x = .int .u64 ((decVal (r.take i) : Nat) : Int) ∧ y = .int .i64 (i : Int) ∧ i ≤ r.length ∧ decVal (r.take i) < 10 ^ i ∧ wr = w) (fun _ y _ => (20 - intOf y).toNat)
              case atStart => exact ⟨0, rfl, rfl, by omega, by simp [decVal], rfl⟩
              case round =>
                obtain ⟨i, rfl, rfl, hi, hv, hwr⟩ := hrel
                rw [hwr]
                clear hwr
                by_cases h : i < r.length
                · have hd : decide ((i : Int) < (r.length : Int)) = true := by simp; omega
                  have ix := idx_str r h
                  have vt := val_take r h
                  have hp : (10 : Nat) ^ i ≤ 10 ^ 18 := Nat.pow_le_pow_right (by omega) (by omega)
                  have hp2 : (10 : Nat) ^ (i + 1) = 10 ^ i * 10 := Nat.pow_succ ..
                  have hc256 : (r.getD i 0).toNat < 256 := UInt8.toNat_lt _
                  obtain ⟨v, hvv⟩ : ∃ v, v = decVal (r.take i) := ⟨_, rfl⟩
                  obtain ⟨c, hcc⟩ : ∃ c, c = (r.getD i 0).toNat := ⟨_, rfl⟩
                  rw [← hvv] at vt hv ⊢
                  rw [← hcc] at vt ix hc256
                  have hv18 : v < 1000000000000000000 := Nat.lt_of_lt_of_le hv (by simpa using hp)
                  have HVT : Hid _ := vt
                  have HCC : Hid _ := hcc
                  have HV : Hid _ := hv
                  have HP2 : Hid _ := hp2
                  clear vt hvv hcc hv hp hp2
                  by_cases c48 : c < 48
                  · have e5 : decide (((c : Nat) : Int) < 48) = true := by simp; omega
                    go_wp2_with fail
                    go_ret2
                    exact ⟨rfl, 0, false, rfl, numOk_none NE.out⟩
                  · have e5 : decide (((c : Nat) : Int) < 48) = false := by simp; omega
                    by_cases c57 : 57 < c
                    · have e6 : decide ((57 : Int) < ((c : Nat) : Int)) = true := by simp; omega
                      go_wp2_with fail
                      go_ret2
                      exact ⟨rfl, 0, false, rfl, numOk_none NE.out⟩
                    · have e6 : decide ((57 : Int) < ((c : Nat) : Int)) = false := by simp; omega
                      have w1 : IntKind.u64.wrap (10 * (v : Int)) = ((10 * v : Nat) : Int) := by rw [IntKind.wrap_u64]; omega
                      have w2 : IntKind.u8.wrap ((c : Int) - 48) = ((c - 48 : Nat) : Int) := by rw [show (c : Int) - 48 = ((c - 48 : Nat) : Int) by omega, wrap8]; omega
                      have w3 : IntKind.u64.wrap ((c - 48 : Nat) : Int) = ((c - 48 : Nat) : Int) := by rw [IntKind.wrap_u64]; omega
                      have w4 : IntKind.u64.wrap (((10 * v : Nat) : Int) + ((c - 48 : Nat) : Int)) = ((v * 10 + (c - 48) : Nat) : Int) := by rw [IntKind.wrap_u64]; omega
                      go_wp2_with fail
                      go_roundw
                      case rel =>
                        refine ⟨i + 1, by rw [HVT.out]; congr 1; omega, by go_num, by omega, ?_, by simp⟩
                        rw [HVT.out, HP2.out]
                        have := HV.out
                        omega
                      case measure => simp [intOf]; omega
                · obtain rfl : i = r.length := by omega
                  rw [List.take_length] at hv ⊢
                  have hp : (10 : Nat) ^ r.length ≤ 10 ^ 19 := Nat.pow_le_pow_right (by omega) (by omega)
                  obtain ⟨v, hvv⟩ : ∃ v, v = decVal r := ⟨_, rfl⟩
                  rw [← hvv] at hv ⊢
                  have hv19 : v < 10000000000000000000 := Nat.lt_of_lt_of_le hv (by rw [← pow10_19]; exact hp)
                  have HVV : Hid _ := hvv
                  clear hvv hv hp
                  by_cases hb : v ≤ 9223372036854775808
                  · have e7 : decide (((v : Nat) : Int) ≤ 9223372036854775808) = true := by simp; omega
                    go_wp2_with fail
                    go_ret2
                    exact ⟨rfl, _, true, rfl, w64_any _, fun x h0 h1 e => absurd e (NE.out x h0 h1)⟩
                  · have e7 : decide (((v : Nat) : Int) ≤ 9223372036854775808) = false := by simp; omega
                    go_wp2_with fail
                    go_ret2
                    exact ⟨rfl, 0, false, rfl, numOk_none NE.out⟩
    · have ey : (((((⟨l.toArray⟩ : ByteArray)[0]'hb).toNat : Nat) : Int) == 45) = false := by
        rw [H0E.out, beq_eq_false_iff_ne]
        intro e
        refine h45 (UInt8.toNat_inj.1 ?_)
        have e2 : (45 : UInt8).toNat = 45 := rfl
        omega
      clear h45
      go_enter Tryd.func46, Tryd.ntmps46
      have hst : (⟨l.toArray⟩ : ByteArray).size = l.length := by simp [ByteArray.size]
      by_cases t0 : l = []
      · exact absurd t0 hne
      · have e0 : (l == ([] : List UInt8)) = false := by rw [beq_eq_false_iff_ne]; exact t0
        have hpos : 0 < l.length := List.length_pos_iff.2 t0
        have hbt : 0 < (⟨l.toArray⟩ : ByteArray).size := by rw [hst]; exact hpos
        have e0b : l.isEmpty = false := by rw [List.isEmpty_eq_false_iff]; exact t0
        by_cases t19 : 19 < l.length
        · have e1 : decide ((19 : Int) < (l.length : Int)) = true := by simp; omega
          go_wp2_with fail
          go_ret2
          exact ⟨rfl, 0, false, rfl, numOk_none (fun x h0 h1 e => by have := dd_len 18 x.toNat (by omega); rw [itoa_nn h0] at e; rw [e] at t19; omega)⟩
        · have e1 : decide ((19 : Int) < (l.length : Int)) = false := by simp; omega
          by_cases z : ((⟨l.toArray⟩ : ByteArray)[0]'hbt).toNat = 48 ∧ l ≠ [48]
          · have e2 : (((((⟨l.toArray⟩ : ByteArray)[0]'hbt).toNat : Nat) : Int) == 48) = true := by rw [z.1]; rfl
            have e3 : (l == ([48] : List UInt8)) = false := by rw [beq_eq_false_iff_ne]; exact z.2
            have Z : Hid _ := z
            clear z
            go_wp2_with fail
            go_ret2
            exact ⟨rfl, 0, false, rfl, numOk_none (fun x h0 h1 e => by
                    rw [itoa_nn h0] at e
                    have hz : (l.getD 0 0).toNat = 48 := by have := Z.out.1; rw [H0E.out] at this; exact this
                    cases hl : l with
                    | nil => exact hne hl
                    | cons c s =>
                      rw [hl] at hz
                      simp at hz
                      have hc : c = 48 := UInt8.toNat_inj.1 hz
                      rw [hl, hc] at e
                      have hx := dd_head x.toNat s e.symm
                      rw [hx] at e
                      refine Z.out.2 ?_
                      rw [hl, hc, e]
                      simp [Lib.decDigits])⟩
          · have pass : (((((⟨l.toArray⟩ : ByteArray)[0]'hbt).toNat : Nat) : Int) == 48) = false ∨ ((((((⟨l.toArray⟩ : ByteArray)[0]'hbt).toNat : Nat) : Int) == 48) = true ∧ (l == ([48] : List UInt8)) = true) := by
              by_cases h48 : ((⟨l.toArray⟩ : ByteArray)[0]'hbt).toNat = 48
              · right
                refine ⟨by rw [h48]; rfl, ?_⟩
                rw [beq_iff_eq]
                exact Classical.byContradiction fun h => z ⟨h48, h⟩
              · left
                rw [beq_eq_false_iff_ne]
                omega
            clear z
            rcases pass with e2 | ⟨e2, e3⟩
            · go_wp2_with fail
              go_loopw [6, 38] (fun x y wr => ∃ i : Nat, x = .int .u64 ((decVal (l.take i) : Nat) : Int) ∧ y = .int .i64 (i : Int) ∧ i ≤ l.length ∧ decVal (l.take i) < 10 ^ i ∧ wr = w) (fun _ y _ => (20 - intOf y).toNat)
              case atStart => exact ⟨0, rfl, rfl, by omega, by simp [decVal], rfl⟩
              case round =>
                obtain ⟨i, rfl, rfl, hi, hv, hwr⟩ := hrel
                rw [hwr]
                clear hwr
                by_cases h : i < l.length
                · have hd : decide ((i : Int) < (l.length : Int)) = true := by simp; omega
                  have ix := idx_str l h
                  have vt := val_take l h
                  have hp : (10 : Nat) ^ i ≤ 10 ^ 18 := Nat.pow_le_pow_right (by omega) (by omega)
                  have hp2 : (10 : Nat) ^ (i + 1) = 10 ^ i * 10 := Nat.pow_succ ..
                  have hc256 : (l.getD i 0).toNat < 256 := UInt8.toNat_lt _
                  obtain ⟨v, hvv⟩ : ∃ v, v = decVal (l.take i) := ⟨_, rfl⟩
                  obtain ⟨c, hcc⟩ : ∃ c, c = (l.getD i 0).toNat := ⟨_, rfl⟩
                  rw [← hvv] at vt hv ⊢
                  rw [← hcc] at vt ix hc256
                  have hv18 : v < 1000000000000000000 := Nat.lt_of_lt_of_le hv (by simpa using hp)
                  have HVT : Hid _ := vt
                  have HCC : Hid _ := hcc
                  have HV : Hid _ := hv
                  have HP2 : Hid _ := hp2
                  clear vt hvv hcc hv hp hp2
                  by_cases c48 : c < 48
                  · have e5 : decide (((c : Nat) : Int) < 48) = true := by simp; omega
                    go_wp2_with fail
                    go_ret2
                    exact ⟨rfl, 0, false, rfl, numOk_none (fun x h0 h1 e => by have := dd_mem x.toNat (l.getD i 0) (by rw [itoa_nn h0] at e; rw [← e]; simp [List.getD_eq_getElem?_getD, h]); rw [← HCC.out] at this; omega)⟩
                  · have e5 : decide (((c : Nat) : Int) < 48) = false := by simp; omega
                    by_cases c57 : 57 < c
                    · have e6 : decide ((57 : Int) < ((c : Nat) : Int)) = true := by simp; omega
                      go_wp2_with fail
                      go_ret2
                      exact ⟨rfl, 0, false, rfl, numOk_none (fun x h0 h1 e => by have := dd_mem x.toNat (l.getD i 0) (by rw [itoa_nn h0] at e; rw [← e]; simp [List.getD_eq_getElem?_getD, h]); rw [← HCC.out] at this; omega)⟩
                    · have e6 : decide ((57 : Int) < ((c : Nat) : Int)) = false := by simp; omega
                      have w1 : IntKind.u64.wrap (10 * (v : Int)) = ((10 * v : Nat) : Int) := by rw [IntKind.wrap_u64]; omega
                      have w2 : IntKind.u8.wrap ((c : Int) - 48) = ((c - 48 : Nat) : Int) := by rw [show (c : Int) - 48 = ((c - 48 : Nat) : Int) by omega, wrap8]; omega
                      have w3 : IntKind.u64.wrap ((c - 48 : Nat) : Int) = ((c - 48 : Nat) : Int) := by rw [IntKind.wrap_u64]; omega
                      have w4 : IntKind.u64.wrap (((10 * v : Nat) : Int) + ((c - 48 : Nat) : Int)) = ((v * 10 + (c - 48) : Nat) : Int) := by rw [IntKind.wrap_u64]; omega
                      go_wp2_with fail
                      go_roundw
                      case rel =>
                        refine ⟨i + 1, by rw [HVT.out]; congr 1; omega, by go_num, by omega, ?_, by simp⟩
                        rw [HVT.out, HP2.out]
                        have := HV.out
                        omega
                      case measure => simp [intOf]; omega
                · obtain rfl : i = l.length := by omega
                  rw [List.take_length] at hv ⊢
                  have hp : (10 : Nat) ^ l.length ≤ 10 ^ 19 := Nat.pow_le_pow_right (by omega) (by omega)
                  obtain ⟨v, hvv⟩ : ∃ v, v = decVal l := ⟨_, rfl⟩
                  rw [← hvv] at hv ⊢
                  have hv19 : v < 10000000000000000000 := Nat.lt_of_lt_of_le hv (by rw [← pow10_19]; exact hp)
                  have HVV : Hid _ := hvv
                  clear hvv hv hp
                  have sp : Hid (∀ x : Int, 0 ≤ x → x ≤ 1099511627776 → l = Lib.itoa x → (v : Int) = x) := by
                    intro x h0 h1 e
                    rw [HVV.out, e, itoa_nn h0, dd_val]
                    omega
                  by_cases hb : v < 9223372036854775808
                  · have e7 : decide (((v : Nat) : Int) < 9223372036854775808) = true := by simp; omega
                    have w5 : IntKind.i64.wrap ((v : Nat) : Int) = (v : Int) := wrap64 (by omega) (by omega)
                    go_wp2_with fail
                    go_ret2
                    exact ⟨rfl, v, true, rfl, ⟨by omega, by omega⟩, fun x h0 h1 e => ⟨rfl, sp.out x h0 h1 e⟩⟩
                  · have e7 : decide (((v : Nat) : Int) < 9223372036854775808) = false := by simp; omega
                    go_wp2_with fail
                    go_ret2
                    exact ⟨rfl, 0, false, rfl, numOk_none (fun x h0 h1 e => by have := sp.out x h0 h1 e; omega)⟩
            · go_wp2_with fail
              go_loopw [6, 38] (fun x y wr => ∃ i : Nat, x = .int .u64 ((decVal (l.take i) : Nat) : Int) ∧ y = .int .i64 (i : Int) ∧ i ≤ l.length ∧ decVal (l.take i) < 10 ^ i ∧ wr = w) (fun _ y _ => (20 - intOf y).toNat)
              case atStart => exact ⟨0, rfl, rfl, by omega, by simp [decVal], rfl⟩
              case round =>
                obtain ⟨i, rfl, rfl, hi, hv, hwr⟩ := hrel
                rw [hwr]
                clear hwr
                by_cases h : i < l.length
                · have hd : decide ((i : Int) < (l.length : Int)) = true := by simp; omega
                  have ix := idx_str l h
                  have vt := val_take l h
                  have hp : (10 : Nat) ^ i ≤ 10 ^ 18 := Nat.pow_le_pow_right (by omega) (by omega)
                  have hp2 : (10 : Nat) ^ (i + 1) = 10 ^ i * 10 := Nat.pow_succ ..
                  have hc256 : (l.getD i 0).toNat < 256 := UInt8.toNat_lt _
                  obtain ⟨v, hvv⟩ : ∃ v, v = decVal (l.take i) := ⟨_, rfl⟩
                  obtain ⟨c, hcc⟩ : ∃ c, c = (l.getD i 0).toNat := ⟨_, rfl⟩
                  rw [← hvv] at vt hv ⊢
                  rw [← hcc] at vt ix hc256
                  have hv18 : v < 1000000000000000000 := Nat.lt_of_lt_of_le hv (by simpa using hp)
                  have HVT : Hid _ := vt
                  have HCC : Hid _ := hcc
                  have HV : Hid _ := hv
                  have HP2 : Hid _ := hp2
                  clear vt hvv hcc hv hp hp2
                  by_cases c48 : c < 48
                  · have e5 : decide (((c : Nat) : Int) < 48) = true := by simp; omega
                    go_wp2_with fail
                    go_ret2
                    exact ⟨rfl, 0, false, rfl, numOk_none (fun x h0 h1 e => by have := dd_mem x.toNat (l.getD i 0) (by rw [itoa_nn h0] at e; rw [← e]; simp [List.getD_eq_getElem?_getD, h]); rw [← HCC.out] at this; omega)⟩
                  · have e5 : decide (((c : Nat) : Int) < 48) = false := by simp; omega
                    by_cases c57 : 57 < c
                    · have e6 : decide ((57 : Int) < ((c : Nat) : Int)) = true := by simp; omega
                      go_wp2_with fail
                      go_ret2
                      exact ⟨rfl, 0, false, rfl, numOk_none (fun x h0 h1 e => by have := dd_mem x.toNat (l.getD i 0) (by rw [itoa_nn h0] at e; rw [← e]; simp [List.getD_eq_getElem?_getD, h]); rw [← HCC.out] at this; omega)⟩
                    · have e6 : decide ((57 : Int) < ((c : Nat) : Int)) = false := by simp; omega
                      have w1 : IntKind.u64.wrap (10 * (v : Int)) = ((10 * v : Nat) : Int) := by rw [IntKind.wrap_u64]; omega
                      have w2 : IntKind.u8.wrap ((c : Int) - 48) = ((c - 48 : Nat) : Int) := by rw [show (c : Int) - 48 = ((c - 48 : Nat) : Int) by omega, wrap8]; omega
                      have w3 : IntKind.u64.wrap ((c - 48 : Nat) : Int) = ((c - 48 : Nat) : Int) := by rw [IntKind.wrap_u64]; omega
                      have w4 : IntKind.u64.wrap (((10 * v : Nat) : Int) + ((c - 48 : Nat) : Int)) = ((v * 10 + (c - 48) : Nat) : Int) := by rw [IntKind.wrap_u64]; omega
                      go_wp2_with fail
                      go_roundw
                      case rel =>
                        refine ⟨i + 1, by rw [HVT.out]; congr 1; omega, by go_num, by omega, ?_, by simp⟩
                        rw [HVT.out, HP2.out]
                        have := HV.out
                        omega
                      case measure => simp [intOf]; omega
                · obtain rfl : i = l.length := by omega
                  rw [List.take_length] at hv ⊢
                  have hp : (10 : Nat) ^ l.length ≤ 10 ^ 19 := Nat.pow_le_pow_right (by omega) (by omega)
                  obtain ⟨v, hvv⟩ : ∃ v, v = decVal l := ⟨_, rfl⟩
                  rw [← hvv] at hv ⊢
                  have hv19 : v < 10000000000000000000 := Nat.lt_of_lt_of_le hv (by rw [← pow10_19]; exact hp)
                  have HVV : Hid _ := hvv
                  clear hvv hv hp
                  have sp : Hid (∀ x : Int, 0 ≤ x → x ≤ 1099511627776 → l = Lib.itoa x → (v : Int) = x) := by
                    intro x h0 h1 e
                    rw [HVV.out, e, itoa_nn h0, dd_val]
                    omega
                  by_cases hb : v < 9223372036854775808
                  · have e7 : decide (((v : Nat) : Int) < 9223372036854775808) = true := by simp; omega
                    have w5 : IntKind.i64.wrap ((v : Nat) : Int) = (v : Int) := wrap64 (by omega) (by omega)
                    go_wp2_with fail
                    go_ret2
                    exact ⟨rfl, v, true, rfl, ⟨by omega, by omega⟩, fun x h0 h1 e => ⟨rfl, sp.out x h0 h1 e⟩⟩
                  · have e7 : decide (((v : Nat) : Int) < 9223372036854775808) = false := by simp; omega
                    go_wp2_with fail
                    go_ret2
                    exact ⟨rfl, 0, false, rfl, numOk_none (fun x h0 h1 e => by have := sp.out x h0 h1 e; omega)⟩
end Go.Proofs.YtalcfkdmlebkbaaDoor
