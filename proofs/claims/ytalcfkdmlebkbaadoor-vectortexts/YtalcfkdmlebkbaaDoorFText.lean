/- The reference's Text. -/
import Derived.Test.YtalcfkdmlebkbaaDoorParseV
namespace Go.Proofs.YtalcfkdmlebkbaaDoor
open Go.RowKit

set_option maxRecDepth 100000 in
set_option maxHeartbeats 1000000 in
theorem ftext_any (f : Nat → Int) (hr : ∀ j, j < 8 → -9223372036854775808 ≤ f j ∧ f j ≤ 9223372036854775807) (w : World) (ht : Tab w) :
    Calls Tryd.prog 37 #[.agg #[.int .i64 (f 0), .int .i64 (f 1), .int .i64 (f 2), .int .i64 (f 3), .int .i64 (f 4), .int .i64 (f 5), .int .i64 (f 6), .int .i64 (f 7)]] w fun e w' => e = .returned (.string ⟨(textV f).toArray⟩) ∧ Off (fun _ => False) w w' := by
  have HRG : Hid _ := hr
  have HT : Hid (∀ w', Off (fun _ => False) w w' → Tab w') := fun w' h => ht.off h (fun _ _ h => h)
  have HTV : Hid (textV f = textL f (topV f)) := textV_top
  have htop : lastV f 8 - 1 = topV f - 1 := by unfold topV; omega
  have htl := topV_le f
  clear hr ht
  go_enter Tryd.func37, Tryd.ntmps37
  go_wp2_with fail
  obtain ⟨W, hW⟩ : ∃ W, W = w.alloc (.cells #[.int .i64 (f 0), .int .i64 (f 1), .int .i64 (f 2), .int .i64 (f 3), .int .i64 (f 4), .int .i64 (f 5), .int .i64 (f 6), .int .i64 (f 7)] 23) := ⟨_, rfl⟩
  have C0 : Cel w.heap.size 23 #[.int .i64 (f 0), .int .i64 (f 1), .int .i64 (f 2), .int .i64 (f 3), .int .i64 (f 4), .int .i64 (f 5), .int .i64 (f 6), .int .i64 (f 7)] W := by rw [hW]; exact Cel.new w _ _
  have O0 : Off (fun _ => False) w W := by rw [hW]; exact (Off.refl _ w).alloc _
  rw [← hW]
  clear hW
  generalize w.heap.size = q0 at C0 ⊢
  have H0 : Hid _ := C0
  clear C0
  go_loopw [3, 7] (fun x y wr => ∃ i : Nat, x = .int .i64 ((lastV f i - 1 : Nat) : Int) ∧ y = .int .i64 (i : Int) ∧ i ≤ 8 ∧ wr = W) (fun _ y _ => (8 - intOf y).toNat)
  case atStart => exact ⟨0, rfl, rfl, by omega, rfl⟩
  case round =>
    obtain ⟨i, rfl, rfl, hi, hwr⟩ := hrel
    rw [hwr]
    clear hwr
    by_cases h : i < 8
    · have hd : decide ((i : Int) < 8) = true := by simp; omega
      have ha := at_vec q0 h
      have hc : W.cell? ⟨q0, i, none⟩ = some (.int .i64 (f i)) := (H0.out.cell i).trans (vec_get f h)
      by_cases h0 : f i = 0
      · have e0 : (f i != 0) = false := by simp [h0]
        have hl : Hid (lastV f (i + 1) = lastV f i) := (show lastV f (i + 1) = lastV f i by simp [lastV, h0])
        clear h0
        go_wp2_with fail
        go_roundw
        case rel => exact ⟨i + 1, by rw [hl.out], by go_num, by omega, by simp⟩
        case measure => simp [intOf]; omega
      · have e0 : (f i != 0) = true := by simp [h0]
        have hl : Hid (lastV f (i + 1) - 1 = i) := (show lastV f (i + 1) - 1 = i by simp [lastV, h0])
        clear h0
        go_wp2_with fail
        go_roundw
        case rel => exact ⟨i + 1, by rw [hl.out], by go_num, by omega, by simp⟩
        case measure => simp [intOf]; omega
    · obtain rfl : i = 8 := by omega
      rw [htop]
      obtain ⟨T, hTT⟩ : ∃ T, T = topV f := ⟨_, rfl⟩
      rw [← hTT] at HTV htl ⊢
      clear hTT htop
      have c0 : W.cell? ⟨q0, 0, none⟩ = some (.int .i64 (f 0)) := (H0.out.cell 0).trans (vec_get f (by omega))
      go_wp2_with fail
      refine (Tryd.strconv_FormatInt_10 (f 0) (HRG.out 0 (by omega)).1 (HRG.out 0 (by omega)).2 _ (HT.out _ O0).is).mono ?_
      rintro e w2 ⟨rfl, k, os, hw⟩
      have o2 : Off (fun _ => False) W w2 := by rw [hw]; exact Off.of_grow W k os
      clear hw
      have C2 := H0.out.off o2 (fun h => h)
      have O2 := O0.trans o2 (fun _ _ h => h)
      have HC2 : Hid _ := C2
      clear C2 o2 O0 H0 c0
      go_wp2_with fail
      go_loopw [5, 6] (fun s y wr => ∃ i : Nat, s = .string ⟨(textL f i).toArray⟩ ∧ y = .int .i64 (i : Int) ∧ 1 ≤ i ∧ i ≤ T ∧ Cel q0 23 #[.int .i64 (f 0), .int .i64 (f 1), .int .i64 (f 2), .int .i64 (f 3), .int .i64 (f 4), .int .i64 (f 5), .int .i64 (f 6), .int .i64 (f 7)] wr ∧ Off (fun _ => False) w wr) (fun _ y _ => (8 - intOf y).toNat)
      case atStart => exact ⟨1, by rw [textL_one], rfl, by omega, by omega, HC2.out, O2⟩
      case round =>
        obtain ⟨i, rfl, rfl, h1, hiT, cb, O⟩ := hrel
        have CB : Hid _ := cb
        clear cb HC2 O2
        by_cases h : i < T
        · have h8 : i < 8 := by omega
          have hd : decide ((i : Int) ≤ ((T - 1 : Nat) : Int)) = true := by simp; omega
          have ha := at_vec q0 h8
          have hc : wr.cell? ⟨q0, i, none⟩ = some (.int .i64 (f i)) := (CB.out.cell i).trans (vec_get f h8)
          have hlen := textL_len f HRG.out i (by omega)
          have hlen2 := Lib.itoa_length_le (f i) (HRG.out i h8).1 (HRG.out i h8).2
          go_wp2_with fail
          refine (Tryd.strconv_FormatInt_10 (f i) (HRG.out i h8).1 (HRG.out i h8).2 _ (HT.out _ O).is).mono ?_
          rintro e w2 ⟨rfl, k, os, hw⟩
          have o2 : Off (fun _ => False) wr w2 := by rw [hw]; exact Off.of_grow wr k os
          clear hw
          have C2 := CB.out.off o2 (fun h => h)
          have O2 := O.trans o2 (fun _ _ h => h)
          have HC2 : Hid _ := C2
          clear C2 o2
          go_wp2_with fail
          go_roundw
          case rel =>
            refine ⟨i + 1, ?_, by go_num, by omega, by omega, HC2.out, O2⟩
            obtain ⟨k, rfl⟩ : ∃ k, i = k + 1 := ⟨i - 1, by omega⟩
            rw [textL_two]
            simp only [Value.string.injEq]
            apply ByteArray.ext
            simp
          case measure => simp [intOf]; omega
        · obtain rfl : i = T := by omega
          have hd : decide ((i : Int) ≤ ((i - 1 : Nat) : Int)) = false := by simp; omega
          go_wp2_with fail
          go_ret
          rw [HTV.out]
          exact ⟨rfl, O⟩
end Go.Proofs.YtalcfkdmlebkbaaDoor
