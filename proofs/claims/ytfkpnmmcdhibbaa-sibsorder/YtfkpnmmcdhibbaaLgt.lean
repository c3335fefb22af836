/- The contracts of light and few. -/
import Derived.Test.YtfkpnmmcdhibbaaGMay
namespace Go.Proofs.Ytfkpnmmcdhibbaa
open Go.RowKit

/-- Sibs with where they lie. -/
structure U where
  f : Nat → Int
  a : Option Addr
  cap : Nat
  l : List V
/-- A slice of Sibs. -/
structure Sl (w : World) (B : Nat) (us : List U) : Prop where
  at_ : ∀ (i : Nat) (u : U), us[i]? = some u → ∀ j s, (#[.int .i64 (u.f 0), .int .i64 (u.f 1), .int .i64 (u.f 2), .int .i64 (u.f 3), .int .i64 (u.f 4), .int .i64 (u.f 5), .int .i64 (u.f 6), .int .i64 (u.f 7), .slice u.a u.l.length u.cap] : Array Value)[j]? = some s → w.cell? ⟨B, i * 9 + j, none⟩ = some s
  row : ∀ u ∈ us, Row w u.a u.cap u.l
theorem Sl.off {w w' : World} {B : Nat} {us : List U} (h : Sl w B us) (o : Off (fun _ => False) w w') : Sl w' B us :=
  ⟨fun i u hi j s hs => by
    have e := h.at_ i u hi j s hs
    rw [← e]
    exact World.cell?_of_block (a := ⟨B, i * 9 + j, none⟩) (o.block B (cell_lt e) (fun h => h)), fun u hu => (h.row u hu).off o⟩
theorem Sl.cells {w : World} {B : Nat} {us : List U} (h : Sl w B us) {i : Nat} {u : U} (hi : us[i]? = some u) : w.cell? ⟨B, i * 9, none⟩ = some (.int .i64 (u.f 0)) ∧ w.cell? ⟨B, i * 9 + 1, none⟩ = some (.int .i64 (u.f 1)) ∧ w.cell? ⟨B, i * 9 + 2, none⟩ = some (.int .i64 (u.f 2)) ∧ w.cell? ⟨B, i * 9 + 3, none⟩ = some (.int .i64 (u.f 3)) ∧ w.cell? ⟨B, i * 9 + 4, none⟩ = some (.int .i64 (u.f 4)) ∧ w.cell? ⟨B, i * 9 + 5, none⟩ = some (.int .i64 (u.f 5)) ∧ w.cell? ⟨B, i * 9 + 6, none⟩ = some (.int .i64 (u.f 6)) ∧ w.cell? ⟨B, i * 9 + 7, none⟩ = some (.int .i64 (u.f 7)) ∧ w.cell? ⟨B, i * 9 + 8, none⟩ = some (.slice u.a u.l.length u.cap) :=
  ⟨h.at_ i u hi 0 _ rfl, h.at_ i u hi 1 _ rfl, h.at_ i u hi 2 _ rfl, h.at_ i u hi 3 _ rfl, h.at_ i u hi 4 _ rfl, h.at_ i u hi 5 _ rfl, h.at_ i u hi 6 _ rfl, h.at_ i u hi 7 _ rfl, h.at_ i u hi 8 _ rfl⟩

def lightB (us : List U) : Bool := us.all fun u => decide (u.l.length ≤ 40)
set_option maxRecDepth 100000 in
set_option maxHeartbeats 1000000 in
theorem light_any (B : Nat) (c : Nat) (us : List U) (w : World) (h : Sl w B us) (hn : us.length ≤ 10) : Calls Try.prog 9 #[.slice (some ⟨B, 0, none⟩) us.length c] w fun e w' => e = .returned (.bool (lightB us)) ∧ Off (fun _ => False) w w' := by
  have HS : Hid _ := h
  clear h
  go_enter Try.func9, Try.ntmps9
  go_wp2_with fail
  go_loopw [7] (fun y wr => ∃ n : Nat, y = .int .i64 (n : Int) ∧ n ≤ us.length ∧ (∀ i u, i < n → us[i]? = some u → u.l.length ≤ 40) ∧ Off (fun _ => False) w wr) (fun y _ => (us.length - intOf y).toNat)
  case atStart => exact ⟨0, rfl, by omega, fun i u hi => by omega, Off.refl _ w⟩
  case round =>
    obtain ⟨n, rfl, hnn, hg, O⟩ := hrel
    have HG : Hid _ := hg
    clear hg
    by_cases hlt : n < us.length
    · have e1 : decide ((n : Int) < (us.length : Int)) = true := decide_eq_true (by omega)
      have e2 : decide (n < us.length) = true := decide_eq_true hlt
      obtain ⟨u, hu⟩ : ∃ u, us[n]? = some u := ⟨_, List.getElem?_eq_getElem hlt⟩
      obtain ⟨k0, k1, k2, k3, k4, k5, k6, k7, k8⟩ := (HS.out.off O).cells hu
      have HU : Hid _ := hu
      have OA : Off (fun _ => False) w (wr.alloc (.cells #[.int .i64 (u.f 0), .int .i64 (u.f 1), .int .i64 (u.f 2), .int .i64 (u.f 3), .int .i64 (u.f 4), .int .i64 (u.f 5), .int .i64 (u.f 6), .int .i64 (u.f 7), .slice u.a u.l.length u.cap] 26)) := O.alloc _
      have HO : Hid _ := OA
      clear hu OA O
      by_cases hb : 40 < u.l.length
      · have d1 : decide ((40 : Int) < (u.l.length : Int)) = true := decide_eq_true (by omega)
        have d2 : decide (40 < u.l.length) = true := decide_eq_true hb
        go_wp2_with fail
        go_ret
        refine ⟨?_, HO.out⟩
        have : lightB us = false := by
          simp only [lightB, List.all_eq_false]
          exact ⟨u, List.mem_of_getElem? HU.out, by simp; omega⟩
        rw [this]
        rfl
      · have d1 : decide ((40 : Int) < (u.l.length : Int)) = false := decide_eq_false (by omega)
        have d2 : decide (40 < u.l.length) = false := decide_eq_false hb
        go_wp2_with fail
        go_roundw
        case rel =>
          refine ⟨n + 1, by go_num, by omega, fun i x hi hx => ?_, HO.out⟩
          rcases Nat.lt_or_ge i n with h | h
          · exact HG.out i x h hx
          · obtain rfl : i = n := by omega
            rw [HU.out] at hx
            cases hx
            omega
        case measure => simp [intOf]; omega
    · obtain rfl : n = us.length := by omega
      have e1 : decide ((us.length : Int) < (us.length : Int)) = false := decide_eq_false (by omega)
      have e2 : decide (us.length < us.length) = false := decide_eq_false (by omega)
      go_wp2_with fail
      go_ret
      refine ⟨?_, O⟩
      have : lightB us = true := by
        simp only [lightB, List.all_eq_true, decide_eq_true_eq]
        intro u hu
        obtain ⟨i, hi⟩ := List.getElem?_of_mem hu
        have hlt : i < us.length := by
          obtain ⟨h, -⟩ := List.getElem?_eq_some_iff.1 hi
          exact h
        exact HG.out i u hlt hi
      rw [this]
      rfl

/-- All may be, and they are few. -/
def fewB (us : List U) : Bool := haveI : ∀ u : U, Decidable (MayP u.f (cont u.l)) := fun u => MayP.dec u.f (cont u.l); decide ((∀ u ∈ us, MayP u.f (cont u.l)) ∧ (us.map fun u => u.l.length).sum ≤ 16)
set_option maxRecDepth 100000 in
set_option maxHeartbeats 1000000 in
theorem few_any (B : Nat) (c : Nat) (us : List U) (w : World) (h : Sl w B us) (hn : us.length ≤ 10) : Calls Try.prog 44 #[.slice (some ⟨B, 0, none⟩) us.length c] w fun e w' => e = .returned (.bool (fewB us)) ∧ Off (fun _ => False) w w' := by
  have hnot := not_any
  have HS : Hid _ := h
  clear h
  go_enter Try.func44, Try.ntmps44
  go_wp2_with fail
  go_loopw [3, 8] (fun x y wr => ∃ (n s : Nat), y = .int .i64 (n : Int) ∧ x = .int .i64 (s : Int) ∧ n ≤ us.length ∧ s ≤ 16 * n ∧ s = ((us.take n).map fun u => u.l.length).sum ∧ (∀ i u, i < n → us[i]? = some u → MayP u.f (cont u.l)) ∧ Off (fun _ => False) w wr) (fun _ y _ => (us.length - intOf y).toNat)
  case atStart => exact ⟨0, 0, rfl, rfl, by omega, by omega, by simp, fun i u hi => by omega, Off.refl _ w⟩
  case round =>
    obtain ⟨n, s, rfl, rfl, hnn, hs, hsum, hg, O⟩ := hrel
    have HG : Hid _ := hg
    have HSUM : Hid _ := hsum
    clear hg hsum
    by_cases hlt : n < us.length
    · have e1 : decide ((n : Int) < (us.length : Int)) = true := decide_eq_true (by omega)
      have e2 : decide (n < us.length) = true := decide_eq_true hlt
      obtain ⟨u, hu⟩ : ∃ u, us[n]? = some u := ⟨_, List.getElem?_eq_getElem hlt⟩
      have hsl := HS.out.off O
      obtain ⟨k0, k1, k2, k3, k4, k5, k6, k7, k8⟩ := hsl.cells hu
      have ru := (hsl.row u (List.mem_of_getElem? hu)).off ((Off.refl (fun _ => False) wr).alloc (.cells #[.int .i64 (u.f 0), .int .i64 (u.f 1), .int .i64 (u.f 2), .int .i64 (u.f 3), .int .i64 (u.f 4), .int .i64 (u.f 5), .int .i64 (u.f 6), .int .i64 (u.f 7), .slice u.a u.l.length u.cap] 26))
      have C0 := Cel.new wr 26 #[.int .i64 (u.f 0), .int .i64 (u.f 1), .int .i64 (u.f 2), .int .i64 (u.f 3), .int .i64 (u.f 4), .int .i64 (u.f 5), .int .i64 (u.f 6), .int .i64 (u.f 7), .slice u.a u.l.length u.cap]
      have OA : Off (fun _ => False) w (wr.alloc (.cells #[.int .i64 (u.f 0), .int .i64 (u.f 1), .int .i64 (u.f 2), .int .i64 (u.f 3), .int .i64 (u.f 4), .int .i64 (u.f 5), .int .i64 (u.f 6), .int .i64 (u.f 7), .slice u.a u.l.length u.cap] 26)) := O.alloc _
      have HU : Hid _ := hu
      have HO : Hid _ := OA
      have HC : Hid _ := C0
      have HRU : Hid _ := ru
      clear hu OA O hsl ru C0
      cases hm : mayS u.f (cont u.l)
      · go_wp2_with fail
        refine (gmay_any u.f u.a u.cap u.l _ HRU.out).mono ?_
        rw [hm]
        rintro e w1 ⟨rfl, o1⟩
        go_wp2_with fail
        go_ret
        refine ⟨?_, HO.out.trans o1 (fun _ _ h => h)⟩
        have : fewB us = false := by
          simp only [fewB, decide_eq_false_iff_not]
          intro h
          rw [may_yes (h.1 u (List.mem_of_getElem? HU.out))] at hm
          cases hm
        rw [this]
        rfl
      · have hl16 : u.l.length ≤ 16 := by have := (may_iff.1 hm).few; rwa [cont_len] at this
        go_wp2_with fail
        refine (gmay_any u.f u.a u.cap u.l _ HRU.out).mono ?_
        rw [hm]
        rintro e w1 ⟨rfl, o1⟩
        have c8 := (HC.out.off o1 (fun h => h)).cell 8
        simp at c8
        clear k0 k1 k2 k3 k4 k5 k6 k7 k8
        go_wp2_with fail
        go_roundw
        case rel =>
          refine ⟨n + 1, s + u.l.length, by go_num, by go_num, by omega, by omega, ?_, fun i x hi hx => ?_, HO.out.trans o1 (fun _ _ h => h)⟩
          · rw [List.take_add_one, HU.out, List.map_append, List.sum_append, ← HSUM.out]
            simp
          · rcases Nat.lt_or_ge i n with h | h
            · exact HG.out i x h hx
            · obtain rfl : i = n := by omega
              rw [HU.out] at hx
              cases hx
              exact may_iff.1 hm
        case measure => simp [intOf]; omega
    · obtain rfl : n = us.length := by omega
      have e1 : decide ((us.length : Int) < (us.length : Int)) = false := decide_eq_false (by omega)
      have e2 : decide (us.length < us.length) = false := decide_eq_false (by omega)
      have hf : decide ((s : Int) ≤ 16) = fewB us := by
        rw [Bool.eq_iff_iff]
        simp only [fewB, decide_eq_true_eq]
        have hs2 := HSUM.out
        rw [List.take_length] at hs2
        constructor
        · intro h
          refine ⟨fun u hu => ?_, by omega⟩
          obtain ⟨i, hi⟩ := List.getElem?_of_mem hu
          have hlt : i < us.length := by
            obtain ⟨h, -⟩ := List.getElem?_eq_some_iff.1 hi
            exact h
          exact HG.out i u hlt hi
        · intro h
          have := h.2
          omega
      have HF : Hid _ := hf
      clear hf
      go_wp2_with fail
      go_ret
      refine ⟨?_, O⟩
      rw [← HF.out]
      first | rfl | (congr 2; simp) | (simp; omega)
end Go.Proofs.Ytfkpnmmcdhibbaa
