/- Vectors written and taken, by the program and by the reference. -/
import Derived.Test.YtalcfkdmlebkbaaDoorRefV
import Derived.Test.YtalcfkdmlebkbaaDoorRefR
import Derived.Test.YtalcfkdmlebkbaaDoorRefW
namespace Go.Proofs.YtalcfkdmlebkbaaDoor
open Go.RowKit

def encV (f : Nat → Int) : Nat → List Nat
  | 0 => []
  | n + 1 => encV f n ++ numB (zig (f n))
theorem encV_len (f : Nat → Int) (hr : ∀ j, j < 8 → -9223372036854775808 ≤ f j ∧ f j ≤ 9223372036854775807) : ∀ n, n ≤ 8 → (encV f n).length ≤ 10 * n
  | 0, _ => by simp [encV]
  | n + 1, h => by
    have := encV_len f hr n (by omega)
    have h2 := numB_ten (zig_lt (hr n (by omega)).1 (hr n (by omega)).2)
    simp only [encV, List.length_append]
    omega
theorem putV (f : Nat → Int) (hr : ∀ j, j < 8 → -9223372036854775808 ≤ f j ∧ f j ≤ 9223372036854775807) (n : Nat) (h : n < 8) : putS 200 (some (encV f n)) (numB (zig (f n))) = some (encV f (n + 1)) := by
  have h1 := encV_len f hr n (by omega)
  have h2 := numB_ten (zig_lt (hr n h).1 (hr n h).2)
  simp only [putS, encV]
  rw [if_pos (by omega)]

set_option maxRecDepth 100000 in
theorem vwrite_any {D : Nat → Prop} {b : Nat} {w : World} (hW : Wtr D b 200 (some []) w) (f : Nat → Int) (hr : ∀ j, j < 8 → -9223372036854775808 ≤ f j ∧ f j ≤ 9223372036854775807) :
    Calls Tryd.prog 25 #[.pointer (some ⟨b, 0, none⟩), .agg #[.int .i64 (f 0), .int .i64 (f 1), .int .i64 (f 2), .int .i64 (f 3), .int .i64 (f 4), .int .i64 (f 5), .int .i64 (f 6), .int .i64 (f 7)]] w fun e w' => e = .returned (.tuple #[]) ∧ ∃ D', Wtr D' b 200 (some (encV f 8)) w' ∧ Off D w w' ∧ ∀ c, D' c → D c ∨ w.heap.size ≤ c := by
  have HW : Hid _ := hW
  clear hW
  go_enter Tryd.func25, Tryd.ntmps25
  go_wp2_with fail
  go_loopw [7] (fun y wr => ∃ (n : Nat) (D' : Nat → Prop), y = .int .i64 (n : Int) ∧ n ≤ 8 ∧ Wtr D' b 200 (some (encV f n)) wr ∧ Off D w wr ∧ ∀ c, D' c → D c ∨ w.heap.size ≤ c) (fun y _ => (8 - intOf y).toNat)
  case atStart => exact ⟨0, D, rfl, by omega, HW.out.off ((Off.refl (fun _ => False) w).alloc _) (fun _ _ _ h => h), (Off.refl _ w).alloc _, fun c h => .inl h⟩
  case round =>
    obtain ⟨n, D', rfl, hn, hw, O, hD⟩ := hrel
    have HW' : Hid _ := hw
    have HD : Hid _ := hD
    clear hw hD
    by_cases h : n < 8
    · have hd : decide ((n : Int) < 8) = true := by simp; omega
      have hi := idx_vec f h
      have hl := encV_len f hr n (by omega)
      go_wp2_with fail
      refine (wint_any HW'.out (f n) (hr n h).1 (hr n h).2 (by simp; omega)).mono ?_
      rw [show Put D' b 200 (some (encV f n)) (numB (zig (f n))) wr = fun w' => ∃ E, Wtr E b 200 (some (encV f (n + 1))) w' ∧ Off D' wr w' ∧ ∀ c, E c → D' c ∨ wr.heap.size ≤ c from by funext w'; simp only [Put, putV f hr n h]]
      rintro e v ⟨rfl, E, W1, o1, hE⟩
      have HW1 : Hid _ := W1
      have HE : Hid _ := hE
      clear W1 hE
      go_wp2_with fail
      go_roundw
      case rel =>
        refine ⟨n + 1, E, by go_num, by omega, HW1.out, O.trans o1 (fun i hi h => (HD.out i h).elim id (fun h2 => by omega)), fun c hc => ?_⟩
        rcases HE.out c hc with h1 | h1
        · exact HD.out c h1
        · exact .inr (Nat.le_trans O.size h1)
      case measure => simp [intOf]; omega
    · obtain rfl : n = 8 := by omega
      go_wp2_with fail
      first | go_end0 | refine bodyPost_ret (results_none rfl _ _ _) rfl ?_
      exact ⟨rfl, D', HW'.out, O, HD.out⟩
set_option maxRecDepth 100000 in
theorem fvwrite_any {D : Nat → Prop} {b : Nat} {w : World} (hW : FW D b 200 (some []) w) (f : Nat → Int) (hr : ∀ j, j < 8 → -9223372036854775808 ≤ f j ∧ f j ≤ 9223372036854775807) :
    Calls Tryd.prog 26 #[.pointer (some ⟨b, 0, none⟩), .agg #[.int .i64 (f 0), .int .i64 (f 1), .int .i64 (f 2), .int .i64 (f 3), .int .i64 (f 4), .int .i64 (f 5), .int .i64 (f 6), .int .i64 (f 7)]] w fun e w' => e = .returned (.tuple #[]) ∧ ∃ D', FW D' b 200 (some (encV f 8)) w' ∧ Off D w w' ∧ ∀ c, D' c → D c ∨ w.heap.size ≤ c := by
  have HW : Hid _ := hW
  clear hW
  go_enter Tryd.func26, Tryd.ntmps26
  go_wp2_with fail
  go_loopw [7] (fun y wr => ∃ (n : Nat) (D' : Nat → Prop), y = .int .i64 (n : Int) ∧ n ≤ 8 ∧ FW D' b 200 (some (encV f n)) wr ∧ Off D w wr ∧ ∀ c, D' c → D c ∨ w.heap.size ≤ c) (fun y _ => (8 - intOf y).toNat)
  case atStart => exact ⟨0, D, rfl, by omega, HW.out.off ((Off.refl (fun _ => False) w).alloc _) (fun _ _ _ h => h), (Off.refl _ w).alloc _, fun c h => .inl h⟩
  case round =>
    obtain ⟨n, D', rfl, hn, hw, O, hD⟩ := hrel
    have HW' : Hid _ := hw
    have HD : Hid _ := hD
    clear hw hD
    by_cases h : n < 8
    · have hd : decide ((n : Int) < 8) = true := by simp; omega
      have hi := idx_vec f h
      have hl := encV_len f hr n (by omega)
      go_wp2_with fail
      refine (fwint_any HW'.out (f n) (hr n h).1 (hr n h).2 (by simp; omega)).mono ?_
      rw [show FPut D' b 200 (some (encV f n)) (numB (zig (f n))) wr = fun w' => ∃ E, FW E b 200 (some (encV f (n + 1))) w' ∧ Off D' wr w' ∧ ∀ c, E c → D' c ∨ wr.heap.size ≤ c from by funext w'; simp only [FPut, putV f hr n h]]
      rintro e v ⟨rfl, E, W1, o1, hE⟩
      have HW1 : Hid _ := W1
      have HE : Hid _ := hE
      clear W1 hE
      go_wp2_with fail
      go_roundw
      case rel =>
        refine ⟨n + 1, E, by go_num, by omega, HW1.out, O.trans o1 (fun i hi h => (HD.out i h).elim id (fun h2 => by omega)), fun c hc => ?_⟩
        rcases HE.out c hc with h1 | h1
        · exact HD.out c h1
        · exact .inr (Nat.le_trans O.size h1)
      case measure => simp [intOf]; omega
    · obtain rfl : n = 8 := by omega
      go_wp2_with fail
      first | go_end0 | refine bodyPost_ret (results_none rfl _ _ _) rfl ?_
      exact ⟨rfl, D', HW'.out, O, HD.out⟩

def rdV (s : RS) : Nat → RS
  | 0 => s
  | n + 1 => (intS (rdV s n)).2
def rdF (s : RS) (j : Nat) : Int := (intS (rdV s j)).1
def readB (s : RS) : Bool := decide ((rdV s 8).2 = 0) && mayB (rdF s)
def readF (s : RS) : Nat → Int := if readB s = true then rdF s else zer
theorem results_vecb {fn : Func} {p u : Tmp} (h : fn.results = #[.cell p 23, .tmp u]) {tmps : Array Value} {w : World} {b : Nat} {f : Nat → Int} (hp : tmps.getD p undef = .pointer (some ⟨b, 0, none⟩)) {v : Value} (hu : tmps.getD u undef = v) (hc : Cel b 23 #[.int .i64 (f 0), .int .i64 (f 1), .int .i64 (f 2), .int .i64 (f 3), .int .i64 (f 4), .int .i64 (f 5), .int .i64 (f 6), .int .i64 (f 7)] w) :
    (results fn tmps).run Tryd.prog w = .ok (.tuple #[.agg #[.int .i64 (f 0), .int .i64 (f 1), .int .i64 (f 2), .int .i64 (f 3), .int .i64 (f 4), .int .i64 (f 5), .int .i64 (f 6), .int .i64 (f 7)], v]) w := by
  rw [results_cell_tmp h]
  have ha : (asAddr (.pointer (some ⟨b, 0, none⟩))).run Tryd.prog w = .ok ⟨b, 0, none⟩ w := rfl
  rw [hp, hu, ha]
  have hv := run_loadVar_row (P := Tryd.prog) w b 23 23 #[.int .i64 (f 0), .int .i64 (f 1), .int .i64 (f 2), .int .i64 (f 3), .int .i64 (f 4), .int .i64 (f 5), .int .i64 (f 6), .int .i64 (f 7)] (0, 0) (.array 8 2) hc.is (by kernel_rfl) rfl (by kernel_rfl)
  simp only [Result.andThen, hv]
theorem vfailed_any {D : Nat → Prop} {b : Nat} {s : RS} {w : World} (hR : Rdr 69 D b s w) :
    Calls Tryd.prog 43 #[.pointer (some ⟨b, 0, none⟩)] w fun e w' => e = .returned (.bool (!decide (s.2 = 0))) ∧ w' = w := by
  have HR : Hid _ := hR
  have hok := hR.ok
  clear hR
  by_cases h0 : s.1.length = 0
  · have e0 : (((s.1.length : Nat) : Int) == 0) = true := by simp [h0]
    have he : endS s = s.2 := by
      have : s.1 = [] := List.eq_nil_of_length_eq_zero h0
      simp [endS, this]
    have e1 : ((((endS s : Nat) : Int)) != 0) = !decide (s.2 = 0) := by
      rw [he]
      by_cases h2 : s.2 = 0
      · simp [h2]
      · have : (((s.2 : Nat) : Int) != 0) = true := by simp [h2]
        rw [this]
        simp [h2]
    clear h0 he hok
    go_enter Tryd.func43, Tryd.ntmps43
    go_wp2_with fail
    refine (rleft_any HR.out).mono ?_
    rintro e w1 ⟨rfl, hw⟩
    rw [hw]; clear hw w1
    go_wp2_with fail
    refine (rend_any HR.out).mono ?_
    rintro e w1 ⟨rfl, hw⟩
    rw [hw]; clear hw w1
    go_wp2_with fail
    go_ret
    exact ⟨rfl, rfl⟩
  · have e0 : (((s.1.length : Nat) : Int) == 0) = false := by rw [beq_eq_false_iff_ne]; omega
    have h2 : s.2 = 0 := by
      rcases Nat.eq_zero_or_pos s.2 with h | h
      · exact h
      · have := hok.2.1 (by omega)
        simp [this] at h0
    have e1 : Hid ((!decide (s.2 = 0)) = false) := (show (!decide (s.2 = 0)) = false by simp [h2])
    clear h0 h2 hok
    go_enter Tryd.func43, Tryd.ntmps43
    go_wp2_with fail
    refine (rleft_any HR.out).mono ?_
    rintro e w1 ⟨rfl, hw⟩
    rw [hw]; clear hw w1
    go_wp2_with fail
    go_ret
    rw [e1.out]
    exact ⟨rfl, rfl⟩
end Go.Proofs.YtalcfkdmlebkbaaDoor
