/- Add, Has, Done, Meet, a count that there is not. -/
import Derived.Test.YtapopmcdnpplbaaCn21
namespace Go.Proofs.Ytapopmcdnpplbaa
set_option maxRecDepth 100000
open Go.RowKit

theorem Off.drewN {D : Nat → Prop} {a w : World} (h : Off D a w) (n : Nat) : Off D a (w.drewN n) := ⟨h.os, h.tape, h.output, h.size, h.block⟩
theorem Cnt.drewN {b : Nat} {m : Int} {f : Nat → Bool} {w : World} (h : Cnt b m f w) (n : Nat) : Cnt b m f (w.drewN n) := ⟨⟨h.cel.is⟩⟩

set_option maxHeartbeats 1000000 in
theorem has_no {x : Int} (hx : okN x = false) (b : Nat) (w : World) : Calls Try.prog 11 #[.pointer (some ⟨b, 0, none⟩), .int .i64 x] w fun e w' => e = .returned (.bool false) ∧ w' = w := by
  have HN : Hid _ := named_any x w
  rw [hx] at HN
  clear hx
  go_enter Try.func11, Try.ntmps11
  go_wp2_with fail
  refine Calls.mono HN.out ?_
  rintro e w1 ⟨rfl, hw⟩
  rw [hw]
  clear hw w1 HN
  go_wp2_with fail
  go_ret
  exact ⟨rfl, rfl⟩
set_option maxHeartbeats 1000000 in
theorem has_at {b : Nat} {m : Int} {f : Nat → Bool} {w : World} (h : Cnt b m f w) {n : Nat} (hn : n < 8) : Calls Try.prog 11 #[.pointer (some ⟨b, 0, none⟩), .int .i64 (n : Int)] w fun e w' => e = .returned (.bool (f n)) ∧ w' = w := by
  have HN : Hid _ := named_any (n : Int) w
  rw [okN_of hn] at HN
  have ha := at9 b hn
  have hc := h.at_ hn
  clear h hn
  go_enter Try.func11, Try.ntmps11
  go_wp2_with fail
  refine Calls.mono HN.out ?_
  rintro e w1 ⟨rfl, hw⟩
  rw [hw]
  clear hw w1 HN
  go_wp2_with fail
  go_ret
  exact ⟨rfl, rfl⟩

set_option maxHeartbeats 1000000 in
theorem add_none {x : Int} (hx : okN x = false) (b : Nat) (w : World) : Calls Try.prog 8 #[.pointer (some ⟨b, 0, none⟩), .int .i64 x] w fun e w' => e = .returned (.bool false) ∧ w' = w := by
  have HN : Hid _ := named_any x w
  rw [hx] at HN
  clear hx
  go_enter Try.func8, Try.ntmps8
  go_wp2_with fail
  refine Calls.mono HN.out ?_
  rintro e w1 ⟨rfl, hw⟩
  rw [hw]
  clear hw w1 HN
  go_wp2_with fail
  go_ret
  exact ⟨rfl, rfl⟩
set_option maxHeartbeats 1000000 in
theorem add_twice {b : Nat} {m : Int} {f : Nat → Bool} {w : World} (h : Cnt b m f w) {n : Nat} (hn : n < 8) (hf : f n = true) : Calls Try.prog 8 #[.pointer (some ⟨b, 0, none⟩), .int .i64 (n : Int)] w fun e w' => e = .returned (.bool false) ∧ w' = w := by
  have HN : Hid _ := named_any (n : Int) w
  rw [okN_of hn] at HN
  have ha := at9 b hn
  have hc := h.at_ hn
  rw [hf] at hc
  clear h hn hf
  go_enter Try.func8, Try.ntmps8
  go_wp2_with fail
  refine Calls.mono HN.out ?_
  rintro e w1 ⟨rfl, hw⟩
  rw [hw]
  clear hw w1 HN
  go_wp2_with fail
  go_ret
  exact ⟨rfl, rfl⟩
set_option maxHeartbeats 1000000 in
theorem add_new {b : Nat} {m : Int} {f : Nat → Bool} {w : World} (h : Cnt b m f w) {n : Nat} (hn : n < 8) (hf : f n = false) : Calls Try.prog 8 #[.pointer (some ⟨b, 0, none⟩), .int .i64 (n : Int)] w fun e w' => e = .returned (.bool (decide ((cnt f 8 : Int) + 1 = m))) ∧ Cnt b m (put f n) w' ∧ Off (fun c => c = b) w w' := by
  have HN : Hid _ := named_any (n : Int) w
  rw [okN_of hn] at HN
  have ha := at9 b hn
  have hc := h.at_ hn
  have fr := h.cel.free (n + 1)
  rw [hf] at hc
  have HC : Hid (Cnt b m (put f n) (w.setCell ⟨b, n + 1, none⟩ (.bool true))) := h.set hn
  have HO : Hid (Off (fun c => c = b) w (w.setCell ⟨b, n + 1, none⟩ (.bool true))) := (Off.refl (fun c => c = b) w).setCell (p := ⟨b, n + 1, none⟩) (.inl rfl) _
  have HP : Hid (cnt (put f n) 8 = cnt f 8 + 1) := cnt_put hf hn
  clear h hn hf
  go_enter Try.func8, Try.ntmps8
  go_wp2_with fail
  refine Calls.mono HN.out ?_
  rintro e w1 ⟨rfl, hw⟩
  rw [hw]
  clear hw w1 HN
  go_wp2_with fail
  generalize w.setCell ⟨b, n + 1, none⟩ (.bool true) = v at *
  clear fr hc ha
  have hm := HC.out.need
  go_quiet ((go_at_call 9; refine Calls.quiet_of_same (len_any (HC.out.drewN _))))
  go_wp2_with fail
  go_ret
  rw [HP.out]
  exact ⟨rfl, HC.out.drewN _, HO.out.drewN _⟩
set_option maxHeartbeats 1000000 in
theorem done_any {b : Nat} {m : Int} {f : Nat → Bool} {w : World} (h : Cnt b m f w) : Calls Try.prog 10 #[.pointer (some ⟨b, 0, none⟩)] w fun e w' => e = .returned (.bool (decide (m ≤ (cnt f 8 : Int)))) ∧ ∃ k, w' = w.drewN k := by
  have HC : Hid _ := h
  have hm := h.need
  clear h
  go_enter Try.func10, Try.ntmps10
  go_wp2_with fail
  go_quiet ((go_at_call 9; refine Calls.quiet_of_same (len_any (HC.out.drewN _))))
  go_wp2_with fail
  go_ret
  exact ⟨rfl, _, rfl⟩

theorem some_any (x n : Int) (w : World) : Calls Try.prog 15 #[.int .i64 x, .int .i64 n] w fun e w' => e = .returned (.bool (decide (1 ≤ x) && decide (x ≤ n))) ∧ w' = w := by
  go_enter Try.func15, Try.ntmps15
  by_cases h : 1 ≤ x
  · have d : decide (1 ≤ x) = true := decide_eq_true h
    go_wp2_with fail
    go_ret
    first | exact ⟨rfl, rfl⟩ | (rw [d]; exact ⟨rfl, rfl⟩)
  · have d : decide (1 ≤ x) = false := decide_eq_false h
    go_wp2_with fail
    go_ret
    first | exact ⟨rfl, rfl⟩ | (rw [d]; exact ⟨rfl, rfl⟩)
def meetB (n r k : Int) : Bool := (decide (1 ≤ r) && decide (r ≤ n)) && (decide (1 ≤ k) && decide (k ≤ n)) && decide (n - r < k)
set_option maxHeartbeats 1000000 in
theorem meet_any (n r k : Int) (hn : n ≤ 9223372036854775807) (w : World) : Calls Try.prog 13 #[.int .i64 n, .int .i64 r, .int .i64 k] w fun e w' => e = .returned (.bool (meetB n r k)) ∧ w' = w := by
  have H1 : Hid _ := some_any r n w
  have H2 : Hid _ := some_any k n w
  by_cases h1 : (decide (1 ≤ r) && decide (r ≤ n)) = true
  · rw [h1] at H1
    by_cases h2 : (decide (1 ≤ k) && decide (k ≤ n)) = true
    · rw [h2] at H2
      have e : meetB n r k = decide (n - r < k) := by unfold meetB; rw [h1, h2]; rfl
      rw [e]
      simp at h1
      have ws : IntKind.i64.wrap (n - r) = n - r := by rw [IntKind.wrap_i64]; omega
      clear h1 h2 e
      go_enter Try.func13, Try.ntmps13
      go_wp2_with fail
      refine Calls.mono H1.out ?_
      rintro e w1 ⟨rfl, hw⟩
      rw [hw]
      clear hw w1 H1
      go_wp2_with fail
      refine Calls.mono H2.out ?_
      rintro e w1 ⟨rfl, hw⟩
      rw [hw]
      clear hw w1 H2
      go_wp2_with fail
      go_ret
      exact ⟨rfl, rfl⟩
    · replace h2 : (decide (1 ≤ k) && decide (k ≤ n)) = false := by simpa using h2
      rw [h2] at H2
      have e : meetB n r k = false := by unfold meetB; rw [h1, h2]; rfl
      rw [e]
      clear h1 h2 e
      go_enter Try.func13, Try.ntmps13
      go_wp2_with fail
      refine Calls.mono H1.out ?_
      rintro e w1 ⟨rfl, hw⟩
      rw [hw]
      clear hw w1 H1
      go_wp2_with fail
      refine Calls.mono H2.out ?_
      rintro e w1 ⟨rfl, hw⟩
      rw [hw]
      clear hw w1 H2
      go_wp2_with fail
      go_ret
      exact ⟨rfl, rfl⟩
  · replace h1 : (decide (1 ≤ r) && decide (r ≤ n)) = false := by simpa using h1
    rw [h1] at H1
    have e : meetB n r k = false := by unfold meetB; rw [h1]; rfl
    rw [e]
    clear h1 e
    go_enter Try.func13, Try.ntmps13
    go_wp2_with fail
    refine Calls.mono H1.out ?_
    rintro e w1 ⟨rfl, hw⟩
    rw [hw]
    clear hw w1 H1
    go_wp2_with fail
    go_ret
    exact ⟨rfl, rfl⟩

theorem add_nil (x : Int) (w : World) : Calls Try.prog 8 #[.pointer none, .int .i64 x] w fun e w' => e = .returned (.bool false) ∧ w' = w := by
  go_enter Try.func8, Try.ntmps8
  go_wp2_with fail
  go_ret
  exact ⟨rfl, rfl⟩
theorem has_nil (x : Int) (w : World) : Calls Try.prog 11 #[.pointer none, .int .i64 x] w fun e w' => e = .returned (.bool false) ∧ w' = w := by
  go_enter Try.func11, Try.ntmps11
  go_wp2_with fail
  go_ret
  exact ⟨rfl, rfl⟩
theorem len_nil (w : World) : Calls Try.prog 9 #[.pointer none] w fun e w' => e = .returned (.int .i64 0) ∧ w' = w := by
  go_enter Try.func9, Try.ntmps9
  go_wp2_with fail
  go_ret
  exact ⟨rfl, rfl⟩
theorem done_nil (w : World) : Calls Try.prog 10 #[.pointer none] w fun e w' => e = .returned (.bool false) ∧ ∃ k, w' = w.drewN k := by
  go_enter Try.func10, Try.ntmps10
  go_wp2_with fail
  go_quiet (fail)
  go_wp2_with fail
  go_ret
  exact ⟨rfl, _, rfl⟩

def emp : Nat → Bool := fun _ => false
theorem two : cnt (put (put (put emp 1) 0) 2) 8 = 3 := by decide +kernel
theorem one : cnt (put emp 1) 8 = 1 := by decide +kernel
theorem both : cnt (put (put emp 1) 0) 8 = 2 := by decide +kernel
set_option maxHeartbeats 1000000 in
theorem awake_any (w : World) : Calls Try.prog 12 #[] w fun e w' => e = .returned (.bool true) ∧ Off (fun _ => False) w w' := by
  have HN : Hid _ := qnew_any 2 w
  go_enter Try.func12, Try.ntmps12
  go_wp2_with fail
  refine Calls.mono HN.out ?_
  rintro e w1 ⟨rfl, h1, o1⟩
  have H1 : Hid (Cnt w.heap.size 2 emp w1) := h1
  have O1 : Hid _ := o1
  obtain ⟨b, hb⟩ : ∃ b, b = w.heap.size := ⟨_, rfl⟩
  have HB : Hid (b = w.heap.size) := hb
  rw [← hb] at H1 ⊢
  clear h1 o1 hb HN
  go_wp2_with fail
  refine Calls.mono (add_new (n := 1) H1.out (by decide) rfl) ?_
  rw [show cnt emp 8 = 0 by decide +kernel]
  rintro e w2 ⟨rfl, h2, o2⟩
  have H2 : Hid _ := h2
  have O2 : Hid _ := O1.out.trans o2 (fun i hi e => absurd hi (by have e : i = b := e; have := HB.out; omega))
  clear h2 o2 O1 H1
  go_wp2_with fail
  refine Calls.mono (add_twice (n := 1) H2.out (by decide) rfl) ?_
  rintro e w3 ⟨rfl, hw⟩
  rw [hw]
  clear hw w3
  go_wp2_with fail
  refine Calls.mono (add_new (n := 0) H2.out (by decide) rfl) ?_
  rw [one]
  rintro e w3 ⟨rfl, h3, o3⟩
  have H3 : Hid _ := h3
  have O3 : Hid _ := O2.out.trans o3 (fun i hi e => absurd hi (by have e : i = b := e; have := HB.out; omega))
  clear h3 o3 O2 H2
  go_wp2_with fail
  refine Calls.mono (add_new (n := 2) H3.out (by decide) rfl) ?_
  rw [both]
  rintro e w4 ⟨rfl, h4, o4⟩
  have H4 : Hid _ := h4
  have O4 : Hid _ := O3.out.trans o4 (fun i hi e => absurd hi (by have e : i = b := e; have := HB.out; omega))
  clear h4 o4 O3 H3
  go_wp2_with fail
  refine Calls.mono (len_any H4.out) ?_
  rw [two]
  rintro e w5 ⟨rfl, hw⟩
  rw [hw]
  clear hw w5
  go_wp2_with fail
  refine Calls.mono (done_any H4.out) ?_
  rw [two]
  rintro e w5 ⟨rfl, k, hw⟩
  rw [hw]
  clear hw w5
  go_wp2_with fail
  go_ret
  exact ⟨rfl, O4.out.drewN _⟩

theorem nil_walk (q0 : Int) (w : World) (_ : -9223372036854775808 ≤ q0 ∧ q0 ≤ 9223372036854775807) : Calls Try.prog 4 #[.int .i64 q0] w fun e w' => e = .returned (.bool true) ∧ Off (fun _ => False) w w' := by
  have h1 := add_nil q0 w
  have h2 := has_nil q0 w
  have h3 := len_nil w
  have h4 := done_nil w
  go_enter Try.func4, Try.ntmps4
  go_wp2_with fail
  refine Calls.mono h1 ?_
  rintro e w7 ⟨rfl, hw⟩
  rw [hw]
  clear hw w7
  go_wp2_with fail
  refine Calls.mono h2 ?_
  rintro e w7 ⟨rfl, hw⟩
  rw [hw]
  clear hw w7
  go_wp2_with fail
  refine Calls.mono h3 ?_
  rintro e w7 ⟨rfl, hw⟩
  rw [hw]
  clear hw w7
  go_wp2_with fail
  refine Calls.mono h4 ?_
  rintro e w7 ⟨rfl, k, hw⟩
  rw [hw]
  clear hw w7
  go_wp2_with fail
  refine Calls.mono (awake_any _) ?_
  rintro e w7 ⟨rfl, o⟩
  have HO : Hid _ := ((Off.refl (fun _ => False) w).drewN k).trans o (fun _ _ h => h)
  clear o
  go_wp2_with fail
  go_ret
  exact ⟨rfl, HO.out⟩
end Go.Proofs.Ytapopmcdnpplbaa
