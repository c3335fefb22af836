/- The walk of KeysOnce. -/
import Derived.Test.YtdkmnnihgobmoaaAwk9
namespace Go.Proofs.Ytdkmnnihgobmoaa
open Go.RowKit

set_option maxRecDepth 100000 in
set_option maxHeartbeats 1000000 in
theorem once_walk (s : ByteArray) (w : World) (hs : s.size ≤ 140737488351232) :
    Calls Try.prog 6 #[.string s] w fun e w' => e = .returned (.bool true) ∧ Off (fun _ => False) w w' := by
  have hnot := not_any
  have hl := tx_len s
  have HL : Hid _ := hl
  clear hl
  go_enter Try.func6, Try.ntmps6
  go_wp2_with fail
  refine (parse_any s hs _).mono ?_
  rintro e w1 ⟨r, ok, rfl, told, o1⟩
  have O1 : Hid _ := o1
  clear o1
  rcases told.is with ⟨rfl, htx⟩ | ⟨rfl, rfl, -⟩
  · have HT : Hid _ := htx
    have hrs : r.size ≤ s.size := by
      have := (txt_len (tx r)).1
      rw [htx, tx_len, tx_len] at this
      exact this
    clear told htx
    by_cases h5 : 500 < s.size
    · have d5 : decide ((500 : Int) < (s.size : Int)) = true := decide_eq_true (by omega)
      go_wp2_with fail
      refine (awake_any _).mono ?_
      rintro e va ⟨rfl, oa⟩
      go_wp2_with fail
      go_ret
      exact ⟨rfl, O1.out.trans oa (fun _ _ h => h)⟩
    · have d5 : decide ((500 : Int) < (s.size : Int)) = false := decide_eq_false (by omega)
      go_wp2_with fail
      go_loopw [25] (fun i wr => ∃ (j : Nat), j ≤ s.size ∧ i = .int .i64 j ∧ wr = w1) (fun i _ => (s.size - intOf i).toNat)
      case atStart => exact ⟨0, by omega, rfl, rfl⟩
      case round =>
        obtain ⟨j, hj, rfl, rfl⟩ := hrel
        by_cases hlt : j < s.size
        · have hix := idx_any s (i := j) (by rw [HL.out]; exact hlt) .i64
          have hc := tx_at s (i := j) (by rw [HL.out]; exact hlt)
          have hform : pl ((tx s).getD j 0) = true ∨ (tx s).getD j 0 = 37 := by
            have hm : (tx s).getD j 0 ∈ tx s := by
              have h' : j < (tx s).length := by rw [HL.out]; exact hlt
              rw [List.getD_eq_getElem?_getD, List.getElem?_eq_getElem h']
              exact List.getElem_mem h'
            rw [← HT.out] at hm
            rw [← HT.out]
            exact txt_form (tx_lt r) _ hm
          generalize (tx s).getD j 0 = c at *
          rw [pl_iff] at hform
          by_cases h1 : 97 ≤ c
          · have e1 : decide ((c : Int) < 97) = false := decide_eq_false (by omega)
            have e2 : decide ((122 : Int) < (c : Int)) = false := decide_eq_false (by omega)
            clear hform
            go_wp2_with fail
            go_roundw
            case rel => exact ⟨j + 1, by omega, by go_num, trivial⟩
            case measure => simp [intOf]; omega
          · have e1 : decide ((c : Int) < 97) = true := decide_eq_true (by omega)
            by_cases h2 : c = 37
            · subst h2
              clear hform
              go_wp2_with fail
              go_roundw
              case rel => exact ⟨j + 1, by omega, by go_num, trivial⟩
              case measure => simp [intOf]; omega
            · have e2 : decide ((c : Int) < 48) = false := decide_eq_false (by omega)
              have e3 : decide ((57 : Int) < (c : Int)) = false := decide_eq_false (by omega)
              clear hform
              go_wp2_with fail
              go_roundw
              case rel => exact ⟨j + 1, by omega, by go_num, trivial⟩
              case measure => simp [intOf]; omega
        · obtain rfl : j = s.size := by omega
          have d7 : decide ((r.size : Int) ≤ (s.size : Int)) = true := decide_eq_true (by omega)
          go_wp2_with fail
          refine (text_any r (by omega) _).mono ?_
          rintro e w2 ⟨q, rfl, hq, o2⟩
          have e1 : (q.toList == s.toList) = true := eql_tx (hq.trans HT.out)
          have O2 : Hid _ := O1.out.trans o2 (fun _ _ h => h)
          clear hq o2
          go_wp2_with fail
          refine (awake_any _).mono ?_
          rintro e va ⟨rfl, oa⟩
          go_wp2_with fail
          go_ret
          exact ⟨rfl, O2.out.trans oa (fun _ _ h => h)⟩
  · clear told
    go_wp2_with fail
    refine (awake_any _).mono ?_
    rintro e va ⟨rfl, oa⟩
    go_wp2_with fail
    go_ret
    exact ⟨rfl, O1.out.trans oa (fun _ _ h => h)⟩
end Go.Proofs.Ytdkmnnihgobmoaa
