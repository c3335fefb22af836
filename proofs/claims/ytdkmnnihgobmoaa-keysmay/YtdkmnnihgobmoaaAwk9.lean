/- awake. -/
import Derived.Test.YtdkmnnihgobmoaaPar9
namespace Go.Proofs.Ytdkmnnihgobmoaa
open Go.RowKit

theorem eql_tx {r s : ByteArray} (h : tx r = tx s) : (r.toList == s.toList) = true := by rw [tx_eql]; exact decide_eq_true h
theorem neq_tx {r s : ByteArray} (h : tx r ≠ tx s) : (r.toList == s.toList) = false := by rw [tx_eql]; exact decide_eq_false h
set_option maxRecDepth 100000 in
theorem awake_any (w : World) : Calls Try.prog 17 #[] w fun e w' => e = .returned (.bool true) ∧ Off (fun _ => False) w w' := by
  have hnot := not_any
  go_enter Try.func17, Try.ntmps17
  go_wp2_with fail
  refine (bucket_any _ (by decide) _).mono ?_
  rintro e w1 ⟨rfl, hw⟩
  rw [hw]
  clear hw w1
  have e1 : ((bkt (tx ⟨#[97, 98]⟩) : Nat) : Int) = 3 := rfl
  rw [e1]
  go_wp2_with fail
  refine (text_any ⟨#[97, 47, 98]⟩ (by decide) _).mono ?_
  rintro e w2 ⟨r, rfl, hr, o2⟩
  obtain rfl : r = ⟨#[97, 37, 50, 102, 98]⟩ := tx_inj (hr.trans (by decide +kernel))
  clear hr
  go_wp2_with fail
  refine (may_any _ _).mono ?_
  rintro e w3 ⟨rfl, hw⟩
  rw [hw]
  clear hw w3
  have e3 : keyB ⟨#[97]⟩ = true := rfl
  rw [e3]
  go_wp2_with fail
  refine (may_any _ _).mono ?_
  rintro e w3 ⟨rfl, hw⟩
  rw [hw]
  clear hw w3
  have e4 : keyB ⟨#[]⟩ = false := rfl
  rw [e4]
  go_wp2_with fail
  go_ret
  exact ⟨rfl, o2⟩
end Go.Proofs.Ytdkmnnihgobmoaa
