/- The walk of ViewNil. -/
import Derived.Test.YtakijikehpblfaaVa16
import Derived.Test.YtakijikehpblfaaVn16
namespace Go.Proofs.Ytakijikehpblfaa
set_option maxRecDepth 100000
open Go.RowKit

set_option maxHeartbeats 1000000 in
theorem nil_walk (n : Int) (t : Option Addr) (c : Nat) (l : List Mb) (w : World) (_ : -9223372036854775808 ≤ n ∧ n ≤ 9223372036854775807) (hl : Mls w t c l) :
    Calls Try.prog 4 #[.int .i64 n, .slice t l.length c] w fun e w' => e = .returned (.bool true) ∧ Off (fun _ => False) w w' := by
  have H1 : Hid _ := asked_nil n w
  have H2 : Hid _ := heard_nil n w
  have H3 : Hid _ := join_nilv t c l hl
  have H4 : Hid _ := suspect_nil n
  have H5 : Hid _ := tick_nil
  have H6 : Hid _ := state_nil n
  have H7 : Hid _ := all_nil
  have H8 : Hid _ := missed_nil n
  have H9 : Hid _ := awake_any
  have hll := hl.len
  clear hl
  go_enter Try.func4, Try.ntmps4
  go_wp2_with fail
  refine Calls.mono H1.out ?_
  rintro e w2 ⟨rfl, hw⟩
  rw [hw]
  clear hw w2
  go_wp2_with fail
  refine Calls.mono H2.out ?_
  rintro e w2 ⟨rfl, hw⟩
  rw [hw]
  clear hw w2
  go_wp2_with fail
  refine Calls.mono H3.out ?_
  rintro e W ⟨rfl, o⟩
  have HO : Hid _ := o
  clear o
  go_wp2_with fail
  refine Calls.mono (H4.out W) ?_
  rintro e w2 ⟨rfl, hw⟩
  rw [hw]
  clear hw w2
  go_wp2_with fail
  refine Calls.mono (H5.out W) ?_
  rintro e w2 ⟨rfl, hw⟩
  rw [hw]
  clear hw w2
  go_wp2_with fail
  refine Calls.mono (H6.out W) ?_
  rintro e w2 ⟨rfl, hw⟩
  rw [hw]
  clear hw w2
  go_wp2_with fail
  refine Calls.mono (H7.out W) ?_
  rintro e w2 ⟨rfl, hw⟩
  rw [hw]
  clear hw w2
  go_wp2_with fail
  refine Calls.mono (H8.out W) ?_
  rintro e w2 ⟨rfl, hw⟩
  rw [hw]
  clear hw w2
  go_wp2_with fail
  refine Calls.mono (H9.out W) ?_
  rintro e w2 ⟨rfl, o⟩
  have HO2 : Hid _ := HO.out.trans o (fun _ _ h => h)
  clear o
  go_wp2_with fail
  go_ret
  exact ⟨rfl, HO2.out⟩
end Go.Proofs.Ytakijikehpblfaa
