/- The walk of DiskNil. -/
import Derived.Test.YtibnhgpenfcinaaNil6
import Derived.Test.YtibnhgpenfcinaaArg6
namespace Go.Proofs.Ytibnhgpenfcinaa
open Go.RowKit

set_option maxRecDepth 100000 in
set_option maxHeartbeats 1000000 in
theorem nil_walk (n : Int) (a : Option Addr) (c : Nat) (bs : List Nat) (w : World) (_ : -9223372036854775808 ≤ n ∧ n ≤ 9223372036854775807) (_ : ArgB w a bs.length c bs) :
    Calls Try.prog 4 #[.int .i64 n, .slice a bs.length c] w fun e w' => e = .returned (.bool true) ∧ Off (fun _ => False) w w' := by
  go_enter Try.func4, Try.ntmps4
  go_wp2_with fail
  refine (ncrash n w).mono ?_
  rintro e w' ⟨rfl, rfl⟩
  go_wp2_with fail
  refine (nappend _ _).mono ?_
  rintro e w' ⟨rfl, rfl⟩
  go_wp2_with fail
  refine (nsync _).mono ?_
  rintro e w' ⟨rfl, rfl⟩
  go_wp2_with fail
  refine (nreplace _ _).mono ?_
  rintro e w' ⟨rfl, rfl⟩
  go_wp2_with fail
  refine (ncut _ _).mono ?_
  rintro e w' ⟨rfl, rfl⟩
  go_wp2_with fail
  refine (nbytes _).mono ?_
  rintro e w' ⟨rfl, rfl⟩
  go_wp2_with fail
  refine (nsize _).mono ?_
  rintro e w' ⟨rfl, rfl⟩
  go_wp2_with fail
  refine (nmost _).mono ?_
  rintro e w' ⟨rfl, rfl⟩
  go_wp2_with fail
  refine (nsure _).mono ?_
  rintro e w' ⟨rfl, rfl⟩
  go_wp2_with fail
  refine (awake_any _).mono ?_
  rintro e w' ⟨rfl, o⟩
  go_wp2_with fail
  go_ret
  exact ⟨rfl, o⟩
end Go.Proofs.Ytibnhgpenfcinaa
