/- Items of several texts. -/
import Derived.Deep.Cut
import Derived.Test.YtpnnpdfmoldiiaaDRefA
import Derived.Test.YtpnnpdfmoldiiaaDDot5
import Derived.Test.YtpnnpdfmoldiiaaDGSame
namespace Go.Proofs.Ytpnnpdfmoldiiaa
open Go.RowKit
def keyB (s : ByteArray) : Bool := decide (1 ≤ s.size) && decide (s.size ≤ 32)
theorem maykey_any (s : ByteArray) (w : World) : Calls Try.prog 44 #[.string s] w fun e w' => e = .returned (.bool (keyB s)) ∧ w' = w := by
 by_cases h1 : 1 ≤ s.size
 ·have e1 : decide ((1 : Int) ≤ (s.size : Int)) = true := decide_eq_true (by omega)
  have e1' : decide (1 ≤ s.size) = true := decide_eq_true h1
  by_cases h2 : s.size ≤ 32
  ·have e2 : decide ((s.size : Int) ≤ 32) = true := decide_eq_true (by omega)
   have e2' : decide (s.size ≤ 32) = true := decide_eq_true h2
   go_enter Try.func44, Try.ntmps44
   go_wp2_with fail
   go_ret
   simp [keyB, e1', e2']
  ·have e2 : decide ((s.size : Int) ≤ 32) = false := decide_eq_false (by omega)
   have e2' : decide (s.size ≤ 32) = false := decide_eq_false h2
   go_enter Try.func44, Try.ntmps44
   go_wp2_with fail
   go_ret
   simp [keyB, e1', e2']
 ·have e1 : decide ((1 : Int) ≤ (s.size : Int)) = false := decide_eq_false (by omega)
  have e1' : decide (1 ≤ s.size) = false := decide_eq_false h1
  go_enter Try.func44, Try.ntmps44
  go_wp2_with fail
  go_ret
  simp [keyB, e1']
end Go.Proofs.Ytpnnpdfmoldiiaa
