/- VectorCovers. -/
import Derived.Test.YtalcfkdmlebkbaaDoorCw1D
import Derived.Test.YtalcfkdmlebkbaaDoorCw1C
import Derived.Test.YtalcfkdmlebkbaaDoorCw1B
import Derived.Test.YtalcfkdmlebkbaaDoorCw1A
import Derived.Test.YtalcfkdmlebkbaaDoorCw0D
import Derived.Test.YtalcfkdmlebkbaaDoorCw0C
import Derived.Test.YtalcfkdmlebkbaaDoorCw0B
import Derived.Test.YtalcfkdmlebkbaaDoorCw0A
namespace Go.Proofs.YtalcfkdmlebkbaaDoor
open Go.RowKit

theorem covers_walk (a b : Nat → Int) (n N k : Int) (w : World) (ht : Tab w) (hr : ∀ j, j < 8 → -9223372036854775808 ≤ a j ∧ a j ≤ 9223372036854775807) :
    Calls Tryd.prog 7 #[.agg #[.int .i64 (a 0), .int .i64 (a 1), .int .i64 (a 2), .int .i64 (a 3), .int .i64 (a 4), .int .i64 (a 5), .int .i64 (a 6), .int .i64 (a 7)], .agg #[.int .i64 (b 0), .int .i64 (b 1), .int .i64 (b 2), .int .i64 (b 3), .int .i64 (b 4), .int .i64 (b 5), .int .i64 (b 6), .int .i64 (b 7)], .agg #[.int .i64 n, .int .i64 N], .int .i64 k] w fun e w' => e = .returned (.bool true) ∧ Off (fun _ => False) w w' := by
  by_cases hc : coversB a n N = true
  · by_cases n0 : 0 ≤ n
    · by_cases n1 : n < 8
      · by_cases n2 : 1 ≤ N
        · exact covers_1D a b n N k w ht hr hc n0 n1 n2
        · exact covers_1C a b n N k w ht hr hc n0 n1 n2
      · exact covers_1B a b n N k w ht hr hc n0 n1
    · exact covers_1A a b n N k w ht hr hc n0
  · have hc : coversB a n N = false := by simpa using hc
    by_cases n0 : 0 ≤ n
    · by_cases n1 : n < 8
      · by_cases n2 : 1 ≤ N
        · exact covers_0D a b n N k w ht hr hc n0 n1 n2
        · exact covers_0C a b n N k w ht hr hc n0 n1 n2
      · exact covers_0B a b n N k w ht hr hc n0 n1
    · exact covers_0A a b n N k w ht hr hc n0
end Go.Proofs.YtalcfkdmlebkbaaDoor
