/- Items of several texts. -/
import Derived.Deep.RegionHeld
import Derived.Deep.Cut
import Derived.Laws.OwnMore
import Derived.Test.YtpnnpdfmoldiiaaDPut
import Derived.Test.YtpnnpdfmoldiiaaDThy2
import Derived.Test.YtpnnpdfmoldiiaaDRefA
import Derived.Test.YtpnnpdfmoldiiaaDGSm
import Derived.Test.YtpnnpdfmoldiiaaDTbJ
import Derived.Test.YtpnnpdfmoldiiaaDLaw10
import Derived.Test.YtpnnpdfmoldiiaaDDg0
import Derived.Test.YtpnnpdfmoldiiaaDBks
namespace Go.Proofs.Ytpnnpdfmoldiiaa
open Go.RowKit
theorem neqd_self (a b : Int) (W : World) : (binOp .neq 81 (.agg #[.int .i64 a, .int .i64 b]) (.agg #[.int .i64 a, .int .i64 b])).run Try.prog W = .ok (.bool false) W := by
 rw [neq_dot5]
 simp
theorem neqv_same {f g : Nat → Int} (h : eqB f g = true) (W : World) : (binOp .neq 24 (.agg #[.int .i64 (f 0), .int .i64 (f 1), .int .i64 (f 2), .int .i64 (f 3), .int .i64 (f 4), .int .i64 (f 5), .int .i64 (f 6), .int .i64 (f 7)]) (.agg #[.int .i64 (g 0), .int .i64 (g 1), .int .i64 (g 2), .int .i64 (g 3), .int .i64 (g 4), .int .i64 (g 5), .int .i64 (g 6), .int .i64 (g 7)])).run Try.prog W = .ok (.bool false) W := by
 rw [neq_vec5, h]
 rfl
theorem gcells_off {w w' : World} {b o : Nat} {e : G} (k : Off (fun _ => False) w w') (h : ∀ j u, (gcs e)[j]? = some u → w.cell? ⟨b, o + j, none⟩ = some u) : ∀ j u, (gcs e)[j]? = some u → w'.cell? ⟨b, o + j, none⟩ = some u := fun j u hj => by
 have h1 := h j u hj
 rw [← h1]
 exact World.cell?_of_block (a := ⟨b, o + j, none⟩) (k.block b (cell_lt h1) (fun h => h))
end Go.Proofs.Ytpnnpdfmoldiiaa
