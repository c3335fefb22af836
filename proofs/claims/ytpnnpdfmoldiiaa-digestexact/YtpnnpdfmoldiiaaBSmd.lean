/- Items of several texts. -/
import Derived.Deep.RegionHeld
import Derived.Deep.Cut
import Derived.Laws.OwnMore
import Derived.Test.YtpnnpdfmoldiiaaBGSm
import Derived.Test.YtpnnpdfmoldiiaaBTbJ
import Derived.Test.YtpnnpdfmoldiiaaBLaw10
import Derived.Test.YtpnnpdfmoldiiaaBArg5
import Derived.Test.YtpnnpdfmoldiiaaBDg0
import Derived.Test.YtpnnpdfmoldiiaaBOrdQ
import Derived.Test.YtpnnpdfmoldiiaaBRefS
namespace Go.Proofs.Ytpnnpdfmoldiiaa
open Go.RowKit
theorem gcells_off {w w' : World} {b o : Nat} {e : G} (k : Off (fun _ => False) w w') (h : ∀ j u, (gcs e)[j]? = some u → w.cell? ⟨b, o + j, none⟩ = some u) : ∀ j u, (gcs e)[j]? = some u → w'.cell? ⟨b, o + j, none⟩ = some u := fun j u hj => by
 have h1 := h j u hj
 rw [← h1]
 exact World.cell?_of_block (a := ⟨b, o + j, none⟩) (k.block b (cell_lt h1) (fun h => h))
end Go.Proofs.Ytpnnpdfmoldiiaa
