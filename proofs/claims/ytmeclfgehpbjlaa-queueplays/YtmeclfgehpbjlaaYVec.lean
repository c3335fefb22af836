/- Items of several texts. -/
import Derived.Test.YtmeclfgehpbjlaaYMem
namespace Go.Proofs.Ytmeclfgehpbjlaa
open Go.RowKit
def zer : Nat → Int := fun _ => 0
def dec8 (p : Nat → Prop) (h : ∀ j, Decidable (p j)) : Decidable (∀ j, j < 8 → p j) := @Nat.decidableBallLT 8 (fun j _ => p j) (fun j _ => h j)
end Go.Proofs.Ytmeclfgehpbjlaa
