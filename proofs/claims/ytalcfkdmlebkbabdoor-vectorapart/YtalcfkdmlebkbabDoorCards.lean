/-
  DERIVED. GIVEN WITH THE SEED: THE CARDS: each row of YtalcfkdmlebkbabDoorRows.lean that lists a variable, with what it lists TIED to the program's text (the seventh form; the later family's looks); each row that meets fmt, with fmt's text TOLD by the authors' own Lean function (tested against real Go, not proved from fmt's source: count such statements apart). THE CARD IS WHAT COUNTS. Prove the row's statement (the work); the ties are given (YtalcfkdmlebkbabDoorTie.lean); close each card by the builder's one call (the guide's Derived/Test/ToyasCard.lean, 'card_holds'). Laid BY PROGRAM, IN A SANDBOX (cutbox-door.mjs). By AI agents, Wed Nov 11 2026. No macro, syntax, notation, axiom, sorry.
-/
import Derived.Test.YtalcfkdmlebkbabDoorRows
import GoSem.ClaimSeven
namespace Go.Proofs.YtalcfkdmlebkbabDoor
namespace Rows

/-- THE TIED CARD OF 'tattlerlaw4.VectorOrder'. -/
def vectorOrderCard : Claim7 := { stood := { row := vectorOrderRow, standIns := [], harness := (true, "a334c3c1f3849315005cb9347ca3941cec4467d4defdaec2cd5a01cdfb58efc7"), looks := false }, kinds := [], alts := [], laidByText := true, laidKinds := [.data, .data, .data], laidTests := true, laidLooks := .later }
def VectorOrderCardSaid : Prop := Claim7.holds Tryd.pinned (.plain (OpenSpec.ofChange vectorOrderSpec)) vectorOrderCard

/-- THE TIED CARD OF 'tattlerlaw4.VectorNexts'. -/
def vectorNextsCard : Claim7 := { stood := { row := vectorNextsRow, standIns := [], harness := (true, "a334c3c1f3849315005cb9347ca3941cec4467d4defdaec2cd5a01cdfb58efc7"), looks := false }, kinds := [], alts := [], laidByText := true, laidKinds := [.data, .data, .data], laidTests := true, laidLooks := .later }
def VectorNextsCardSaid : Prop := Claim7.holds Tryd.pinned (.plain (OpenSpec.ofChange vectorNextsSpec)) vectorNextsCard

/-- THE TIED CARD OF 'tattlerlaw4.VectorApart'. -/
def vectorApartCard : Claim7 := { stood := { row := vectorApartRow, standIns := [], harness := (true, "a334c3c1f3849315005cb9347ca3941cec4467d4defdaec2cd5a01cdfb58efc7"), looks := false }, kinds := [], alts := [], laidByText := true, laidKinds := [.data, .data, .data], laidTests := true, laidLooks := .later }
def VectorApartCardSaid : Prop := Claim7.holds Tryd.pinned (.plain (OpenSpec.ofChange vectorApartSpec)) vectorApartCard

/-- THE SECOND FORM's CARD OF 'tattlerlaw4.VectorOrder'. -/
def vectorOrderUptoCard : Claim7 := { stood := { row := vectorOrderUptoRow, standIns := [], harness := (true, "a334c3c1f3849315005cb9347ca3941cec4467d4defdaec2cd5a01cdfb58efc7"), looks := false }, kinds := [], alts := [], laidByText := true, laidKinds := [.data, .data, .data], laidTests := true, laidLooks := .later }
def VectorOrderUptoCardSaid : Prop := Claim7.holds Tryd.pinned (.plain (OpenSpec.upto vectorOrderSpec)) vectorOrderUptoCard

/-- THE SECOND FORM's CARD OF 'tattlerlaw4.VectorNexts'. -/
def vectorNextsUptoCard : Claim7 := { stood := { row := vectorNextsUptoRow, standIns := [], harness := (true, "a334c3c1f3849315005cb9347ca3941cec4467d4defdaec2cd5a01cdfb58efc7"), looks := false }, kinds := [], alts := [], laidByText := true, laidKinds := [.data, .data, .data], laidTests := true, laidLooks := .later }
def VectorNextsUptoCardSaid : Prop := Claim7.holds Tryd.pinned (.plain (OpenSpec.upto vectorNextsSpec)) vectorNextsUptoCard

/-- THE SECOND FORM's CARD OF 'tattlerlaw4.VectorApart'. -/
def vectorApartUptoCard : Claim7 := { stood := { row := vectorApartUptoRow, standIns := [], harness := (true, "a334c3c1f3849315005cb9347ca3941cec4467d4defdaec2cd5a01cdfb58efc7"), looks := false }, kinds := [], alts := [], laidByText := true, laidKinds := [.data, .data, .data], laidTests := true, laidLooks := .later }
def VectorApartUptoCardSaid : Prop := Claim7.holds Tryd.pinned (.plain (OpenSpec.upto vectorApartSpec)) vectorApartUptoCard
end Rows
end Go.Proofs.YtalcfkdmlebkbabDoor
