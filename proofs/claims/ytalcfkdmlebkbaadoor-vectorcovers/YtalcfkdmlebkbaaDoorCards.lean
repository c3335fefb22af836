/-
  DERIVED. GIVEN WITH THE SEED: THE CARDS: each row of YtalcfkdmlebkbaaDoorRows.lean that lists a variable, with what it lists TIED to the program's text (the seventh form; the later family's looks); each row that meets fmt, with fmt's text TOLD by the authors' own Lean function (tested against real Go, not proved from fmt's source: count such statements apart). THE CARD IS WHAT COUNTS. Prove the row's statement (the work); the ties are given (YtalcfkdmlebkbaaDoorTie.lean); close each card by the builder's one call (the guide's Derived/Test/ToyasCard.lean, 'card_holds'). Laid BY PROGRAM, IN A SANDBOX (cutbox-door.mjs). By AI agents, Wed Nov 11 2026. No macro, syntax, notation, axiom, sorry.
-/
import Derived.Test.YtalcfkdmlebkbaaDoorRows
import GoSem.ClaimSeven
namespace Go.Proofs.YtalcfkdmlebkbaaDoor
namespace Rows

/-- THE TIED CARD OF 'tattlerlaw4.VectorReckons'. -/
def vectorReckonsCard : Claim7 := { stood := { row := vectorReckonsRow, standIns := [], harness := (true, "0d268b413e40328c636eff9603455f328391414598bdfae7528a4a17661e53b5"), looks := true }, kinds := [], alts := [], laidByText := true, laidKinds := [.data, .data, .data], laidTests := true, laidLooks := .later }
def VectorReckonsCardSaid : Prop := Claim7.holds Tryd.pinned (.plain (OpenSpec.ofChange vectorReckonsSpec)) vectorReckonsCard

/-- THE TIED CARD OF 'tattlerlaw4.VectorBytes'. -/
def vectorBytesCard : Claim7 := { stood := { row := vectorBytesRow, standIns := [], harness := (true, "0d268b413e40328c636eff9603455f328391414598bdfae7528a4a17661e53b5"), looks := true }, kinds := [], alts := [], laidByText := true, laidKinds := [.data, .data, .data], laidTests := true, laidLooks := .later }
def VectorBytesCardSaid : Prop := Claim7.holds Tryd.pinned (.plain (OpenSpec.ofChange vectorBytesSpec)) vectorBytesCard

/-- THE TIED CARD OF 'tattlerlaw4.VectorTexts'. -/
def vectorTextsCard : Claim7 := { stood := { row := vectorTextsRow, standIns := [], harness := (true, "0d268b413e40328c636eff9603455f328391414598bdfae7528a4a17661e53b5"), looks := true }, kinds := [], alts := [], laidByText := true, laidKinds := [.data, .data, .data, .sentinel, .sentinel], laidTests := true, laidLooks := .later }
def VectorTextsCardSaid : Prop := Claim7.holds Tryd.pinned (.plain (OpenSpec.ofChange vectorTextsSpec)) vectorTextsCard

/-- THE TIED CARD OF 'tattlerlaw4.VectorJoins'. -/
def vectorJoinsCard : Claim7 := { stood := { row := vectorJoinsRow, standIns := [], harness := (true, "0d268b413e40328c636eff9603455f328391414598bdfae7528a4a17661e53b5"), looks := true }, kinds := [], alts := [], laidByText := true, laidKinds := [.data, .data, .data], laidTests := true, laidLooks := .later }
def VectorJoinsCardSaid : Prop := Claim7.holds Tryd.pinned (.plain (OpenSpec.ofChange vectorJoinsSpec)) vectorJoinsCard

/-- THE TIED CARD OF 'tattlerlaw4.VectorCovers'. -/
def vectorCoversCard : Claim7 := { stood := { row := vectorCoversRow, standIns := [], harness := (true, "0d268b413e40328c636eff9603455f328391414598bdfae7528a4a17661e53b5"), looks := true }, kinds := [], alts := [], laidByText := true, laidKinds := [.data, .data, .data], laidTests := true, laidLooks := .later }
def VectorCoversCardSaid : Prop := Claim7.holds Tryd.pinned (.plain (OpenSpec.ofChange vectorCoversSpec)) vectorCoversCard

/-- THE TIED CARD OF 'tattlerlaw4.VectorBack'. -/
def vectorBackCard : Claim7 := { stood := { row := vectorBackRow, standIns := [], harness := (true, "0d268b413e40328c636eff9603455f328391414598bdfae7528a4a17661e53b5"), looks := true }, kinds := [], alts := [], laidByText := true, laidKinds := [.data, .data, .data, .sentinel, .sentinel], laidTests := true, laidLooks := .later }
def VectorBackCardSaid : Prop := Claim7.holds Tryd.pinned (.plain (OpenSpec.ofChange vectorBackSpec)) vectorBackCard

/-- THE SECOND FORM's CARD OF 'tattlerlaw4.VectorReckons'. -/
def vectorReckonsUptoCard : Claim7 := { stood := { row := vectorReckonsUptoRow, standIns := [], harness := (true, "0d268b413e40328c636eff9603455f328391414598bdfae7528a4a17661e53b5"), looks := true }, kinds := [], alts := [], laidByText := true, laidKinds := [.data, .data, .data], laidTests := true, laidLooks := .later }
def VectorReckonsUptoCardSaid : Prop := Claim7.holds Tryd.pinned (.plain (OpenSpec.upto vectorReckonsSpec)) vectorReckonsUptoCard

/-- THE SECOND FORM's CARD OF 'tattlerlaw4.VectorBytes'. -/
def vectorBytesUptoCard : Claim7 := { stood := { row := vectorBytesUptoRow, standIns := [], harness := (true, "0d268b413e40328c636eff9603455f328391414598bdfae7528a4a17661e53b5"), looks := true }, kinds := [], alts := [], laidByText := true, laidKinds := [.data, .data, .data], laidTests := true, laidLooks := .later }
def VectorBytesUptoCardSaid : Prop := Claim7.holds Tryd.pinned (.plain (OpenSpec.upto vectorBytesSpec)) vectorBytesUptoCard

/-- THE SECOND FORM's CARD OF 'tattlerlaw4.VectorTexts'. -/
def vectorTextsUptoCard : Claim7 := { stood := { row := vectorTextsUptoRow, standIns := [], harness := (true, "0d268b413e40328c636eff9603455f328391414598bdfae7528a4a17661e53b5"), looks := true }, kinds := [], alts := [], laidByText := true, laidKinds := [.data, .data, .data, .sentinel, .sentinel], laidTests := true, laidLooks := .later }
def VectorTextsUptoCardSaid : Prop := Claim7.holds Tryd.pinned (.plain (OpenSpec.upto vectorTextsSpec)) vectorTextsUptoCard

/-- THE SECOND FORM's CARD OF 'tattlerlaw4.VectorJoins'. -/
def vectorJoinsUptoCard : Claim7 := { stood := { row := vectorJoinsUptoRow, standIns := [], harness := (true, "0d268b413e40328c636eff9603455f328391414598bdfae7528a4a17661e53b5"), looks := true }, kinds := [], alts := [], laidByText := true, laidKinds := [.data, .data, .data], laidTests := true, laidLooks := .later }
def VectorJoinsUptoCardSaid : Prop := Claim7.holds Tryd.pinned (.plain (OpenSpec.upto vectorJoinsSpec)) vectorJoinsUptoCard

/-- THE SECOND FORM's CARD OF 'tattlerlaw4.VectorCovers'. -/
def vectorCoversUptoCard : Claim7 := { stood := { row := vectorCoversUptoRow, standIns := [], harness := (true, "0d268b413e40328c636eff9603455f328391414598bdfae7528a4a17661e53b5"), looks := true }, kinds := [], alts := [], laidByText := true, laidKinds := [.data, .data, .data], laidTests := true, laidLooks := .later }
def VectorCoversUptoCardSaid : Prop := Claim7.holds Tryd.pinned (.plain (OpenSpec.upto vectorCoversSpec)) vectorCoversUptoCard

/-- THE SECOND FORM's CARD OF 'tattlerlaw4.VectorBack'. -/
def vectorBackUptoCard : Claim7 := { stood := { row := vectorBackUptoRow, standIns := [], harness := (true, "0d268b413e40328c636eff9603455f328391414598bdfae7528a4a17661e53b5"), looks := true }, kinds := [], alts := [], laidByText := true, laidKinds := [.data, .data, .data, .sentinel, .sentinel], laidTests := true, laidLooks := .later }
def VectorBackUptoCardSaid : Prop := Claim7.holds Tryd.pinned (.plain (OpenSpec.upto vectorBackSpec)) vectorBackUptoCard
end Rows
end Go.Proofs.YtalcfkdmlebkbaaDoor
