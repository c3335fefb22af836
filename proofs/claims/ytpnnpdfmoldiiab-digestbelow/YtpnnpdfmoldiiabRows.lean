/-
  No cell of these rows narrows 'for every input' (looked for: loops, veiled, ifaces, maps, wideKeys, modest, calm, conditions, laid).
  DERIVED. THE GIVEN ROWS OF THIS SEAT. 3 by the template 'for every input the law returns true; each argument reads behind the call as it read before'; 0 by the template 'total and deterministic' (their statements: YtpnnpdfmoldiiabTotals.lean).
  GIVEN WITH THE SEED: the statements are not yours to turn. If you find one false, say at which input.
  Laid BY PROGRAM, IN A SANDBOX (cutbox-rows.mjs): the forced cells as the released guide's own fill.sh prints them over the translation 27bc10a419cec901… (all of the seat's roots in one cut). By AI agents, Wed Nov 11 2026. No macro, syntax, notation, axiom, sorry.
-/
import Derived.Test.YtpnnpdfmoldiiabChecked
import GoSem.Claim
import GoSem.ClaimJoined
import GoSem.ClaimMapViews
import Derived.JoinedTies
import Derived.KernelRfl
namespace Go.Proofs.Ytpnnpdfmoldiiab
/- THE CELL 'sum', in the pinned program and in every row, IS THE sha256 OF THE DUMP (.gsa) THAT YtpnnpdfmoldiiabProg.lean LOADS. Nothing in Lean hashes anything: it is a label: what it is worth is what the hold of that sum in a sandbox is worth. -/
noncomputable def Try.pinned : Pinned := { name := "ytpnnpdfmoldiiab", sum := "27bc10a419cec901a23a2627fa0dc32136b9b244aab93906c184a375f5af73fc", checked := Try.checked }
namespace Rows
def none {H : Type} : Left H := { results := [], args := [] }

/-- 'tattlerlaw13.DigestPart': WHATEVER THE INPUT: true; the input reads as it did. -/
def digestPartSpec : ChangeSpec := { name := "digestPart", fn := fun _ => fun
  | [d1, d2, d3] => { results := [.lit (.bool true)], args := [d1, d2, d3] }
  | _ => none }
def digestPartRow : OpenClaim := { program := "ytpnnpdfmoldiiab", sum := "27bc10a419cec901a23a2627fa0dc32136b9b244aab93906c184a375f5af73fc", func := "tattler/tattlerlaw13.DigestPart", spec := "digestPart", inPlace := ["internal/bytealg.abigen_runtime_cmpstring"], unfollowed := true, recurses := true, apart := false }
def DigestPartSaid : Prop := digestPartRow.holds Try.pinned (OpenSpec.ofChange digestPartSpec)

/-- ITS FALSE NEIGHBOUR: 'it returns false'. Refute it at one input. -/
def digestPartWrong : ChangeSpec := { name := "digestPart", fn := fun _ => fun
  | [d1, d2, d3] => { results := [.lit (.bool false)], args := [d1, d2, d3] }
  | _ => none }
def DigestPartWrongFalsely : Prop := digestPartRow.holds Try.pinned (OpenSpec.ofChange digestPartWrong)

/-- 'tattlerlaw13.DigestBelow': WHATEVER THE INPUT: true; the input reads as it did. -/
def digestBelowSpec : ChangeSpec := { name := "digestBelow", fn := fun _ => fun
  | [d] => { results := [.lit (.bool true)], args := [d] }
  | _ => none }
def digestBelowRow : OpenClaim := { program := "ytpnnpdfmoldiiab", sum := "27bc10a419cec901a23a2627fa0dc32136b9b244aab93906c184a375f5af73fc", func := "tattler/tattlerlaw13.DigestBelow", spec := "digestBelow", inPlace := ["internal/bytealg.abigen_runtime_cmpstring"], unfollowed := true, recurses := true, apart := false }
def DigestBelowSaid : Prop := digestBelowRow.holds Try.pinned (OpenSpec.ofChange digestBelowSpec)

/-- ITS FALSE NEIGHBOUR: 'it returns false'. Refute it at one input. -/
def digestBelowWrong : ChangeSpec := { name := "digestBelow", fn := fun _ => fun
  | [d] => { results := [.lit (.bool false)], args := [d] }
  | _ => none }
def DigestBelowWrongFalsely : Prop := digestBelowRow.holds Try.pinned (OpenSpec.ofChange digestBelowWrong)

/-- 'tattlerlaw13.DigestOrder': WHATEVER THE INPUT: true; the input reads as it did. -/
def digestOrderSpec : ChangeSpec := { name := "digestOrder", fn := fun _ => fun
  | [d1, d2] => { results := [.lit (.bool true)], args := [d1, d2] }
  | _ => none }
def digestOrderRow : OpenClaim := { program := "ytpnnpdfmoldiiab", sum := "27bc10a419cec901a23a2627fa0dc32136b9b244aab93906c184a375f5af73fc", func := "tattler/tattlerlaw13.DigestOrder", spec := "digestOrder", inPlace := ["internal/bytealg.abigen_runtime_cmpstring"], unfollowed := true, recurses := true, apart := false }
def DigestOrderSaid : Prop := digestOrderRow.holds Try.pinned (OpenSpec.ofChange digestOrderSpec)

/-- ITS FALSE NEIGHBOUR: 'it returns false'. Refute it at one input. -/
def digestOrderWrong : ChangeSpec := { name := "digestOrder", fn := fun _ => fun
  | [d1, d2] => { results := [.lit (.bool false)], args := [d1, d2] }
  | _ => none }
def DigestOrderWrongFalsely : Prop := digestOrderRow.holds Try.pinned (OpenSpec.ofChange digestOrderWrong)

/- THE SECOND FORM. 'bulk': how many values and letters a reading holds, each counted each time it is reached (what is shared counts as often as it is met; a slice's spare places count too). A statement '..UptoSaid' is the law's where the arguments, and the package variables that the reading takes, are together of bulk at most 1048576: NARROWER than '..Said'. Prove '..Said' where nothing that the law and all that it calls make is longer than what came in: it says more and counts as full. Else prove '..UptoSaid'. A law counts once. -/
mutual
def uptoBulk {H : Type} : DataW H → Nat
  | .lit (.string bytes) => bytes.length + 1
  | .lit _ => 1
  | .nil => 1
  | .ptr d => uptoBulk d + 1
  | .slice elems spare => uptoBulkAll elems + uptoBulkAll spare + 1
  | .agg parts => uptoBulkAll parts + 1
  | .iface _ d => uptoBulk d + 1
  | .map entries => uptoBulkEntries entries + 1
  | .held _ => 1
def uptoBulkAll {H : Type} : List (DataW H) → Nat
  | [] => 0
  | d :: r => uptoBulk d + uptoBulkAll r
def uptoBulkEntries {H : Type} : List (Lit × DataW H) → Nat
  | [] => 0
  | x :: r => uptoBulkEntry x + uptoBulkEntries r
def uptoBulkEntry {H : Type} : Lit × DataW H → Nat
  | (.string bytes, d) => bytes.length + uptoBulk d + 1
  | (_, d) => uptoBulk d + 1
 end
def uptoSmall : (H : Type) → List (DataW H) → Bool := fun _ ds => decide (uptoBulkAll ds ≤ 1048576)
def OpenSpec.upto (s : _root_.Go.ChangeSpec) : _root_.Go.OpenSpec := { _root_.Go.OpenSpec.ofChange s with cond := some uptoSmall }

/-- 'tattlerlaw13.DigestPart', WHERE WHAT IT READS IS OF BULK AT MOST 1048576: true; the input reads as it did. -/
def digestPartUptoRow : OpenClaim := { program := "ytpnnpdfmoldiiab", sum := "27bc10a419cec901a23a2627fa0dc32136b9b244aab93906c184a375f5af73fc", func := "tattler/tattlerlaw13.DigestPart", spec := "digestPart", inPlace := ["internal/bytealg.abigen_runtime_cmpstring"], unfollowed := true, recurses := true, apart := false, narrowed := true }
def DigestPartUptoSaid : Prop := digestPartUptoRow.holds Try.pinned (OpenSpec.upto digestPartSpec)

/-- 'tattlerlaw13.DigestBelow', WHERE WHAT IT READS IS OF BULK AT MOST 1048576: true; the input reads as it did. -/
def digestBelowUptoRow : OpenClaim := { program := "ytpnnpdfmoldiiab", sum := "27bc10a419cec901a23a2627fa0dc32136b9b244aab93906c184a375f5af73fc", func := "tattler/tattlerlaw13.DigestBelow", spec := "digestBelow", inPlace := ["internal/bytealg.abigen_runtime_cmpstring"], unfollowed := true, recurses := true, apart := false, narrowed := true }
def DigestBelowUptoSaid : Prop := digestBelowUptoRow.holds Try.pinned (OpenSpec.upto digestBelowSpec)

/-- 'tattlerlaw13.DigestOrder', WHERE WHAT IT READS IS OF BULK AT MOST 1048576: true; the input reads as it did. -/
def digestOrderUptoRow : OpenClaim := { program := "ytpnnpdfmoldiiab", sum := "27bc10a419cec901a23a2627fa0dc32136b9b244aab93906c184a375f5af73fc", func := "tattler/tattlerlaw13.DigestOrder", spec := "digestOrder", inPlace := ["internal/bytealg.abigen_runtime_cmpstring"], unfollowed := true, recurses := true, apart := false, narrowed := true }
def DigestOrderUptoSaid : Prop := digestOrderUptoRow.holds Try.pinned (OpenSpec.upto digestOrderSpec)

end Rows
end Go.Proofs.Ytpnnpdfmoldiiab
