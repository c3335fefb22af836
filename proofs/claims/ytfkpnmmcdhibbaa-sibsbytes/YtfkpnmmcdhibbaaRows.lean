/-
  No cell of these rows narrows 'for every input' (looked for: loops, veiled, ifaces, maps, wideKeys, modest, calm, conditions, laid).
  DERIVED. THE GIVEN ROWS OF THIS SEAT. 6 by the template 'for every input the law returns true; each argument reads behind the call as it read before'; 0 by the template 'total and deterministic' (their statements: YtfkpnmmcdhibbaaTotals.lean).
  GIVEN WITH THE SEED: the statements are not yours to turn. If you find one false, say at which input.
  Laid BY PROGRAM, IN A SANDBOX (cutbox-rows.mjs): the forced cells as the released guide's own fill.sh prints them over the translation 9830eb61894d3886… (all of the seat's roots in one cut). By AI agents, Wed Nov 11 2026. No macro, syntax, notation, axiom, sorry.
-/
import Derived.Test.YtfkpnmmcdhibbaaChecked
import GoSem.Claim
import GoSem.ClaimJoined
import GoSem.ClaimMapViews
import Derived.JoinedTies
import Derived.KernelRfl
namespace Go.Proofs.Ytfkpnmmcdhibbaa
/- THE CELL 'sum', in the pinned program and in every row, IS THE sha256 OF THE DUMP (.gsa) THAT YtfkpnmmcdhibbaaProg.lean LOADS. Nothing in Lean hashes anything: it is a label: what it is worth is what the hold of that sum in a sandbox is worth. -/
noncomputable def Try.pinned : Pinned := { name := "ytfkpnmmcdhibbaa", sum := "9830eb61894d3886817677a3be5f8498f0a37b062c40c0662b2f740346a40dc3", checked := Try.checked }
namespace Rows
def none {H : Type} : Left H := { results := [], args := [] }

/-- 'tattlerlaw5.SibsMay': WHATEVER THE INPUT: true; the input reads as it did. -/
def sibsMaySpec : ChangeSpec := { name := "sibsMay", fn := fun _ => fun
  | [d1, d2, d3] => { results := [.lit (.bool true)], args := [d1, d2, d3] }
  | _ => none }
def sibsMayRow : OpenClaim := { program := "ytfkpnmmcdhibbaa", sum := "9830eb61894d3886817677a3be5f8498f0a37b062c40c0662b2f740346a40dc3", func := "tattler/tattlerlaw5.SibsMay", spec := "sibsMay", inPlace := ["internal/bytealg.Compare"], unfollowed := true, recurses := true, apart := false }
def SibsMaySaid : Prop := sibsMayRow.holds Try.pinned (OpenSpec.ofChange sibsMaySpec)

/-- ITS FALSE NEIGHBOUR: 'it returns false'. Refute it at one input. -/
def sibsMayWrong : ChangeSpec := { name := "sibsMay", fn := fun _ => fun
  | [d1, d2, d3] => { results := [.lit (.bool false)], args := [d1, d2, d3] }
  | _ => none }
def SibsMayWrongFalsely : Prop := sibsMayRow.holds Try.pinned (OpenSpec.ofChange sibsMayWrong)

/-- 'tattlerlaw5.SibsJoins': WHATEVER THE INPUT: true; the input reads as it did. -/
def sibsJoinsSpec : ChangeSpec := { name := "sibsJoins", fn := fun _ => fun
  | [d1, d2] => { results := [.lit (.bool true)], args := [d1, d2] }
  | _ => none }
def sibsJoinsRow : OpenClaim := { program := "ytfkpnmmcdhibbaa", sum := "9830eb61894d3886817677a3be5f8498f0a37b062c40c0662b2f740346a40dc3", func := "tattler/tattlerlaw5.SibsJoins", spec := "sibsJoins", inPlace := ["internal/bytealg.Compare"], unfollowed := true, recurses := true, apart := false }
def SibsJoinsSaid : Prop := sibsJoinsRow.holds Try.pinned (OpenSpec.ofChange sibsJoinsSpec)

/-- ITS FALSE NEIGHBOUR: 'it returns false'. Refute it at one input. -/
def sibsJoinsWrong : ChangeSpec := { name := "sibsJoins", fn := fun _ => fun
  | [d1, d2] => { results := [.lit (.bool false)], args := [d1, d2] }
  | _ => none }
def SibsJoinsWrongFalsely : Prop := sibsJoinsRow.holds Try.pinned (OpenSpec.ofChange sibsJoinsWrong)

/-- 'tattlerlaw5.SibsPuts': WHATEVER THE INPUT: true; the input reads as it did. -/
def sibsPutsSpec : ChangeSpec := { name := "sibsPuts", fn := fun _ => fun
  | [d1, d2, d3, d4, d5] => { results := [.lit (.bool true)], args := [d1, d2, d3, d4, d5] }
  | _ => none }
def sibsPutsRow : OpenClaim := { program := "ytfkpnmmcdhibbaa", sum := "9830eb61894d3886817677a3be5f8498f0a37b062c40c0662b2f740346a40dc3", func := "tattler/tattlerlaw5.SibsPuts", spec := "sibsPuts", inPlace := ["internal/bytealg.Compare"], unfollowed := true, recurses := true, apart := false }
def SibsPutsSaid : Prop := sibsPutsRow.holds Try.pinned (OpenSpec.ofChange sibsPutsSpec)

/-- ITS FALSE NEIGHBOUR: 'it returns false'. Refute it at one input. -/
def sibsPutsWrong : ChangeSpec := { name := "sibsPuts", fn := fun _ => fun
  | [d1, d2, d3, d4, d5] => { results := [.lit (.bool false)], args := [d1, d2, d3, d4, d5] }
  | _ => none }
def SibsPutsWrongFalsely : Prop := sibsPutsRow.holds Try.pinned (OpenSpec.ofChange sibsPutsWrong)

/-- 'tattlerlaw5.SibsBytes': WHATEVER THE INPUT: true; the input reads as it did. -/
def sibsBytesSpec : ChangeSpec := { name := "sibsBytes", fn := fun _ => fun
  | [d1, d2, d3] => { results := [.lit (.bool true)], args := [d1, d2, d3] }
  | _ => none }
def sibsBytesRow : OpenClaim := { program := "ytfkpnmmcdhibbaa", sum := "9830eb61894d3886817677a3be5f8498f0a37b062c40c0662b2f740346a40dc3", func := "tattler/tattlerlaw5.SibsBytes", spec := "sibsBytes", inPlace := ["internal/bytealg.Compare"], unfollowed := true, recurses := true, apart := false }
def SibsBytesSaid : Prop := sibsBytesRow.holds Try.pinned (OpenSpec.ofChange sibsBytesSpec)

/-- ITS FALSE NEIGHBOUR: 'it returns false'. Refute it at one input. -/
def sibsBytesWrong : ChangeSpec := { name := "sibsBytes", fn := fun _ => fun
  | [d1, d2, d3] => { results := [.lit (.bool false)], args := [d1, d2, d3] }
  | _ => none }
def SibsBytesWrongFalsely : Prop := sibsBytesRow.holds Try.pinned (OpenSpec.ofChange sibsBytesWrong)

/-- 'tattlerlaw5.SibsOrder': WHATEVER THE INPUT: true; the input reads as it did. -/
def sibsOrderSpec : ChangeSpec := { name := "sibsOrder", fn := fun _ => fun
  | [d1, d2, d3] => { results := [.lit (.bool true)], args := [d1, d2, d3] }
  | _ => none }
def sibsOrderRow : OpenClaim := { program := "ytfkpnmmcdhibbaa", sum := "9830eb61894d3886817677a3be5f8498f0a37b062c40c0662b2f740346a40dc3", func := "tattler/tattlerlaw5.SibsOrder", spec := "sibsOrder", inPlace := ["internal/bytealg.Compare"], unfollowed := true, recurses := true, apart := false }
def SibsOrderSaid : Prop := sibsOrderRow.holds Try.pinned (OpenSpec.ofChange sibsOrderSpec)

/-- ITS FALSE NEIGHBOUR: 'it returns false'. Refute it at one input. -/
def sibsOrderWrong : ChangeSpec := { name := "sibsOrder", fn := fun _ => fun
  | [d1, d2, d3] => { results := [.lit (.bool false)], args := [d1, d2, d3] }
  | _ => none }
def SibsOrderWrongFalsely : Prop := sibsOrderRow.holds Try.pinned (OpenSpec.ofChange sibsOrderWrong)

/-- 'tattlerlaw5.SibsGrow': WHATEVER THE INPUT: true; the input reads as it did. -/
def sibsGrowSpec : ChangeSpec := { name := "sibsGrow", fn := fun _ => fun
  | [d1, d2, d3, d4] => { results := [.lit (.bool true)], args := [d1, d2, d3, d4] }
  | _ => none }
def sibsGrowRow : OpenClaim := { program := "ytfkpnmmcdhibbaa", sum := "9830eb61894d3886817677a3be5f8498f0a37b062c40c0662b2f740346a40dc3", func := "tattler/tattlerlaw5.SibsGrow", spec := "sibsGrow", inPlace := ["internal/bytealg.Compare"], unfollowed := true, recurses := true, apart := false }
def SibsGrowSaid : Prop := sibsGrowRow.holds Try.pinned (OpenSpec.ofChange sibsGrowSpec)

/-- ITS FALSE NEIGHBOUR: 'it returns false'. Refute it at one input. -/
def sibsGrowWrong : ChangeSpec := { name := "sibsGrow", fn := fun _ => fun
  | [d1, d2, d3, d4] => { results := [.lit (.bool false)], args := [d1, d2, d3, d4] }
  | _ => none }
def SibsGrowWrongFalsely : Prop := sibsGrowRow.holds Try.pinned (OpenSpec.ofChange sibsGrowWrong)

/- THE SECOND FORM. 'bulk': how many values and letters a reading holds, each counted each time it is reached (what is shared counts as often as it is met; a slice's spare places count too). A statement '..UptoSaid' is the law's where the arguments, and the package variables that the reading takes, are together of bulk at most 1048576: NARROWER than '..Said'. Prove '..Said' where nothing that the law and all that it calls make is longer than what came in: it says more and counts as full. Else prove '..UptoSaid'. A law counts once. -/
mutual
def uptoBulk {H : Type} : DataW H → Nat
  | .lit (.string bytes) => bytes.length + 1
  | .lit _ => 1
  | .nil => 1
  | .ptr d => uptoBulk d + 1
  | .slice elems spare => uptoBulkAll elems + uptoBulkAll spare + 1
  | .agg parts => uptoBulkAll parts + 1
  | .iface _ d => uptoBulk d + 1
  | .map entries => uptoBulkEntries entries + 1
  | .held _ => 1
def uptoBulkAll {H : Type} : List (DataW H) → Nat
  | [] => 0
  | d :: r => uptoBulk d + uptoBulkAll r
def uptoBulkEntries {H : Type} : List (Lit × DataW H) → Nat
  | [] => 0
  | x :: r => uptoBulkEntry x + uptoBulkEntries r
def uptoBulkEntry {H : Type} : Lit × DataW H → Nat
  | (.string bytes, d) => bytes.length + uptoBulk d + 1
  | (_, d) => uptoBulk d + 1
 end
def uptoSmall : (H : Type) → List (DataW H) → Bool := fun _ ds => decide (uptoBulkAll ds ≤ 1048576)
def OpenSpec.upto (s : _root_.Go.ChangeSpec) : _root_.Go.OpenSpec := { _root_.Go.OpenSpec.ofChange s with cond := some uptoSmall }

/-- 'tattlerlaw5.SibsMay', WHERE WHAT IT READS IS OF BULK AT MOST 1048576: true; the input reads as it did. -/
def sibsMayUptoRow : OpenClaim := { program := "ytfkpnmmcdhibbaa", sum := "9830eb61894d3886817677a3be5f8498f0a37b062c40c0662b2f740346a40dc3", func := "tattler/tattlerlaw5.SibsMay", spec := "sibsMay", inPlace := ["internal/bytealg.Compare"], unfollowed := true, recurses := true, apart := false, narrowed := true }
def SibsMayUptoSaid : Prop := sibsMayUptoRow.holds Try.pinned (OpenSpec.upto sibsMaySpec)

/-- 'tattlerlaw5.SibsJoins', WHERE WHAT IT READS IS OF BULK AT MOST 1048576: true; the input reads as it did. -/
def sibsJoinsUptoRow : OpenClaim := { program := "ytfkpnmmcdhibbaa", sum := "9830eb61894d3886817677a3be5f8498f0a37b062c40c0662b2f740346a40dc3", func := "tattler/tattlerlaw5.SibsJoins", spec := "sibsJoins", inPlace := ["internal/bytealg.Compare"], unfollowed := true, recurses := true, apart := false, narrowed := true }
def SibsJoinsUptoSaid : Prop := sibsJoinsUptoRow.holds Try.pinned (OpenSpec.upto sibsJoinsSpec)

/-- 'tattlerlaw5.SibsPuts', WHERE WHAT IT READS IS OF BULK AT MOST 1048576: true; the input reads as it did. -/
def sibsPutsUptoRow : OpenClaim := { program := "ytfkpnmmcdhibbaa", sum := "9830eb61894d3886817677a3be5f8498f0a37b062c40c0662b2f740346a40dc3", func := "tattler/tattlerlaw5.SibsPuts", spec := "sibsPuts", inPlace := ["internal/bytealg.Compare"], unfollowed := true, recurses := true, apart := false, narrowed := true }
def SibsPutsUptoSaid : Prop := sibsPutsUptoRow.holds Try.pinned (OpenSpec.upto sibsPutsSpec)

/-- 'tattlerlaw5.SibsBytes', WHERE WHAT IT READS IS OF BULK AT MOST 1048576: true; the input reads as it did. -/
def sibsBytesUptoRow : OpenClaim := { program := "ytfkpnmmcdhibbaa", sum := "9830eb61894d3886817677a3be5f8498f0a37b062c40c0662b2f740346a40dc3", func := "tattler/tattlerlaw5.SibsBytes", spec := "sibsBytes", inPlace := ["internal/bytealg.Compare"], unfollowed := true, recurses := true, apart := false, narrowed := true }
def SibsBytesUptoSaid : Prop := sibsBytesUptoRow.holds Try.pinned (OpenSpec.upto sibsBytesSpec)

/-- 'tattlerlaw5.SibsOrder', WHERE WHAT IT READS IS OF BULK AT MOST 1048576: true; the input reads as it did. -/
def sibsOrderUptoRow : OpenClaim := { program := "ytfkpnmmcdhibbaa", sum := "9830eb61894d3886817677a3be5f8498f0a37b062c40c0662b2f740346a40dc3", func := "tattler/tattlerlaw5.SibsOrder", spec := "sibsOrder", inPlace := ["internal/bytealg.Compare"], unfollowed := true, recurses := true, apart := false, narrowed := true }
def SibsOrderUptoSaid : Prop := sibsOrderUptoRow.holds Try.pinned (OpenSpec.upto sibsOrderSpec)

/-- 'tattlerlaw5.SibsGrow', WHERE WHAT IT READS IS OF BULK AT MOST 1048576: true; the input reads as it did. -/
def sibsGrowUptoRow : OpenClaim := { program := "ytfkpnmmcdhibbaa", sum := "9830eb61894d3886817677a3be5f8498f0a37b062c40c0662b2f740346a40dc3", func := "tattler/tattlerlaw5.SibsGrow", spec := "sibsGrow", inPlace := ["internal/bytealg.Compare"], unfollowed := true, recurses := true, apart := false, narrowed := true }
def SibsGrowUptoSaid : Prop := sibsGrowUptoRow.holds Try.pinned (OpenSpec.upto sibsGrowSpec)

end Rows
end Go.Proofs.Ytfkpnmmcdhibbaa
