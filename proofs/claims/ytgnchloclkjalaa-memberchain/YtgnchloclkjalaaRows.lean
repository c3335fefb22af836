/-
  No cell of these rows narrows 'for every input' (looked for: loops, veiled, ifaces, maps, wideKeys, modest, calm, conditions, laid).
  DERIVED. THE GIVEN ROWS OF THIS SEAT. 5 by the template 'for every input the law returns true; each argument reads behind the call as it read before'; 0 by the template 'total and deterministic' (their statements: YtgnchloclkjalaaTotals.lean).
  GIVEN WITH THE SEED: the statements are not yours to turn. If you find one false, say at which input.
  Laid BY PROGRAM, IN A SANDBOX (cutbox-rows.mjs): the forced cells as the released guide's own fill.sh prints them over the translation 4bcdd0568fffdffe… (all of the seat's roots in one cut). By AI agents, Wed Nov 11 2026. No macro, syntax, notation, axiom, sorry.
-/
import Derived.Test.YtgnchloclkjalaaChecked
import GoSem.Claim
import GoSem.ClaimJoined
import GoSem.ClaimMapViews
import Derived.JoinedTies
import Derived.KernelRfl
namespace Go.Proofs.Ytgnchloclkjalaa
/- THE CELL 'sum', in the pinned program and in every row, IS THE sha256 OF THE DUMP (.gsa) THAT YtgnchloclkjalaaProg.lean LOADS. Nothing in Lean hashes anything: it is a label: what it is worth is what the hold of that sum in a sandbox is worth. -/
noncomputable def Try.pinned : Pinned := { name := "ytgnchloclkjalaa", sum := "4bcdd0568fffdffe4c779a864fad37af7886b4bf1660ef17cfd1a0dc0ff0c5a8", checked := Try.checked }
namespace Rows
def none {H : Type} : Left H := { results := [], args := [] }

/-- 'tattlerlaw15.MemberJoins': WHATEVER THE INPUT: true; the input reads as it did. -/
def memberJoinsSpec : ChangeSpec := { name := "memberJoins", fn := fun _ => fun
  | [d1, d2] => { results := [.lit (.bool true)], args := [d1, d2] }
  | _ => none }
def memberJoinsRow : OpenClaim := { program := "ytgnchloclkjalaa", sum := "4bcdd0568fffdffe4c779a864fad37af7886b4bf1660ef17cfd1a0dc0ff0c5a8", func := "tattler/tattlerlaw15.MemberJoins", spec := "memberJoins", apart := false }
def MemberJoinsSaid : Prop := memberJoinsRow.holds Try.pinned (OpenSpec.ofChange memberJoinsSpec)

/-- ITS FALSE NEIGHBOUR: 'it returns false'. Refute it at one input. -/
def memberJoinsWrong : ChangeSpec := { name := "memberJoins", fn := fun _ => fun
  | [d1, d2] => { results := [.lit (.bool false)], args := [d1, d2] }
  | _ => none }
def MemberJoinsWrongFalsely : Prop := memberJoinsRow.holds Try.pinned (OpenSpec.ofChange memberJoinsWrong)

/-- 'tattlerlaw15.MemberBytes': WHATEVER THE INPUT: true; the input reads as it did. -/
def memberBytesSpec : ChangeSpec := { name := "memberBytes", fn := fun _ => fun
  | [d1, d2] => { results := [.lit (.bool true)], args := [d1, d2] }
  | _ => none }
def memberBytesRow : OpenClaim := { program := "ytgnchloclkjalaa", sum := "4bcdd0568fffdffe4c779a864fad37af7886b4bf1660ef17cfd1a0dc0ff0c5a8", func := "tattler/tattlerlaw15.MemberBytes", spec := "memberBytes", apart := false }
def MemberBytesSaid : Prop := memberBytesRow.holds Try.pinned (OpenSpec.ofChange memberBytesSpec)

/-- ITS FALSE NEIGHBOUR: 'it returns false'. Refute it at one input. -/
def memberBytesWrong : ChangeSpec := { name := "memberBytes", fn := fun _ => fun
  | [d1, d2] => { results := [.lit (.bool false)], args := [d1, d2] }
  | _ => none }
def MemberBytesWrongFalsely : Prop := memberBytesRow.holds Try.pinned (OpenSpec.ofChange memberBytesWrong)

/-- 'tattlerlaw15.MemberOrder': WHATEVER THE INPUT: true; the input reads as it did. -/
def memberOrderSpec : ChangeSpec := { name := "memberOrder", fn := fun _ => fun
  | [d1, d2, d3] => { results := [.lit (.bool true)], args := [d1, d2, d3] }
  | _ => none }
def memberOrderRow : OpenClaim := { program := "ytgnchloclkjalaa", sum := "4bcdd0568fffdffe4c779a864fad37af7886b4bf1660ef17cfd1a0dc0ff0c5a8", func := "tattler/tattlerlaw15.MemberOrder", spec := "memberOrder", apart := false }
def MemberOrderSaid : Prop := memberOrderRow.holds Try.pinned (OpenSpec.ofChange memberOrderSpec)

/-- ITS FALSE NEIGHBOUR: 'it returns false'. Refute it at one input. -/
def memberOrderWrong : ChangeSpec := { name := "memberOrder", fn := fun _ => fun
  | [d1, d2, d3] => { results := [.lit (.bool false)], args := [d1, d2, d3] }
  | _ => none }
def MemberOrderWrongFalsely : Prop := memberOrderRow.holds Try.pinned (OpenSpec.ofChange memberOrderWrong)

/-- 'tattlerlaw15.MemberRefutes': WHATEVER THE INPUT: true; the input reads as it did. -/
def memberRefutesSpec : ChangeSpec := { name := "memberRefutes", fn := fun _ => fun
  | [d1, d2] => { results := [.lit (.bool true)], args := [d1, d2] }
  | _ => none }
def memberRefutesRow : OpenClaim := { program := "ytgnchloclkjalaa", sum := "4bcdd0568fffdffe4c779a864fad37af7886b4bf1660ef17cfd1a0dc0ff0c5a8", func := "tattler/tattlerlaw15.MemberRefutes", spec := "memberRefutes", apart := false }
def MemberRefutesSaid : Prop := memberRefutesRow.holds Try.pinned (OpenSpec.ofChange memberRefutesSpec)

/-- ITS FALSE NEIGHBOUR: 'it returns false'. Refute it at one input. -/
def memberRefutesWrong : ChangeSpec := { name := "memberRefutes", fn := fun _ => fun
  | [d1, d2] => { results := [.lit (.bool false)], args := [d1, d2] }
  | _ => none }
def MemberRefutesWrongFalsely : Prop := memberRefutesRow.holds Try.pinned (OpenSpec.ofChange memberRefutesWrong)

/-- 'tattlerlaw15.MemberChain': WHATEVER THE INPUT: true; the input reads as it did. -/
def memberChainSpec : ChangeSpec := { name := "memberChain", fn := fun _ => fun
  | [d1, d2] => { results := [.lit (.bool true)], args := [d1, d2] }
  | _ => none }
def memberChainRow : OpenClaim := { program := "ytgnchloclkjalaa", sum := "4bcdd0568fffdffe4c779a864fad37af7886b4bf1660ef17cfd1a0dc0ff0c5a8", func := "tattler/tattlerlaw15.MemberChain", spec := "memberChain", apart := false }
def MemberChainSaid : Prop := memberChainRow.holds Try.pinned (OpenSpec.ofChange memberChainSpec)

/-- ITS FALSE NEIGHBOUR: 'it returns false'. Refute it at one input. -/
def memberChainWrong : ChangeSpec := { name := "memberChain", fn := fun _ => fun
  | [d1, d2] => { results := [.lit (.bool false)], args := [d1, d2] }
  | _ => none }
def MemberChainWrongFalsely : Prop := memberChainRow.holds Try.pinned (OpenSpec.ofChange memberChainWrong)

/- THE SECOND FORM. 'bulk': how many values and letters a reading holds, each counted each time it is reached (what is shared counts as often as it is met; a slice's spare places count too). A statement '..UptoSaid' is the law's where the arguments, and the package variables that the reading takes, are together of bulk at most 1048576: NARROWER than '..Said'. Prove '..Said' where nothing that the law and all that it calls make is longer than what came in: it says more and counts as full. Else prove '..UptoSaid'. A law counts once. -/
mutual
def uptoBulk {H : Type} : DataW H → Nat
  | .lit (.string bytes) => bytes.length + 1
  | .lit _ => 1
  | .nil => 1
  | .ptr d => uptoBulk d + 1
  | .slice elems spare => uptoBulkAll elems + uptoBulkAll spare + 1
  | .agg parts => uptoBulkAll parts + 1
  | .iface _ d => uptoBulk d + 1
  | .map entries => uptoBulkEntries entries + 1
  | .held _ => 1
def uptoBulkAll {H : Type} : List (DataW H) → Nat
  | [] => 0
  | d :: r => uptoBulk d + uptoBulkAll r
def uptoBulkEntries {H : Type} : List (Lit × DataW H) → Nat
  | [] => 0
  | x :: r => uptoBulkEntry x + uptoBulkEntries r
def uptoBulkEntry {H : Type} : Lit × DataW H → Nat
  | (.string bytes, d) => bytes.length + uptoBulk d + 1
  | (_, d) => uptoBulk d + 1
 end
def uptoSmall : (H : Type) → List (DataW H) → Bool := fun _ ds => decide (uptoBulkAll ds ≤ 1048576)
def OpenSpec.upto (s : _root_.Go.ChangeSpec) : _root_.Go.OpenSpec := { _root_.Go.OpenSpec.ofChange s with cond := some uptoSmall }

/-- 'tattlerlaw15.MemberJoins', WHERE WHAT IT READS IS OF BULK AT MOST 1048576: true; the input reads as it did. -/
def memberJoinsUptoRow : OpenClaim := { program := "ytgnchloclkjalaa", sum := "4bcdd0568fffdffe4c779a864fad37af7886b4bf1660ef17cfd1a0dc0ff0c5a8", func := "tattler/tattlerlaw15.MemberJoins", spec := "memberJoins", apart := false, narrowed := true }
def MemberJoinsUptoSaid : Prop := memberJoinsUptoRow.holds Try.pinned (OpenSpec.upto memberJoinsSpec)

/-- 'tattlerlaw15.MemberBytes', WHERE WHAT IT READS IS OF BULK AT MOST 1048576: true; the input reads as it did. -/
def memberBytesUptoRow : OpenClaim := { program := "ytgnchloclkjalaa", sum := "4bcdd0568fffdffe4c779a864fad37af7886b4bf1660ef17cfd1a0dc0ff0c5a8", func := "tattler/tattlerlaw15.MemberBytes", spec := "memberBytes", apart := false, narrowed := true }
def MemberBytesUptoSaid : Prop := memberBytesUptoRow.holds Try.pinned (OpenSpec.upto memberBytesSpec)

/-- 'tattlerlaw15.MemberOrder', WHERE WHAT IT READS IS OF BULK AT MOST 1048576: true; the input reads as it did. -/
def memberOrderUptoRow : OpenClaim := { program := "ytgnchloclkjalaa", sum := "4bcdd0568fffdffe4c779a864fad37af7886b4bf1660ef17cfd1a0dc0ff0c5a8", func := "tattler/tattlerlaw15.MemberOrder", spec := "memberOrder", apart := false, narrowed := true }
def MemberOrderUptoSaid : Prop := memberOrderUptoRow.holds Try.pinned (OpenSpec.upto memberOrderSpec)

/-- 'tattlerlaw15.MemberRefutes', WHERE WHAT IT READS IS OF BULK AT MOST 1048576: true; the input reads as it did. -/
def memberRefutesUptoRow : OpenClaim := { program := "ytgnchloclkjalaa", sum := "4bcdd0568fffdffe4c779a864fad37af7886b4bf1660ef17cfd1a0dc0ff0c5a8", func := "tattler/tattlerlaw15.MemberRefutes", spec := "memberRefutes", apart := false, narrowed := true }
def MemberRefutesUptoSaid : Prop := memberRefutesUptoRow.holds Try.pinned (OpenSpec.upto memberRefutesSpec)

/-- 'tattlerlaw15.MemberChain', WHERE WHAT IT READS IS OF BULK AT MOST 1048576: true; the input reads as it did. -/
def memberChainUptoRow : OpenClaim := { program := "ytgnchloclkjalaa", sum := "4bcdd0568fffdffe4c779a864fad37af7886b4bf1660ef17cfd1a0dc0ff0c5a8", func := "tattler/tattlerlaw15.MemberChain", spec := "memberChain", apart := false, narrowed := true }
def MemberChainUptoSaid : Prop := memberChainUptoRow.holds Try.pinned (OpenSpec.upto memberChainSpec)

end Rows
end Go.Proofs.Ytgnchloclkjalaa
