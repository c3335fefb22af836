/-
  No cell of these rows narrows 'for every input' (looked for: loops, veiled, ifaces, maps, wideKeys, modest, calm, conditions, laid).
  DERIVED. THE GIVEN ROWS OF THIS SEAT. 4 by the template 'for every input the law returns true; each argument reads behind the call as it read before'; 0 by the template 'total and deterministic' (their statements: YthjbnpaghiojlabGreatTotals.lean).
  GIVEN WITH THE SEED: the statements are not yours to turn. If you find one false, say at which input.
  Laid BY PROGRAM, IN A SANDBOX (cutbox-rows.mjs): the forced cells as the released guide's own fill.sh prints them over the translation 05580f6d25e2e13a… (all of the seat's roots in one cut). By AI agents, Wed Nov 11 2026. No macro, syntax, notation, axiom, sorry.
-/
import Derived.Test.YthjbnpaghiojlabGreatChecked
import GoSem.Claim
import GoSem.ClaimJoined
import GoSem.ClaimMapViews
import Derived.JoinedTies
import Derived.KernelRfl
namespace Go.Proofs.YthjbnpaghiojlabGreat
/- THE CELL 'sum', in the pinned program and in every row, IS THE sha256 OF THE DUMP (.gsa) THAT YthjbnpaghiojlabGreatProg.lean LOADS. Nothing in Lean hashes anything: it is a label: what it is worth is what the hold of that sum in a sandbox is worth. -/
noncomputable def Tryz.pinned : Pinned := { name := "ythjbnpaghiojlabgreat", sum := "05580f6d25e2e13a4d52f2d38354e5bc9d1c220dad5cb1a99075c98fc583f3ff", checked := Tryz.checked }
namespace Rows
def none {H : Type} : Left H := { results := [], args := [] }

/-- 'tattlerlaw12.LocalTwice': WHATEVER THE INPUT: true; the input reads as it did. -/
def localTwiceSpec : ChangeSpec := { name := "localTwice", fn := fun _ => fun
  | [d] => { results := [.lit (.bool true)], args := [d] }
  | _ => none }
def localTwiceRow : OpenClaim := { program := "ythjbnpaghiojlabgreat", sum := "05580f6d25e2e13a4d52f2d38354e5bc9d1c220dad5cb1a99075c98fc583f3ff", func := "tattler/tattlerlaw12.LocalTwice", spec := "localTwice", inPlace := ["sync/atomic.StoreInt64", "sync/atomic.LoadUint32", "(*internal/sync.Mutex).Lock", "internal/race.Disable", "sync/atomic.CompareAndSwapInt32", "internal/race.Enable", "internal/race.Acquire", "(*internal/sync.Mutex).lockSlow", "internal/sync.runtime_canSpin", "internal/sync.runtime_doSpin", "internal/sync.throw", "internal/sync.runtime_nanotime", "internal/sync.runtime_SemacquireMutex", "sync/atomic.AddInt32", "(*internal/sync.Mutex).Unlock", "internal/race.ReleaseMerge", "(*internal/sync.Mutex).unlockSlow", "internal/sync.fatal", "internal/sync.runtime_Semrelease", "sync/atomic.StoreUint32", "internal/bytealg.Compare", "internal/bytealg.abigen_runtime_cmpstring", "slices.overlaps[tattler/api.Hint]"], unfollowed := true, recurses := true, apart := false }
def LocalTwiceSaid : Prop := localTwiceRow.holds Tryz.pinned (OpenSpec.ofChange localTwiceSpec)

/-- ITS FALSE NEIGHBOUR: 'it returns false'. Refute it at one input. -/
def localTwiceWrong : ChangeSpec := { name := "localTwice", fn := fun _ => fun
  | [d] => { results := [.lit (.bool false)], args := [d] }
  | _ => none }
def LocalTwiceWrongFalsely : Prop := localTwiceRow.holds Tryz.pinned (OpenSpec.ofChange localTwiceWrong)

/-- 'tattlerlaw12.LocalIdle': WHATEVER THE INPUT: true; the input reads as it did. -/
def localIdleSpec : ChangeSpec := { name := "localIdle", fn := fun _ => fun
  | [d] => { results := [.lit (.bool true)], args := [d] }
  | _ => none }
def localIdleRow : OpenClaim := { program := "ythjbnpaghiojlabgreat", sum := "05580f6d25e2e13a4d52f2d38354e5bc9d1c220dad5cb1a99075c98fc583f3ff", func := "tattler/tattlerlaw12.LocalIdle", spec := "localIdle", inPlace := ["sync/atomic.StoreInt64", "sync/atomic.LoadUint32", "(*internal/sync.Mutex).Lock", "internal/race.Disable", "sync/atomic.CompareAndSwapInt32", "internal/race.Enable", "internal/race.Acquire", "(*internal/sync.Mutex).lockSlow", "internal/sync.runtime_canSpin", "internal/sync.runtime_doSpin", "internal/sync.throw", "internal/sync.runtime_nanotime", "internal/sync.runtime_SemacquireMutex", "sync/atomic.AddInt32", "(*internal/sync.Mutex).Unlock", "internal/race.ReleaseMerge", "(*internal/sync.Mutex).unlockSlow", "internal/sync.fatal", "internal/sync.runtime_Semrelease", "sync/atomic.StoreUint32", "internal/bytealg.Compare", "internal/bytealg.abigen_runtime_cmpstring", "slices.overlaps[tattler/api.Hint]"], unfollowed := true, recurses := true, apart := false }
def LocalIdleSaid : Prop := localIdleRow.holds Tryz.pinned (OpenSpec.ofChange localIdleSpec)

/-- ITS FALSE NEIGHBOUR: 'it returns false'. Refute it at one input. -/
def localIdleWrong : ChangeSpec := { name := "localIdle", fn := fun _ => fun
  | [d] => { results := [.lit (.bool false)], args := [d] }
  | _ => none }
def LocalIdleWrongFalsely : Prop := localIdleRow.holds Tryz.pinned (OpenSpec.ofChange localIdleWrong)

/-- 'tattlerlaw12.LocalApart': WHATEVER THE INPUT: true; the input reads as it did. -/
def localApartSpec : ChangeSpec := { name := "localApart", fn := fun _ => fun
  | [d] => { results := [.lit (.bool true)], args := [d] }
  | _ => none }
def localApartRow : OpenClaim := { program := "ythjbnpaghiojlabgreat", sum := "05580f6d25e2e13a4d52f2d38354e5bc9d1c220dad5cb1a99075c98fc583f3ff", func := "tattler/tattlerlaw12.LocalApart", spec := "localApart", inPlace := ["sync/atomic.StoreInt64", "sync/atomic.LoadUint32", "(*internal/sync.Mutex).Lock", "internal/race.Disable", "sync/atomic.CompareAndSwapInt32", "internal/race.Enable", "internal/race.Acquire", "(*internal/sync.Mutex).lockSlow", "internal/sync.runtime_canSpin", "internal/sync.runtime_doSpin", "internal/sync.throw", "internal/sync.runtime_nanotime", "internal/sync.runtime_SemacquireMutex", "sync/atomic.AddInt32", "(*internal/sync.Mutex).Unlock", "internal/race.ReleaseMerge", "(*internal/sync.Mutex).unlockSlow", "internal/sync.fatal", "internal/sync.runtime_Semrelease", "sync/atomic.StoreUint32", "internal/bytealg.Compare", "internal/bytealg.abigen_runtime_cmpstring", "slices.overlaps[tattler/api.Hint]"], unfollowed := true, recurses := true, apart := false }
def LocalApartSaid : Prop := localApartRow.holds Tryz.pinned (OpenSpec.ofChange localApartSpec)

/-- ITS FALSE NEIGHBOUR: 'it returns false'. Refute it at one input. -/
def localApartWrong : ChangeSpec := { name := "localApart", fn := fun _ => fun
  | [d] => { results := [.lit (.bool false)], args := [d] }
  | _ => none }
def LocalApartWrongFalsely : Prop := localApartRow.holds Tryz.pinned (OpenSpec.ofChange localApartWrong)

/-- 'tattlerlaw12.LocalMany': WHATEVER THE INPUT: true; the input reads as it did. -/
def localManySpec : ChangeSpec := { name := "localMany", fn := fun _ => fun
  | [d] => { results := [.lit (.bool true)], args := [d] }
  | _ => none }
def localManyRow : OpenClaim := { program := "ythjbnpaghiojlabgreat", sum := "05580f6d25e2e13a4d52f2d38354e5bc9d1c220dad5cb1a99075c98fc583f3ff", func := "tattler/tattlerlaw12.LocalMany", spec := "localMany", inPlace := ["sync/atomic.StoreInt64", "sync/atomic.LoadUint32", "(*internal/sync.Mutex).Lock", "internal/race.Disable", "sync/atomic.CompareAndSwapInt32", "internal/race.Enable", "internal/race.Acquire", "(*internal/sync.Mutex).lockSlow", "internal/sync.runtime_canSpin", "internal/sync.runtime_doSpin", "internal/sync.throw", "internal/sync.runtime_nanotime", "internal/sync.runtime_SemacquireMutex", "sync/atomic.AddInt32", "(*internal/sync.Mutex).Unlock", "internal/race.ReleaseMerge", "(*internal/sync.Mutex).unlockSlow", "internal/sync.fatal", "internal/sync.runtime_Semrelease", "sync/atomic.StoreUint32", "internal/bytealg.Compare", "internal/bytealg.abigen_runtime_cmpstring", "slices.overlaps[tattler/api.Hint]"], unfollowed := true, recurses := true, apart := false }
def LocalManySaid : Prop := localManyRow.holds Tryz.pinned (OpenSpec.ofChange localManySpec)

/-- ITS FALSE NEIGHBOUR: 'it returns false'. Refute it at one input. -/
def localManyWrong : ChangeSpec := { name := "localMany", fn := fun _ => fun
  | [d] => { results := [.lit (.bool false)], args := [d] }
  | _ => none }
def LocalManyWrongFalsely : Prop := localManyRow.holds Tryz.pinned (OpenSpec.ofChange localManyWrong)

/- THE SECOND FORM. 'bulk': how many values and letters a reading holds, each counted each time it is reached (what is shared counts as often as it is met; a slice's spare places count too). A statement '..UptoSaid' is the law's where the arguments, and the package variables that the reading takes, are together of bulk at most 1048576: NARROWER than '..Said'. Prove '..Said' where nothing that the law and all that it calls make is longer than what came in: it says more and counts as full. Else prove '..UptoSaid'. A law counts once. -/
mutual
def uptoBulk {H : Type} : DataW H → Nat
  | .lit (.string bytes) => bytes.length + 1
  | .lit _ => 1
  | .nil => 1
  | .ptr d => uptoBulk d + 1
  | .slice elems spare => uptoBulkAll elems + uptoBulkAll spare + 1
  | .agg parts => uptoBulkAll parts + 1
  | .iface _ d => uptoBulk d + 1
  | .map entries => uptoBulkEntries entries + 1
  | .held _ => 1
def uptoBulkAll {H : Type} : List (DataW H) → Nat
  | [] => 0
  | d :: r => uptoBulk d + uptoBulkAll r
def uptoBulkEntries {H : Type} : List (Lit × DataW H) → Nat
  | [] => 0
  | x :: r => uptoBulkEntry x + uptoBulkEntries r
def uptoBulkEntry {H : Type} : Lit × DataW H → Nat
  | (.string bytes, d) => bytes.length + uptoBulk d + 1
  | (_, d) => uptoBulk d + 1
 end
def uptoSmall : (H : Type) → List (DataW H) → Bool := fun _ ds => decide (uptoBulkAll ds ≤ 1048576)
def OpenSpec.upto (s : _root_.Go.ChangeSpec) : _root_.Go.OpenSpec := { _root_.Go.OpenSpec.ofChange s with cond := some uptoSmall }

/-- 'tattlerlaw12.LocalTwice', WHERE WHAT IT READS IS OF BULK AT MOST 1048576: true; the input reads as it did. -/
def localTwiceUptoRow : OpenClaim := { program := "ythjbnpaghiojlabgreat", sum := "05580f6d25e2e13a4d52f2d38354e5bc9d1c220dad5cb1a99075c98fc583f3ff", func := "tattler/tattlerlaw12.LocalTwice", spec := "localTwice", inPlace := ["sync/atomic.StoreInt64", "sync/atomic.LoadUint32", "(*internal/sync.Mutex).Lock", "internal/race.Disable", "sync/atomic.CompareAndSwapInt32", "internal/race.Enable", "internal/race.Acquire", "(*internal/sync.Mutex).lockSlow", "internal/sync.runtime_canSpin", "internal/sync.runtime_doSpin", "internal/sync.throw", "internal/sync.runtime_nanotime", "internal/sync.runtime_SemacquireMutex", "sync/atomic.AddInt32", "(*internal/sync.Mutex).Unlock", "internal/race.ReleaseMerge", "(*internal/sync.Mutex).unlockSlow", "internal/sync.fatal", "internal/sync.runtime_Semrelease", "sync/atomic.StoreUint32", "internal/bytealg.Compare", "internal/bytealg.abigen_runtime_cmpstring", "slices.overlaps[tattler/api.Hint]"], unfollowed := true, recurses := true, apart := false, narrowed := true }
def LocalTwiceUptoSaid : Prop := localTwiceUptoRow.holds Tryz.pinned (OpenSpec.upto localTwiceSpec)

/-- 'tattlerlaw12.LocalIdle', WHERE WHAT IT READS IS OF BULK AT MOST 1048576: true; the input reads as it did. -/
def localIdleUptoRow : OpenClaim := { program := "ythjbnpaghiojlabgreat", sum := "05580f6d25e2e13a4d52f2d38354e5bc9d1c220dad5cb1a99075c98fc583f3ff", func := "tattler/tattlerlaw12.LocalIdle", spec := "localIdle", inPlace := ["sync/atomic.StoreInt64", "sync/atomic.LoadUint32", "(*internal/sync.Mutex).Lock", "internal/race.Disable", "sync/atomic.CompareAndSwapInt32", "internal/race.Enable", "internal/race.Acquire", "(*internal/sync.Mutex).lockSlow", "internal/sync.runtime_canSpin", "internal/sync.runtime_doSpin", "internal/sync.throw", "internal/sync.runtime_nanotime", "internal/sync.runtime_SemacquireMutex", "sync/atomic.AddInt32", "(*internal/sync.Mutex).Unlock", "internal/race.ReleaseMerge", "(*internal/sync.Mutex).unlockSlow", "internal/sync.fatal", "internal/sync.runtime_Semrelease", "sync/atomic.StoreUint32", "internal/bytealg.Compare", "internal/bytealg.abigen_runtime_cmpstring", "slices.overlaps[tattler/api.Hint]"], unfollowed := true, recurses := true, apart := false, narrowed := true }
def LocalIdleUptoSaid : Prop := localIdleUptoRow.holds Tryz.pinned (OpenSpec.upto localIdleSpec)

/-- 'tattlerlaw12.LocalApart', WHERE WHAT IT READS IS OF BULK AT MOST 1048576: true; the input reads as it did. -/
def localApartUptoRow : OpenClaim := { program := "ythjbnpaghiojlabgreat", sum := "05580f6d25e2e13a4d52f2d38354e5bc9d1c220dad5cb1a99075c98fc583f3ff", func := "tattler/tattlerlaw12.LocalApart", spec := "localApart", inPlace := ["sync/atomic.StoreInt64", "sync/atomic.LoadUint32", "(*internal/sync.Mutex).Lock", "internal/race.Disable", "sync/atomic.CompareAndSwapInt32", "internal/race.Enable", "internal/race.Acquire", "(*internal/sync.Mutex).lockSlow", "internal/sync.runtime_canSpin", "internal/sync.runtime_doSpin", "internal/sync.throw", "internal/sync.runtime_nanotime", "internal/sync.runtime_SemacquireMutex", "sync/atomic.AddInt32", "(*internal/sync.Mutex).Unlock", "internal/race.ReleaseMerge", "(*internal/sync.Mutex).unlockSlow", "internal/sync.fatal", "internal/sync.runtime_Semrelease", "sync/atomic.StoreUint32", "internal/bytealg.Compare", "internal/bytealg.abigen_runtime_cmpstring", "slices.overlaps[tattler/api.Hint]"], unfollowed := true, recurses := true, apart := false, narrowed := true }
def LocalApartUptoSaid : Prop := localApartUptoRow.holds Tryz.pinned (OpenSpec.upto localApartSpec)

/-- 'tattlerlaw12.LocalMany', WHERE WHAT IT READS IS OF BULK AT MOST 1048576: true; the input reads as it did. -/
def localManyUptoRow : OpenClaim := { program := "ythjbnpaghiojlabgreat", sum := "05580f6d25e2e13a4d52f2d38354e5bc9d1c220dad5cb1a99075c98fc583f3ff", func := "tattler/tattlerlaw12.LocalMany", spec := "localMany", inPlace := ["sync/atomic.StoreInt64", "sync/atomic.LoadUint32", "(*internal/sync.Mutex).Lock", "internal/race.Disable", "sync/atomic.CompareAndSwapInt32", "internal/race.Enable", "internal/race.Acquire", "(*internal/sync.Mutex).lockSlow", "internal/sync.runtime_canSpin", "internal/sync.runtime_doSpin", "internal/sync.throw", "internal/sync.runtime_nanotime", "internal/sync.runtime_SemacquireMutex", "sync/atomic.AddInt32", "(*internal/sync.Mutex).Unlock", "internal/race.ReleaseMerge", "(*internal/sync.Mutex).unlockSlow", "internal/sync.fatal", "internal/sync.runtime_Semrelease", "sync/atomic.StoreUint32", "internal/bytealg.Compare", "internal/bytealg.abigen_runtime_cmpstring", "slices.overlaps[tattler/api.Hint]"], unfollowed := true, recurses := true, apart := false, narrowed := true }
def LocalManyUptoSaid : Prop := localManyUptoRow.holds Tryz.pinned (OpenSpec.upto localManySpec)

end Rows
end Go.Proofs.YthjbnpaghiojlabGreat
