/-
  No cell of these rows narrows 'for every input' (looked for: loops, veiled, ifaces, maps, wideKeys, modest, calm, conditions, laid).
  DERIVED. THE GIVEN ROWS OF THIS SEAT. 6 by the template 'for every input the law returns true; each argument reads behind the call as it read before'; 0 by the template 'total and deterministic' (their statements: YthjbnpaghiojlaaGreatTotals.lean).
  GIVEN WITH THE SEED: the statements are not yours to turn. If you find one false, say at which input.
  Laid BY PROGRAM, IN A SANDBOX (cutbox-rows.mjs): the forced cells as the released guide's own fill.sh prints them over the translation 2c123a95a127659b… (all of the seat's roots in one cut). By AI agents, Wed Nov 11 2026. No macro, syntax, notation, axiom, sorry.
-/
import Derived.Test.YthjbnpaghiojlaaGreatChecked
import GoSem.Claim
import GoSem.ClaimJoined
import GoSem.ClaimMapViews
import Derived.JoinedTies
import Derived.KernelRfl
namespace Go.Proofs.YthjbnpaghiojlaaGreat
/- THE CELL 'sum', in the pinned program and in every row, IS THE sha256 OF THE DUMP (.gsa) THAT YthjbnpaghiojlaaGreatProg.lean LOADS. Nothing in Lean hashes anything: it is a label: what it is worth is what the hold of that sum in a sandbox is worth. -/
noncomputable def Tryz.pinned : Pinned := { name := "ythjbnpaghiojlaagreat", sum := "2c123a95a127659bef8d55b61ecf6680ad6d5d6373ec98542e16c3f93994b937", checked := Tryz.checked }
namespace Rows
def none {H : Type} : Left H := { results := [], args := [] }

/-- 'tattlerlaw12.LocalPlays': WHATEVER THE INPUT: true; the input reads as it did. -/
def localPlaysSpec : ChangeSpec := { name := "localPlays", fn := fun _ => fun
  | [d1, d2] => { results := [.lit (.bool true)], args := [d1, d2] }
  | _ => none }
def localPlaysRow : OpenClaim := { program := "ythjbnpaghiojlaagreat", sum := "2c123a95a127659bef8d55b61ecf6680ad6d5d6373ec98542e16c3f93994b937", func := "tattler/tattlerlaw12.LocalPlays", spec := "localPlays", inPlace := ["sync/atomic.StoreInt64", "sync/atomic.LoadUint32", "(*internal/sync.Mutex).Lock", "internal/race.Disable", "sync/atomic.CompareAndSwapInt32", "internal/race.Enable", "internal/race.Acquire", "(*internal/sync.Mutex).lockSlow", "internal/sync.runtime_canSpin", "internal/sync.runtime_doSpin", "internal/sync.throw", "internal/sync.runtime_nanotime", "internal/sync.runtime_SemacquireMutex", "sync/atomic.AddInt32", "(*internal/sync.Mutex).Unlock", "internal/race.ReleaseMerge", "(*internal/sync.Mutex).unlockSlow", "internal/sync.fatal", "internal/sync.runtime_Semrelease", "sync/atomic.StoreUint32", "internal/bytealg.Compare", "internal/bytealg.abigen_runtime_cmpstring", "slices.overlaps[tattler/api.Hint]"], unfollowed := true, recurses := true, apart := false }
def LocalPlaysSaid : Prop := localPlaysRow.holds Tryz.pinned (OpenSpec.ofChange localPlaysSpec)

/-- ITS FALSE NEIGHBOUR: 'it returns false'. Refute it at one input. -/
def localPlaysWrong : ChangeSpec := { name := "localPlays", fn := fun _ => fun
  | [d1, d2] => { results := [.lit (.bool false)], args := [d1, d2] }
  | _ => none }
def LocalPlaysWrongFalsely : Prop := localPlaysRow.holds Tryz.pinned (OpenSpec.ofChange localPlaysWrong)

/-- 'tattlerlaw12.LocalOpens': WHATEVER THE INPUT: true; the input reads as it did. -/
def localOpensSpec : ChangeSpec := { name := "localOpens", fn := fun _ => fun
  | [d1, d2, d3, d4] => { results := [.lit (.bool true)], args := [d1, d2, d3, d4] }
  | _ => none }
def localOpensRow : OpenClaim := { program := "ythjbnpaghiojlaagreat", sum := "2c123a95a127659bef8d55b61ecf6680ad6d5d6373ec98542e16c3f93994b937", func := "tattler/tattlerlaw12.LocalOpens", spec := "localOpens", inPlace := ["sync/atomic.StoreInt64", "sync/atomic.LoadUint32", "(*internal/sync.Mutex).Lock", "internal/race.Disable", "sync/atomic.CompareAndSwapInt32", "internal/race.Enable", "internal/race.Acquire", "(*internal/sync.Mutex).lockSlow", "internal/sync.runtime_canSpin", "internal/sync.runtime_doSpin", "internal/sync.throw", "internal/sync.runtime_nanotime", "internal/sync.runtime_SemacquireMutex", "sync/atomic.AddInt32", "(*internal/sync.Mutex).Unlock", "internal/race.ReleaseMerge", "(*internal/sync.Mutex).unlockSlow", "internal/sync.fatal", "internal/sync.runtime_Semrelease", "sync/atomic.StoreUint32", "internal/bytealg.Compare", "internal/bytealg.abigen_runtime_cmpstring", "slices.overlaps[tattler/api.Hint]"], unfollowed := true, recurses := true, apart := false }
def LocalOpensSaid : Prop := localOpensRow.holds Tryz.pinned (OpenSpec.ofChange localOpensSpec)

/-- ITS FALSE NEIGHBOUR: 'it returns false'. Refute it at one input. -/
def localOpensWrong : ChangeSpec := { name := "localOpens", fn := fun _ => fun
  | [d1, d2, d3, d4] => { results := [.lit (.bool false)], args := [d1, d2, d3, d4] }
  | _ => none }
def LocalOpensWrongFalsely : Prop := localOpensRow.holds Tryz.pinned (OpenSpec.ofChange localOpensWrong)

/-- 'tattlerlaw12.LocalNil': WHATEVER THE INPUT: true; the input reads as it did. -/
def localNilSpec : ChangeSpec := { name := "localNil", fn := fun _ => fun
  | [d] => { results := [.lit (.bool true)], args := [d] }
  | _ => none }
def localNilRow : OpenClaim := { program := "ythjbnpaghiojlaagreat", sum := "2c123a95a127659bef8d55b61ecf6680ad6d5d6373ec98542e16c3f93994b937", func := "tattler/tattlerlaw12.LocalNil", spec := "localNil", inPlace := ["internal/bytealg.Compare", "sync/atomic.StoreInt64", "sync/atomic.LoadUint32", "(*internal/sync.Mutex).Lock", "internal/race.Disable", "sync/atomic.CompareAndSwapInt32", "internal/race.Enable", "internal/race.Acquire", "(*internal/sync.Mutex).lockSlow", "internal/sync.runtime_canSpin", "internal/sync.runtime_doSpin", "internal/sync.throw", "internal/sync.runtime_nanotime", "internal/sync.runtime_SemacquireMutex", "sync/atomic.AddInt32", "(*internal/sync.Mutex).Unlock", "internal/race.ReleaseMerge", "(*internal/sync.Mutex).unlockSlow", "internal/sync.fatal", "internal/sync.runtime_Semrelease", "sync/atomic.StoreUint32", "internal/bytealg.abigen_runtime_cmpstring", "slices.overlaps[tattler/api.Hint]"], unfollowed := true, recurses := true, apart := false }
def LocalNilSaid : Prop := localNilRow.holds Tryz.pinned (OpenSpec.ofChange localNilSpec)

/-- ITS FALSE NEIGHBOUR: 'it returns false'. Refute it at one input. -/
def localNilWrong : ChangeSpec := { name := "localNil", fn := fun _ => fun
  | [d] => { results := [.lit (.bool false)], args := [d] }
  | _ => none }
def LocalNilWrongFalsely : Prop := localNilRow.holds Tryz.pinned (OpenSpec.ofChange localNilWrong)

/-- 'tattlerlaw12.LocalLasts': WHATEVER THE INPUT: true; the input reads as it did. -/
def localLastsSpec : ChangeSpec := { name := "localLasts", fn := fun _ => fun
  | [d1, d2, d3] => { results := [.lit (.bool true)], args := [d1, d2, d3] }
  | _ => none }
def localLastsRow : OpenClaim := { program := "ythjbnpaghiojlaagreat", sum := "2c123a95a127659bef8d55b61ecf6680ad6d5d6373ec98542e16c3f93994b937", func := "tattler/tattlerlaw12.LocalLasts", spec := "localLasts", inPlace := ["sync/atomic.StoreInt64", "sync/atomic.LoadUint32", "(*internal/sync.Mutex).Lock", "internal/race.Disable", "sync/atomic.CompareAndSwapInt32", "internal/race.Enable", "internal/race.Acquire", "(*internal/sync.Mutex).lockSlow", "internal/sync.runtime_canSpin", "internal/sync.runtime_doSpin", "internal/sync.throw", "internal/sync.runtime_nanotime", "internal/sync.runtime_SemacquireMutex", "sync/atomic.AddInt32", "(*internal/sync.Mutex).Unlock", "internal/race.ReleaseMerge", "(*internal/sync.Mutex).unlockSlow", "internal/sync.fatal", "internal/sync.runtime_Semrelease", "sync/atomic.StoreUint32", "internal/bytealg.Compare", "internal/bytealg.abigen_runtime_cmpstring", "slices.overlaps[tattler/api.Hint]"], unfollowed := true, recurses := true, apart := false }
def LocalLastsSaid : Prop := localLastsRow.holds Tryz.pinned (OpenSpec.ofChange localLastsSpec)

/-- ITS FALSE NEIGHBOUR: 'it returns false'. Refute it at one input. -/
def localLastsWrong : ChangeSpec := { name := "localLasts", fn := fun _ => fun
  | [d1, d2, d3] => { results := [.lit (.bool false)], args := [d1, d2, d3] }
  | _ => none }
def LocalLastsWrongFalsely : Prop := localLastsRow.holds Tryz.pinned (OpenSpec.ofChange localLastsWrong)

/-- 'tattlerlaw12.LocalNew': WHATEVER THE INPUT: true; the input reads as it did. -/
def localNewSpec : ChangeSpec := { name := "localNew", fn := fun _ => fun
  | [d] => { results := [.lit (.bool true)], args := [d] }
  | _ => none }
def localNewRow : OpenClaim := { program := "ythjbnpaghiojlaagreat", sum := "2c123a95a127659bef8d55b61ecf6680ad6d5d6373ec98542e16c3f93994b937", func := "tattler/tattlerlaw12.LocalNew", spec := "localNew", inPlace := ["sync/atomic.StoreInt64", "sync/atomic.LoadUint32", "(*internal/sync.Mutex).Lock", "internal/race.Disable", "sync/atomic.CompareAndSwapInt32", "internal/race.Enable", "internal/race.Acquire", "(*internal/sync.Mutex).lockSlow", "internal/sync.runtime_canSpin", "internal/sync.runtime_doSpin", "internal/sync.throw", "internal/sync.runtime_nanotime", "internal/sync.runtime_SemacquireMutex", "sync/atomic.AddInt32", "(*internal/sync.Mutex).Unlock", "internal/race.ReleaseMerge", "(*internal/sync.Mutex).unlockSlow", "internal/sync.fatal", "internal/sync.runtime_Semrelease", "sync/atomic.StoreUint32", "internal/bytealg.Compare", "internal/bytealg.abigen_runtime_cmpstring", "slices.overlaps[tattler/api.Hint]"], unfollowed := true, recurses := true, apart := false }
def LocalNewSaid : Prop := localNewRow.holds Tryz.pinned (OpenSpec.ofChange localNewSpec)

/-- ITS FALSE NEIGHBOUR: 'it returns false'. Refute it at one input. -/
def localNewWrong : ChangeSpec := { name := "localNew", fn := fun _ => fun
  | [d] => { results := [.lit (.bool false)], args := [d] }
  | _ => none }
def LocalNewWrongFalsely : Prop := localNewRow.holds Tryz.pinned (OpenSpec.ofChange localNewWrong)

/-- 'tattlerlaw12.LocalSmall': WHATEVER THE INPUT: true; the input reads as it did. -/
def localSmallSpec : ChangeSpec := { name := "localSmall", fn := fun _ => fun
  | [d1, d2] => { results := [.lit (.bool true)], args := [d1, d2] }
  | _ => none }
def localSmallRow : OpenClaim := { program := "ythjbnpaghiojlaagreat", sum := "2c123a95a127659bef8d55b61ecf6680ad6d5d6373ec98542e16c3f93994b937", func := "tattler/tattlerlaw12.LocalSmall", spec := "localSmall", inPlace := ["sync/atomic.StoreInt64", "sync/atomic.LoadUint32", "(*internal/sync.Mutex).Lock", "internal/race.Disable", "sync/atomic.CompareAndSwapInt32", "internal/race.Enable", "internal/race.Acquire", "(*internal/sync.Mutex).lockSlow", "internal/sync.runtime_canSpin", "internal/sync.runtime_doSpin", "internal/sync.throw", "internal/sync.runtime_nanotime", "internal/sync.runtime_SemacquireMutex", "sync/atomic.AddInt32", "(*internal/sync.Mutex).Unlock", "internal/race.ReleaseMerge", "(*internal/sync.Mutex).unlockSlow", "internal/sync.fatal", "internal/sync.runtime_Semrelease", "sync/atomic.StoreUint32", "internal/bytealg.Compare", "internal/bytealg.abigen_runtime_cmpstring", "slices.overlaps[tattler/api.Hint]"], unfollowed := true, recurses := true, apart := false }
def LocalSmallSaid : Prop := localSmallRow.holds Tryz.pinned (OpenSpec.ofChange localSmallSpec)

/-- ITS FALSE NEIGHBOUR: 'it returns false'. Refute it at one input. -/
def localSmallWrong : ChangeSpec := { name := "localSmall", fn := fun _ => fun
  | [d1, d2] => { results := [.lit (.bool false)], args := [d1, d2] }
  | _ => none }
def LocalSmallWrongFalsely : Prop := localSmallRow.holds Tryz.pinned (OpenSpec.ofChange localSmallWrong)

/- THE SECOND FORM. 'bulk': how many values and letters a reading holds, each counted each time it is reached (what is shared counts as often as it is met; a slice's spare places count too). A statement '..UptoSaid' is the law's where the arguments, and the package variables that the reading takes, are together of bulk at most 1048576: NARROWER than '..Said'. Prove '..Said' where nothing that the law and all that it calls make is longer than what came in: it says more and counts as full. Else prove '..UptoSaid'. A law counts once. -/
mutual
def uptoBulk {H : Type} : DataW H → Nat
  | .lit (.string bytes) => bytes.length + 1
  | .lit _ => 1
  | .nil => 1
  | .ptr d => uptoBulk d + 1
  | .slice elems spare => uptoBulkAll elems + uptoBulkAll spare + 1
  | .agg parts => uptoBulkAll parts + 1
  | .iface _ d => uptoBulk d + 1
  | .map entries => uptoBulkEntries entries + 1
  | .held _ => 1
def uptoBulkAll {H : Type} : List (DataW H) → Nat
  | [] => 0
  | d :: r => uptoBulk d + uptoBulkAll r
def uptoBulkEntries {H : Type} : List (Lit × DataW H) → Nat
  | [] => 0
  | x :: r => uptoBulkEntry x + uptoBulkEntries r
def uptoBulkEntry {H : Type} : Lit × DataW H → Nat
  | (.string bytes, d) => bytes.length + uptoBulk d + 1
  | (_, d) => uptoBulk d + 1
 end
def uptoSmall : (H : Type) → List (DataW H) → Bool := fun _ ds => decide (uptoBulkAll ds ≤ 1048576)
def OpenSpec.upto (s : _root_.Go.ChangeSpec) : _root_.Go.OpenSpec := { _root_.Go.OpenSpec.ofChange s with cond := some uptoSmall }

/-- 'tattlerlaw12.LocalPlays', WHERE WHAT IT READS IS OF BULK AT MOST 1048576: true; the input reads as it did. -/
def localPlaysUptoRow : OpenClaim := { program := "ythjbnpaghiojlaagreat", sum := "2c123a95a127659bef8d55b61ecf6680ad6d5d6373ec98542e16c3f93994b937", func := "tattler/tattlerlaw12.LocalPlays", spec := "localPlays", inPlace := ["sync/atomic.StoreInt64", "sync/atomic.LoadUint32", "(*internal/sync.Mutex).Lock", "internal/race.Disable", "sync/atomic.CompareAndSwapInt32", "internal/race.Enable", "internal/race.Acquire", "(*internal/sync.Mutex).lockSlow", "internal/sync.runtime_canSpin", "internal/sync.runtime_doSpin", "internal/sync.throw", "internal/sync.runtime_nanotime", "internal/sync.runtime_SemacquireMutex", "sync/atomic.AddInt32", "(*internal/sync.Mutex).Unlock", "internal/race.ReleaseMerge", "(*internal/sync.Mutex).unlockSlow", "internal/sync.fatal", "internal/sync.runtime_Semrelease", "sync/atomic.StoreUint32", "internal/bytealg.Compare", "internal/bytealg.abigen_runtime_cmpstring", "slices.overlaps[tattler/api.Hint]"], unfollowed := true, recurses := true, apart := false, narrowed := true }
def LocalPlaysUptoSaid : Prop := localPlaysUptoRow.holds Tryz.pinned (OpenSpec.upto localPlaysSpec)

/-- 'tattlerlaw12.LocalOpens', WHERE WHAT IT READS IS OF BULK AT MOST 1048576: true; the input reads as it did. -/
def localOpensUptoRow : OpenClaim := { program := "ythjbnpaghiojlaagreat", sum := "2c123a95a127659bef8d55b61ecf6680ad6d5d6373ec98542e16c3f93994b937", func := "tattler/tattlerlaw12.LocalOpens", spec := "localOpens", inPlace := ["sync/atomic.StoreInt64", "sync/atomic.LoadUint32", "(*internal/sync.Mutex).Lock", "internal/race.Disable", "sync/atomic.CompareAndSwapInt32", "internal/race.Enable", "internal/race.Acquire", "(*internal/sync.Mutex).lockSlow", "internal/sync.runtime_canSpin", "internal/sync.runtime_doSpin", "internal/sync.throw", "internal/sync.runtime_nanotime", "internal/sync.runtime_SemacquireMutex", "sync/atomic.AddInt32", "(*internal/sync.Mutex).Unlock", "internal/race.ReleaseMerge", "(*internal/sync.Mutex).unlockSlow", "internal/sync.fatal", "internal/sync.runtime_Semrelease", "sync/atomic.StoreUint32", "internal/bytealg.Compare", "internal/bytealg.abigen_runtime_cmpstring", "slices.overlaps[tattler/api.Hint]"], unfollowed := true, recurses := true, apart := false, narrowed := true }
def LocalOpensUptoSaid : Prop := localOpensUptoRow.holds Tryz.pinned (OpenSpec.upto localOpensSpec)

/-- 'tattlerlaw12.LocalNil', WHERE WHAT IT READS IS OF BULK AT MOST 1048576: true; the input reads as it did. -/
def localNilUptoRow : OpenClaim := { program := "ythjbnpaghiojlaagreat", sum := "2c123a95a127659bef8d55b61ecf6680ad6d5d6373ec98542e16c3f93994b937", func := "tattler/tattlerlaw12.LocalNil", spec := "localNil", inPlace := ["internal/bytealg.Compare", "sync/atomic.StoreInt64", "sync/atomic.LoadUint32", "(*internal/sync.Mutex).Lock", "internal/race.Disable", "sync/atomic.CompareAndSwapInt32", "internal/race.Enable", "internal/race.Acquire", "(*internal/sync.Mutex).lockSlow", "internal/sync.runtime_canSpin", "internal/sync.runtime_doSpin", "internal/sync.throw", "internal/sync.runtime_nanotime", "internal/sync.runtime_SemacquireMutex", "sync/atomic.AddInt32", "(*internal/sync.Mutex).Unlock", "internal/race.ReleaseMerge", "(*internal/sync.Mutex).unlockSlow", "internal/sync.fatal", "internal/sync.runtime_Semrelease", "sync/atomic.StoreUint32", "internal/bytealg.abigen_runtime_cmpstring", "slices.overlaps[tattler/api.Hint]"], unfollowed := true, recurses := true, apart := false, narrowed := true }
def LocalNilUptoSaid : Prop := localNilUptoRow.holds Tryz.pinned (OpenSpec.upto localNilSpec)

/-- 'tattlerlaw12.LocalLasts', WHERE WHAT IT READS IS OF BULK AT MOST 1048576: true; the input reads as it did. -/
def localLastsUptoRow : OpenClaim := { program := "ythjbnpaghiojlaagreat", sum := "2c123a95a127659bef8d55b61ecf6680ad6d5d6373ec98542e16c3f93994b937", func := "tattler/tattlerlaw12.LocalLasts", spec := "localLasts", inPlace := ["sync/atomic.StoreInt64", "sync/atomic.LoadUint32", "(*internal/sync.Mutex).Lock", "internal/race.Disable", "sync/atomic.CompareAndSwapInt32", "internal/race.Enable", "internal/race.Acquire", "(*internal/sync.Mutex).lockSlow", "internal/sync.runtime_canSpin", "internal/sync.runtime_doSpin", "internal/sync.throw", "internal/sync.runtime_nanotime", "internal/sync.runtime_SemacquireMutex", "sync/atomic.AddInt32", "(*internal/sync.Mutex).Unlock", "internal/race.ReleaseMerge", "(*internal/sync.Mutex).unlockSlow", "internal/sync.fatal", "internal/sync.runtime_Semrelease", "sync/atomic.StoreUint32", "internal/bytealg.Compare", "internal/bytealg.abigen_runtime_cmpstring", "slices.overlaps[tattler/api.Hint]"], unfollowed := true, recurses := true, apart := false, narrowed := true }
def LocalLastsUptoSaid : Prop := localLastsUptoRow.holds Tryz.pinned (OpenSpec.upto localLastsSpec)

/-- 'tattlerlaw12.LocalNew', WHERE WHAT IT READS IS OF BULK AT MOST 1048576: true; the input reads as it did. -/
def localNewUptoRow : OpenClaim := { program := "ythjbnpaghiojlaagreat", sum := "2c123a95a127659bef8d55b61ecf6680ad6d5d6373ec98542e16c3f93994b937", func := "tattler/tattlerlaw12.LocalNew", spec := "localNew", inPlace := ["sync/atomic.StoreInt64", "sync/atomic.LoadUint32", "(*internal/sync.Mutex).Lock", "internal/race.Disable", "sync/atomic.CompareAndSwapInt32", "internal/race.Enable", "internal/race.Acquire", "(*internal/sync.Mutex).lockSlow", "internal/sync.runtime_canSpin", "internal/sync.runtime_doSpin", "internal/sync.throw", "internal/sync.runtime_nanotime", "internal/sync.runtime_SemacquireMutex", "sync/atomic.AddInt32", "(*internal/sync.Mutex).Unlock", "internal/race.ReleaseMerge", "(*internal/sync.Mutex).unlockSlow", "internal/sync.fatal", "internal/sync.runtime_Semrelease", "sync/atomic.StoreUint32", "internal/bytealg.Compare", "internal/bytealg.abigen_runtime_cmpstring", "slices.overlaps[tattler/api.Hint]"], unfollowed := true, recurses := true, apart := false, narrowed := true }
def LocalNewUptoSaid : Prop := localNewUptoRow.holds Tryz.pinned (OpenSpec.upto localNewSpec)

/-- 'tattlerlaw12.LocalSmall', WHERE WHAT IT READS IS OF BULK AT MOST 1048576: true; the input reads as it did. -/
def localSmallUptoRow : OpenClaim := { program := "ythjbnpaghiojlaagreat", sum := "2c123a95a127659bef8d55b61ecf6680ad6d5d6373ec98542e16c3f93994b937", func := "tattler/tattlerlaw12.LocalSmall", spec := "localSmall", inPlace := ["sync/atomic.StoreInt64", "sync/atomic.LoadUint32", "(*internal/sync.Mutex).Lock", "internal/race.Disable", "sync/atomic.CompareAndSwapInt32", "internal/race.Enable", "internal/race.Acquire", "(*internal/sync.Mutex).lockSlow", "internal/sync.runtime_canSpin", "internal/sync.runtime_doSpin", "internal/sync.throw", "internal/sync.runtime_nanotime", "internal/sync.runtime_SemacquireMutex", "sync/atomic.AddInt32", "(*internal/sync.Mutex).Unlock", "internal/race.ReleaseMerge", "(*internal/sync.Mutex).unlockSlow", "internal/sync.fatal", "internal/sync.runtime_Semrelease", "sync/atomic.StoreUint32", "internal/bytealg.Compare", "internal/bytealg.abigen_runtime_cmpstring", "slices.overlaps[tattler/api.Hint]"], unfollowed := true, recurses := true, apart := false, narrowed := true }
def LocalSmallUptoSaid : Prop := localSmallUptoRow.holds Tryz.pinned (OpenSpec.upto localSmallSpec)

end Rows
end Go.Proofs.YthjbnpaghiojlaaGreat
