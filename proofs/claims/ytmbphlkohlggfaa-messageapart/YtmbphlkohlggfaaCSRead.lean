/- Items of several texts. -/
import Derived.Lib.SlBytesConst
import Derived.Deep.Cut
import Derived.Deep.RegionWith
import Derived.Laws.OwnMore
import Derived.Test.YtmbphlkohlggfaaCCpy
import Derived.Test.YtmbphlkohlggfaaCThy2
import Derived.Test.YtmbphlkohlggfaaCWFlag
import Derived.Test.YtmbphlkohlggfaaCSWr
namespace Go.Proofs.Ytmbphlkohlggfaa
open Go.RowKit
def rdV (s : RS) : Nat → RS
 | 0 => s
 | n + 1 => (intS (rdV s n)).2
def rdF (s : RS) (j : Nat) : Int := (intS (rdV s j)).1
def readB (s : RS) : Bool := decide ((rdV s 8).2 = 0) && mayB (rdF s)
def readF (s : RS) : Nat → Int := if readB s = true then rdF s else zer
end Go.Proofs.Ytmbphlkohlggfaa

namespace Go.Proofs.Ytmbphlkohlggfaa
open Go.RowKit
def valN (s : RS) : Nat := (numS s).1
def valI (s : RS) : Int := (intS (numS s).2).1
def valG (s : RS) : Bool := (flagS (intS (numS s).2).2).1
def valT (s : RS) : List Nat := (textS 200 (flagS (intS (numS s).2).2).2).1
def valS (s : RS) : RS := (textS 200 (flagS (intS (numS s).2).2).2).2
def nodeP (n : Nat) : Int := RowKit.wrap64 (n : Int)
def rdA (nd : Nat → Int) (s : RS) : A := ⟨nd (valN s), valI s, valT s, valG s⟩
end Go.Proofs.Ytmbphlkohlggfaa

namespace Go.Proofs.Ytmbphlkohlggfaa
open Go.RowKit
def rdSt (s : RS) : Nat → RS
 | 0 => s
 | n + 1 => valS (rdSt s n)
def rdL (nd : Nat → Int) (n : Nat) (s : RS) : List A := (List.range n).map fun i => rdA nd (rdSt s i)
def srV (nd : Nat → Int) (s : RS) : List A := rdL nd (countS 16 (rdV s 8)).1 (countS 16 (rdV s 8)).2
def srS (s : RS) : RS := rdSt (countS 16 (rdV s 8)).2 (countS 16 (rdV s 8)).1
def srB (nd : Nat → Int) (s : RS) : Bool := readB s && decide ((srS s).2 = 0) && mayS (readF s) (srV nd s)
def srF (nd : Nat → Int) (s : RS) : Nat → Int := if srB nd s = true then readF s else zer
def srL (nd : Nat → Int) (s : RS) : List A := if srB nd s = true then srV nd s else []
theorem sr_yes {nd : Nat → Int} {s : RS} (h1 : readB s = true) (h2 : decide ((srS s).2 = 0) = true) (h3 : mayS (readF s) (srV nd s) = true) : srB nd s = true ∧ readF s = srF nd s ∧ srV nd s = srL nd s := by
 have e : srB nd s = true := by simp [srB, h1, h2, h3]
 simp [srF, srL, e]
end Go.Proofs.Ytmbphlkohlggfaa
