/- Items of several texts. -/
import Derived.Test.YtmbphlkohlggfaaCGSm
import Derived.Test.YtmbphlkohlggfaaCSRead
namespace Go.Proofs.Ytmbphlkohlggfaa
open Go.RowKit
def reK (s : RS) : ByteArray := strOf (textS 32 s).1
def reT (s : RS) : RS := (textS 32 s).2
def reB (nd : Nat → Int) (s : RS) : Bool := srB nd (reT s) && (keyB (reK s) && mayS (srF nd (reT s)) (srL nd (reT s)))
def reKey (nd : Nat → Int) (s : RS) : ByteArray := if reB nd s = true then reK s else ⟨#[]⟩
def reF (nd : Nat → Int) (s : RS) : Nat → Int := if reB nd s = true then srF nd (reT s) else zer
def reL (nd : Nat → Int) (s : RS) : List A := if reB nd s = true then srL nd (reT s) else []
def reS (s : RS) : RS := srS (reT s)
theorem re_yes {nd : Nat → Int} {s : RS} (e : reB nd s = true) : reK s = reKey nd s ∧ srF nd (reT s) = reF nd s ∧ srL nd (reT s) = reL nd s := by simp [reKey, reF, reL, e]
end Go.Proofs.Ytmbphlkohlggfaa
