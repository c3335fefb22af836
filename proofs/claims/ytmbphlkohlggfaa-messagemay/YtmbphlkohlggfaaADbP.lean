/- Items of several texts. -/
import Derived.Deep.Cut
import Derived.Deep.RegionHeld
import Derived.Laws.OwnMore
import Derived.Lib.SlBytesConst
import Derived.Test.YtmbphlkohlggfaaASib
import Derived.Test.YtmbphlkohlggfaaALiv
import Derived.Test.YtmbphlkohlggfaaARea
import Derived.Test.YtmbphlkohlggfaaARefA
import Derived.Test.YtmbphlkohlggfaaAGMay
import Derived.Test.YtmbphlkohlggfaaADot5
import Derived.Test.YtmbphlkohlggfaaAGSm
import Derived.Test.YtmbphlkohlggfaaADg0
import Derived.Test.YtmbphlkohlggfaaABks
import Derived.Test.YtmbphlkohlggfaaADmy
import Derived.Test.YtmbphlkohlggfaaAWFlag
import Derived.Test.YtmbphlkohlggfaaASWr
import Derived.Test.YtmbphlkohlggfaaASWe
import Derived.Test.YtmbphlkohlggfaaADwr
namespace Go.Proofs.Ytmbphlkohlggfaa
open Go.RowKit
theorem okD_cov {f : Nat → Int} : ∀ {p : Option (Int × Int)} {ds : List (Int × Int)}, okD f p ds = true → ∀ d ∈ ds, coversB f d.1 d.2 = true
 | _, [], _, d, hd => by simp at hd
 | none, x :: r, h, d, hd => by
  unfold okD at h
  simp only [Bool.and_eq_true] at h
  rcases List.mem_cons.1 hd with rfl | hd
  ·exact h.1
  ·exact okD_cov h.2 d hd
 | some _, x :: r, h, d, hd => by
  unfold okD at h
  simp only [Bool.and_eq_true] at h
  rcases List.mem_cons.1 hd with rfl | hd
  ·exact h.2.1
  ·exact okD_cov h.2.2 d hd
theorem mayD_cov {k : ByteArray} {f : Nat → Int} {ds : List (Int × Int)} (h : mayD ⟨k, f, ds⟩ = true) : ∀ d ∈ ds, coversB f d.1 d.2 = true := by
 unfold mayD at h
 have h : (keyB k && (mayB f && (decide (ds.length ≤ 16) && okD f none ds))) = true := h
 simp only [Bool.and_eq_true] at h
 exact okD_cov h.2.2.2
end Go.Proofs.Ytmbphlkohlggfaa
