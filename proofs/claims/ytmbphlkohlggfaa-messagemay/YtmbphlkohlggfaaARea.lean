/- Items of several texts. -/
import Derived.Test.YtmbphlkohlggfaaASam
namespace Go.Proofs.Ytmbphlkohlggfaa
open Go.RowKit
def vcl (v : V) : List Value := [.int .i64 v.node, .int .i64 v.num, .slice v.ad v.data.length v.cap, .bool v.dead]
theorem vcl_len (v : V) : (vcl v).length = 4 := rfl
theorem vcl_one (v : V) : ∀ u ∈ vcl v, u.oneCell' = true := by simp [vcl, Value.oneCell']
theorem vcl_flat (l : List V) : l.flatMap vcl = vcs l := by
 induction l with
 | nil => rfl
 | cons v l ih => simp [vcs, vcl, ih]
theorem OwnG.ownV {w : World} {a : Option Addr} {cap : Nat} {l : List V} (h : OwnG 44 4 vcl w a cap l) : OwnV w a cap l := ⟨by have := h.row; rwa [vcl_flat] at this⟩
end Go.Proofs.Ytmbphlkohlggfaa
