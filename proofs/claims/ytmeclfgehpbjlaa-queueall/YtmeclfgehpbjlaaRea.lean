/- The contracts of slices.IndexFunc and ContainsFunc of isLive, copyAll, Reap. -/
import Derived.Test.YtmeclfgehpbjlaaLeq5
namespace Go.Proofs.Ytmeclfgehpbjlaa
open Go.RowKit

def anyV (l : List V) : Bool := l.any fun v => !v.dead
def anyA (l : List A) : Bool := l.any fun x => !x.dead
theorem any_cont (l : List V) : anyA (cont l) = anyV l := by simp [anyA, anyV, cont, List.any_map, Function.comp_def, V.abs]
def vcl (v : V) : List Value := [.int .i64 v.node, .int .i64 v.num, .slice v.ad v.data.length v.cap, .bool v.dead]
theorem vcl_len (v : V) : (vcl v).length = 4 := rfl
theorem vcl_one (v : V) : ∀ u ∈ vcl v, u.oneCell' = true := by simp [vcl, Value.oneCell']
theorem vcl_flat (l : List V) : l.flatMap vcl = vcs l := by
  induction l with
  | nil => rfl
  | cons v l ih => simp [vcs, vcl, ih]
theorem OwnG.ownV {w : World} {a : Option Addr} {cap : Nat} {l : List V} (h : OwnG 120 4 vcl w a cap l) : OwnV w a cap l := ⟨by have := h.row; rwa [vcl_flat] at this⟩
def reapV (f : Nat → Int) (l : List A) : Nat → Int := if mayS f l = true then f else zer
def reapL (f : Nat → Int) (l : List A) : List A := if mayS f l = true ∧ anyA l = true then l else []
end Go.Proofs.Ytmeclfgehpbjlaa
