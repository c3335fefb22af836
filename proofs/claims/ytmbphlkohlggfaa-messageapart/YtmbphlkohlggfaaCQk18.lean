/- Items of several texts. -/
import Derived.Test.YtmbphlkohlggfaaCQo18
namespace Go.Proofs.Ytmbphlkohlggfaa
set_option maxRecDepth 100000
open Go.RowKit
structure NF where
 k : Int
 fr : Int
 tn : Int
 op : Int
 fo : Int
 key : ByteArray
 bk : Int
 es : List (ByteArray × List Int × List A)
 gs : List (ByteArray × List Int × List (Int × Int))
 ms : List (Int × Int)
def nfP (m : Mg) (es : List E) (gs : List G) (ms : List (Int × Int)) : NF := ⟨m.k, m.fr, m.tn, m.op, m.fo, m.key, m.bk, es.map nE, gs.map nG, ms⟩
def nfM (m : Mg) (es : List E) (gs : List G) (ms : List (Int × Int)) : NF := nfP (plM (msk m.k) m) (cond (msk m.k).es es []) (cond (msk m.k).gs gs []) (cond (msk m.k).ms ms [])
theorem nfP_iff {X Y : Mg} {e1 e2 : List E} {g1 g2 : List G} {m1 m2 : List (Int × Int)} : nfP X e1 g1 m1 = nfP Y e2 g2 m2 ↔ X.k = Y.k ∧ X.fr = Y.fr ∧ X.tn = Y.tn ∧ X.op = Y.op ∧ X.fo = Y.fo ∧ X.key = Y.key ∧ X.bk = Y.bk ∧ e1.map nE = e2.map nE ∧ g1.map nG = g2.map nG ∧ m1 = m2 := by
 unfold nfP
 simp only [NF.mk.injEq]
end Go.Proofs.Ytmbphlkohlggfaa
