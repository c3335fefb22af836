/- Items of several texts. -/
import Derived.Test.YtmbphlkohlggfaaCQm18
namespace Go.Proofs.Ytmbphlkohlggfaa
set_option maxRecDepth 100000
open Go.RowKit
structure Msk where
 op : Bool
 fo : Bool
 key : Bool
 bk : Bool
 es : Bool
 gs : Bool
 ms : Bool
def msk (k : Int) : Msk := if k = 1 then ⟨true, false, false, false, true, false, false⟩ else if k = 2 then ⟨true, true, true, false, true, false, false⟩ else if k = 3 then ⟨true, true, false, false, true, false, false⟩ else if k = 4 then ⟨true, false, true, false, false, false, false⟩ else if k = 5 then ⟨true, false, false, false, true, false, false⟩ else if k = 6 then ⟨false, false, false, true, false, true, false⟩ else if k = 7 then ⟨false, false, false, true, true, true, false⟩ else if k = 8 then ⟨false, false, false, false, false, false, true⟩ else if k = 9 then ⟨false, false, false, false, false, false, true⟩ else ⟨false, false, false, false, false, false, false⟩
def plM (s : Msk) (m : Mg) : Mg := ⟨m.k, m.fr, m.tn, cond s.op m.op 0, cond s.fo m.fo 0, cond s.key m.key ⟨#[]⟩, cond s.bk m.bk 0, cond s.es m.ea none, cond s.es m.el 0, cond s.es m.ec 0, cond s.gs m.da none, cond s.gs m.dl 0, cond s.gs m.dc 0, cond s.ms m.ma none, cond s.ms m.ml 0, cond s.ms m.mc 0⟩
theorem MsgAt.plain {w : World} {m : Mg} {es : List E} {gs : List G} {ms : List (Int × Int)} (h : MsgAt w m es gs ms) (s : Msk) : MsgAt w (plM s m) (cond s.es es []) (cond s.gs gs []) (cond s.ms ms []) := by
 obtain ⟨o, f, k, b, e, g, n⟩ := s
 refine ⟨?_, ?_, ?_, ?_, ?_, ?_⟩
 ·cases e
  ·exact Ens.nil w none 0 (by omega)
  ·exact h.ens
 ·cases e
  ·rfl
  ·exact h.el
 ·cases g
  ·exact Dgs.nil w none 0 (by omega)
  ·exact h.dgs
 ·cases g
  ·rfl
  ·exact h.dl
 ·cases n
  ·exact RowD.nil w none 0 (by omega)
  ·exact h.mbs
 ·cases n
  ·rfl
  ·exact h.ml
end Go.Proofs.Ytmbphlkohlggfaa
