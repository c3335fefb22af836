/- Items of several texts. -/
import Derived.Test.YtmbphlkohlggfaaGreatAArg20
namespace Go.Proofs.YtmbphlkohlggfaaGreat
set_option maxRecDepth 100000
open Go.ChangeShapes Go.WideShapes Go.ChangeAt Go.RowKit
theorem argM {H : Type} {enc : TypeId × Value → H} {W : World} {base fuel : Nat} {v : Value} {d : DataW H} {pl : List MemPlace}
  (hv : Value.okWide Tryz.prog W .any base 26 v) (hf : DataW.trod enc Tryz.prog W 0 (fun _ => true) true fuel 26 v.cells.toList = some (d, pl)) (hz : ∀ n ∈ d.weights Tryz.prog 26, n ≤ reachBytes) :
  ∃ (m : Mg) (es : List E) (gs : List G) (ms : List (Int × Int)), v = (.agg #[.int .i64 m.k, .int .i64 m.fr, .int .i64 m.tn, .int .i64 m.op, .int .i64 m.fo, .string m.key, .int .i64 m.bk, .slice m.ea m.el m.ec, .slice m.da m.dl m.dc, .slice m.ma m.ml m.mc]) ∧ MsgAt W m es gs ms ∧ MsgRc es gs := by
 obtain ⟨cs, rfl, hs, -⟩ : ∃ cs, v = .agg cs ∧ cs.size = Tryz.prog.cellsOf 26 ∧ Row.okWide Tryz.prog W .any base 26 cs := by
  simpa [Value.okWide, Tryz.underlying26] using hv
 obtain ⟨m, es, gs, ms, e, h1, h2⟩ := msg_cells hf hz
 refine ⟨m, es, gs, ms, ?_, h1, h2⟩
 have e : cs.toList = (#[.int .i64 m.k, .int .i64 m.fr, .int .i64 m.tn, .int .i64 m.op, .int .i64 m.fo, .string m.key, .int .i64 m.bk, .slice m.ea m.el m.ec, .slice m.da m.dl m.dc, .slice m.ma m.ml m.mc] : Array Value).toList := e
 have : cs = #[.int .i64 m.k, .int .i64 m.fr, .int .i64 m.tn, .int .i64 m.op, .int .i64 m.fo, .string m.key, .int .i64 m.bk, .slice m.ea m.el m.ec, .slice m.da m.dl m.dc, .slice m.ma m.ml m.mc] := Array.ext' e
 rw [this]
end Go.Proofs.YtmbphlkohlggfaaGreat
