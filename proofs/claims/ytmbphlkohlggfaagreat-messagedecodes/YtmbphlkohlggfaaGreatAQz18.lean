/- Items of several texts. -/
import Derived.Test.YtmbphlkohlggfaaGreatAQt18
import Derived.Test.YtmbphlkohlggfaaGreatAKee
import Derived.Test.YtmbphlkohlggfaaGreatALaw10
import Derived.Test.YtmbphlkohlggfaaGreatADg0
namespace Go.Proofs.YtmbphlkohlggfaaGreat
set_option maxRecDepth 100000
open Go.RowKit
theorem Tryz.infoMb : (Tryz.prog.info? 60).map (fun i => (i.zero, i.size, i.bytes)) = some (some (.agg #[.int .i64 0, .int .i64 0]), 2, 16) := by kernel_rfl
end Go.Proofs.YtmbphlkohlggfaaGreat

namespace Go.Proofs.YtmbphlkohlggfaaGreat
set_option maxRecDepth 100000
open Go.RowKit
structure MsgAt (w : World) (m : Mg) (es : List E) (gs : List G) (ms : List (Int × Int)) : Prop where
 ens : Ens w m.ea m.ec es
 el : m.el = es.length
 dgs : Dgs w m.da m.dc gs
 dl : m.dl = gs.length
 mbs : RowD w m.ma m.mc ms
 ml : m.ml = ms.length
theorem MsgAt.off {w w' : World} {m : Mg} {es : List E} {gs : List G} {ms : List (Int × Int)} (h : MsgAt w m es gs ms) (o : Off (fun _ => False) w w') : MsgAt w' m es gs ms := ⟨h.ens.off o, h.el, h.dgs.off o, h.dl, h.mbs.off o, h.ml⟩
end Go.Proofs.YtmbphlkohlggfaaGreat
