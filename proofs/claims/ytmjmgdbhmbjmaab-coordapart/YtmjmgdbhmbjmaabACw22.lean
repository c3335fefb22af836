/- Items of several texts. -/
import Derived.Test.YtmjmgdbhmbjmaabABew022
import Derived.Test.YtmjmgdbhmbjmaabABew122
import Derived.Test.YtmjmgdbhmbjmaabABer022
import Derived.Test.YtmjmgdbhmbjmaabABer122
namespace Go.Proofs.Ytmjmgdbhmbjmaab
set_option maxRecDepth 100000
open Go.RowKit
theorem begin_any {D Z : Nat → Prop} {p : Nat} {x : CM} {w : World} (h : CST D Z p x w) (self need : Int) (read : Bool) (key : ByteArray) (s : SV) (hs : SOk Z w s) (hl0 : x.last < 1000000) : Calls Try.prog 18 #[.pointer (some ⟨p, 0, none⟩), .int .i64 self, .int .i64 need, .bool read, .agg #[.string key, .int .i64 (s.f 0), .int .i64 (s.f 1), .int .i64 (s.f 2), .int .i64 (s.f 3), .int .i64 (s.f 4), .int .i64 (s.f 5), .int .i64 (s.f 6), .int .i64 (s.f 7), .slice s.a s.l.length s.cap]] w fun e w' => ∃ x' D' Z', CST D' Z' p x' w' ∧ Gro D D' Z Z' w w' ∧ x'.abs = (beginA x.abs self need read key s.abs).1 ∧ e = .returned (.tuple #[.int .i64 (beginA x.abs self need read key s.abs).2.1, .int .i64 (beginA x.abs self need read key s.abs).2.2]) := by
 have h0 : 0 ≤ x.last := by have := h.cnt; omega
 have hxl : x.abs.t.length = x.t.length := by simp [CM.abs]
 by_cases hx : 64 ≤ x.t.length
 ·refine (begin_full h hx self need read key s).mono ?_
  rintro e w' ⟨rfl, o⟩
  rw [beginA_full (by rw [hxl]; exact hx)]
  exact ⟨x, D, Z, h.free o, Gro.of (o.mono (fun _ _ h => h.elim)), rfl, rfl⟩
 ·cases hm : (keyB key && mayA s.abs)
  ·refine (begin_arg h hx self need read key s hs.row hm).mono ?_
   rintro e w' ⟨rfl, o⟩
   rw [beginA_arg (by rw [hxl]; exact hx) hm]
   exact ⟨x, D, Z, h.free o, Gro.of (o.mono (fun _ _ h => h.elim)), rfl, rfl⟩
  ·cases hmb : x.mb <;> cases read
   ·exact begin_w0 h hmb hx self need key s hs hm hl0 h0
   ·exact begin_r0 h hmb hx self need key s hs hm hl0 h0
   ·exact begin_w1 h hmb hx self need key s hs hm hl0 h0
   ·exact begin_r1 h hmb hx self need key s hs hm hl0 h0
set_option maxHeartbeats 1000000 in
theorem write_any {D Z : Nat → Prop} {p : Nat} {x : CM} {w : World} (h : CST D Z p x w) (self need : Int) (key : ByteArray) (s : SV) (hs : SOk Z w s) (hl0 : x.last < 1000000) : Calls Try.prog 12 #[.pointer (some ⟨p, 0, none⟩), .int .i64 self, .int .i64 need, .string key, (.agg #[.int .i64 (s.f 0), .int .i64 (s.f 1), .int .i64 (s.f 2), .int .i64 (s.f 3), .int .i64 (s.f 4), .int .i64 (s.f 5), .int .i64 (s.f 6), .int .i64 (s.f 7), .slice s.a s.l.length s.cap])] w fun e w' => ∃ x' D' Z', CST D' Z' p x' w' ∧ Gro D D' Z Z' w w' ∧ x'.abs = (beginA x.abs self need false key s.abs).1 ∧ e = .returned (.tuple #[.int .i64 (beginA x.abs self need false key s.abs).2.1, .int .i64 (beginA x.abs self need false key s.abs).2.2]) := by
 have O : Off (fun _ => False) w (w.alloc (.cells #[.int .i64 (s.f 0), .int .i64 (s.f 1), .int .i64 (s.f 2), .int .i64 (s.f 3), .int .i64 (s.f 4), .int .i64 (s.f 5), .int .i64 (s.f 6), .int .i64 (s.f 7), .slice s.a s.l.length s.cap] 30)) := (Off.refl _ w).alloc _
 have HB : Hid _ := begin_any (h.free O) self need false key s (hs.free O) hl0
 have HO : Hid _ := O
 obtain ⟨x0, x1, x2, x3, x4, x5, x6, x7, x8⟩ := cel9 (Cel.new w 30 #[.int .i64 (s.f 0), .int .i64 (s.f 1), .int .i64 (s.f 2), .int .i64 (s.f 3), .int .i64 (s.f 4), .int .i64 (s.f 5), .int .i64 (s.f 6), .int .i64 (s.f 7), .slice s.a s.l.length s.cap])
 clear h hs O
 go_enter Try.func12, Try.ntmps12
 go_wp2_with fail
 refine Calls.mono HB.out ?_
 generalize hR : beginA x.abs self need false key s.abs = R
 have HR : Hid (beginA x.abs self need false key s.abs = R) := hR
 clear hR
 rintro e w1 ⟨x', D', Z', c1, g1, e1, rfl⟩
 have HC : Hid _ := c1
 have HG : Hid _ := g1
 have HE : Hid _ := e1
 clear c1 g1 e1 x0 x1 x2 x3 x4 x5 x6 x7 x8 HB
 go_wp2_with fail
 go_ret2
 have g := HG.out
 exact ⟨x', D', Z', HC.out, ⟨(HO.out.mono (fun _ _ h => h.elim)).trans g.off (fun _ _ h => h), fun c hc => (g.new c hc).imp (fun z => z) (fun e => Nat.le_trans HO.out.size e), fun c hc => (g.zd c hc).imp (fun z => z) (fun e => Nat.le_trans HO.out.size e), g.zz⟩, by rw [HR.out]; exact HE.out, by rw [HR.out]; rfl⟩
set_option maxHeartbeats 1000000 in
theorem read_any {D Z : Nat → Prop} {p : Nat} {x : CM} {w : World} (h : CST D Z p x w) (self need : Int) (key : ByteArray) (s : SV) (hs : SOk Z w s) (hl0 : x.last < 1000000) : Calls Try.prog 7 #[.pointer (some ⟨p, 0, none⟩), .int .i64 self, .int .i64 need, .string key, (.agg #[.int .i64 (s.f 0), .int .i64 (s.f 1), .int .i64 (s.f 2), .int .i64 (s.f 3), .int .i64 (s.f 4), .int .i64 (s.f 5), .int .i64 (s.f 6), .int .i64 (s.f 7), .slice s.a s.l.length s.cap])] w fun e w' => ∃ x' D' Z', CST D' Z' p x' w' ∧ Gro D D' Z Z' w w' ∧ x'.abs = (beginA x.abs self need true key s.abs).1 ∧ e = .returned (.tuple #[.int .i64 (beginA x.abs self need true key s.abs).2.1, .int .i64 (beginA x.abs self need true key s.abs).2.2]) := by
 have O : Off (fun _ => False) w (w.alloc (.cells #[.int .i64 (s.f 0), .int .i64 (s.f 1), .int .i64 (s.f 2), .int .i64 (s.f 3), .int .i64 (s.f 4), .int .i64 (s.f 5), .int .i64 (s.f 6), .int .i64 (s.f 7), .slice s.a s.l.length s.cap] 30)) := (Off.refl _ w).alloc _
 have HB : Hid _ := begin_any (h.free O) self need true key s (hs.free O) hl0
 have HO : Hid _ := O
 obtain ⟨x0, x1, x2, x3, x4, x5, x6, x7, x8⟩ := cel9 (Cel.new w 30 #[.int .i64 (s.f 0), .int .i64 (s.f 1), .int .i64 (s.f 2), .int .i64 (s.f 3), .int .i64 (s.f 4), .int .i64 (s.f 5), .int .i64 (s.f 6), .int .i64 (s.f 7), .slice s.a s.l.length s.cap])
 clear h hs O
 go_enter Try.func7, Try.ntmps7
 go_wp2_with fail
 refine Calls.mono HB.out ?_
 generalize hR : beginA x.abs self need true key s.abs = R
 have HR : Hid (beginA x.abs self need true key s.abs = R) := hR
 clear hR
 rintro e w1 ⟨x', D', Z', c1, g1, e1, rfl⟩
 have HC : Hid _ := c1
 have HG : Hid _ := g1
 have HE : Hid _ := e1
 clear c1 g1 e1 x0 x1 x2 x3 x4 x5 x6 x7 x8 HB
 go_wp2_with fail
 go_ret2
 have g := HG.out
 exact ⟨x', D', Z', HC.out, ⟨(HO.out.mono (fun _ _ h => h.elim)).trans g.off (fun _ _ h => h), fun c hc => (g.new c hc).imp (fun z => z) (fun e => Nat.le_trans HO.out.size e), fun c hc => (g.zd c hc).imp (fun z => z) (fun e => Nat.le_trans HO.out.size e), g.zz⟩, by rw [HR.out]; exact HE.out, by rw [HR.out]; rfl⟩
end Go.Proofs.Ytmjmgdbhmbjmaab
