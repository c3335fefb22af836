/- Items of several texts. -/
import Derived.Test.YtmbphlkohlggfaaBZe20
import Derived.Test.YtmbphlkohlggfaaBLg20
namespace Go.Proofs.Ytmbphlkohlggfaa
set_option maxRecDepth 100000
open Go.RowKit
set_option maxHeartbeats 2000000 in
theorem encodes_walk (m : Mg) (es : List E) (gs : List G) (ms : List (Int × Int)) (w : World) (h : MsgAt w m es gs ms) : Calls Try.prog 4 #[(.agg #[.int .i64 m.k, .int .i64 m.fr, .int .i64 m.tn, .int .i64 m.op, .int .i64 m.fo, .string m.key, .int .i64 m.bk, .slice m.ea m.el m.ec, .slice m.da m.dl m.dc, .slice m.ma m.ml m.mc])] w fun e w' => e = .returned (.bool true) ∧ Off (fun _ => False) w w' := by
 have C0 := Cel.new w 26 #[.int .i64 m.k, .int .i64 m.fr, .int .i64 m.tn, .int .i64 m.op, .int .i64 m.fo, .string m.key, .int .i64 m.bk, .slice m.ea m.el m.ec, .slice m.da m.dl m.dc, .slice m.ma m.ml m.mc]
 have O0 : Off (fun _ => False) w (w.alloc (.cells #[.int .i64 m.k, .int .i64 m.fr, .int .i64 m.tn, .int .i64 m.op, .int .i64 m.fo, .string m.key, .int .i64 m.bk, .slice m.ea m.el m.ec, .slice m.da m.dl m.dc, .slice m.ma m.ml m.mc] 26)) := (Off.refl _ w).alloc _
 have HX : Hid _ := h
 clear h
 go_enter Try.func4, Try.ntmps4
 go_upto_region 1 with fail
 generalize hv : w.alloc (.cells #[.int .i64 m.k, .int .i64 m.fr, .int .i64 m.tn, .int .i64 m.op, .int .i64 m.fo, .string m.key, .int .i64 m.bk, .slice m.ea m.el m.ec, .slice m.da m.dl m.dc, .slice m.ma m.ml m.mc] 26) = V at C0 O0 ⊢
 generalize w.heap.size = q1 at C0 ⊢
 obtain ⟨x0, x1, x2, x3, x4, x5, x6, x7, x8, x9⟩ := celw10 C0
 have HB0 : Hid _ := C0
 have HO0 : Hid _ := O0
 clear hv C0 O0
 go_wp2_with fail
 refine (light_any m es gs ms _ (HX.out.off HO0.out)).mono ?_
 rintro e w1 ⟨⟨b, rfl, hb⟩, o1⟩
 clear x0 x1 x2 x3 x4 x5 x6 x7 x8 x9 hb
 have HO1 : Hid _ := HO0.out.trans o1 (fun _ _ h => h)
 have HB1 : Hid _ := HB0.out.off o1 (fun h => h)
 clear o1 HO0 HB0
 cases b with
 | false =>
  go_wp2_with fail
  refine (awake_any _).mono ?_
  rintro e w2 ⟨rfl, o2⟩
  go_wp2_with fail
  go_ret
  exact ⟨rfl, HO1.out.trans o2 (fun _ _ h => h)⟩
 | true =>
  obtain ⟨x0, x1, x2, x3, x4, x5, x6, x7, x8, x9⟩ := celw10 HB1.out
  go_wp2_with fail
  refine (xencode_any m es gs ms _ (HX.out.off HO1.out)).mono ?_
  rintro e w2 ⟨t1, c1, bs, er, rfl, hr1, own1, -, o2⟩
  clear x0 x1 x2 x3 x4 x5 x6 x7 x8 x9
  have HR1 : Hid _ := hr1
  have HW1 : Hid _ := own1
  have HO2 : Hid _ := HO1.out.trans o2 (fun _ _ h => h)
  obtain ⟨x0, x1, x2, x3, x4, x5, x6, x7, x8, x9⟩ := celw10 (HB1.out.off o2 (fun h => h))
  clear hr1 own1 o2
  go_wp2_with fail
  refine (zencode_any m es gs ms _ (HX.out.off HO2.out)).mono ?_
  rintro e w3 ⟨t2, c2, bs2, er2, rfl, hr2, own2, -, o3⟩
  clear x0 x1 x2 x3 x4 x5 x6 x7 x8 x9
  obtain ⟨rfl, rfl⟩ := HR1.out.uniq hr2
  have x1 := conv_src (HW1.out.off o3 (fun _ _ _ h => h)).src
  have x2 := conv_src own2.src
  have HO3 : Hid _ := HO2.out.trans o3 (fun _ _ h => h)
  clear hr2 own2 o3 HR1 HW1 HO1 HO2
  go_wp2_with fail
  refine (awake_any _).mono ?_
  rintro e w4 ⟨rfl, o4⟩
  go_wp2_with fail
  go_ret
  exact ⟨rfl, HO3.out.trans o4 (fun _ _ h => h)⟩
end Go.Proofs.Ytmbphlkohlggfaa
