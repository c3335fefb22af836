/- A set that there isn't: HintsNil's walk. -/
import Derived.Test.YtfhacfedklaaiaaLaw11
namespace Go.Proofs.Ytfhacfedklaaiaa
open Go.RowKit

set_option maxRecDepth 100000 in
theorem hput_nil (h : H) (w : World) : Calls Try.prog 12 #[.pointer none, (.agg #[.int .i64 h.node, .string h.e.key, .int .i64 (h.e.f 0), .int .i64 (h.e.f 1), .int .i64 (h.e.f 2), .int .i64 (h.e.f 3), .int .i64 (h.e.f 4), .int .i64 (h.e.f 5), .int .i64 (h.e.f 6), .int .i64 (h.e.f 7), .slice h.e.a h.e.l.length h.e.cap])] w fun e w' => e = .returned (.tuple #[.bool false, .int .i64 1]) ∧ Off (fun _ => False) w w' := by
  have hq := eql_set
  have hnot := not_any
  have O : Off (fun _ => False) w (w.alloc (.cells #[.int .i64 h.node, .string h.e.key, .int .i64 (h.e.f 0), .int .i64 (h.e.f 1), .int .i64 (h.e.f 2), .int .i64 (h.e.f 3), .int .i64 (h.e.f 4), .int .i64 (h.e.f 5), .int .i64 (h.e.f 6), .int .i64 (h.e.f 7), .slice h.e.a h.e.l.length h.e.cap] 39)) := (Off.refl _ w).alloc _
  go_enter Try.func12, Try.ntmps12
  go_wp2_with fail
  go_ret2
  exact ⟨rfl, O⟩
set_option maxRecDepth 100000 in
theorem hdrop_nil (node : Int) (key : ByteArray) (f : Nat → Int) (s : Value) (w : World) : Calls Try.prog 14 #[.pointer none, .int .i64 node, .string key, .agg #[.int .i64 (f 0), .int .i64 (f 1), .int .i64 (f 2), .int .i64 (f 3), .int .i64 (f 4), .int .i64 (f 5), .int .i64 (f 6), .int .i64 (f 7), s]] w fun e w' => e = .returned (.bool false) ∧ Off (fun _ => False) w w' := by
  have hq := eql_set
  have O : Off (fun _ => False) w (w.alloc (.cells #[.int .i64 (f 0), .int .i64 (f 1), .int .i64 (f 2), .int .i64 (f 3), .int .i64 (f 4), .int .i64 (f 5), .int .i64 (f 6), .int .i64 (f 7), s] 35)) := (Off.refl _ w).alloc _
  go_enter Try.func14, Try.ntmps14
  go_wp2_with fail
  go_ret
  exact ⟨rfl, O⟩
theorem hlen_nil (w : World) : Calls Try.prog 19 #[.pointer none] w fun e w' => e = .returned (.int .i64 0) ∧ w' = w := by
  have hq := eql_set
  go_enter Try.func19, Try.ntmps19
  go_wp2_with fail
  go_ret
  exact ⟨rfl, rfl⟩
theorem hall_nil (w : World) : Calls Try.prog 18 #[.pointer none] w fun e w' => e = .returned (.slice none 0 0) ∧ w' = w := by
  have hq := eql_set
  go_enter Try.func18, Try.ntmps18
  go_wp2_with fail
  go_ret
  exact ⟨rfl, rfl⟩
theorem hfor_nil (n : Int) (w : World) : Calls Try.prog 21 #[.pointer none, .int .i64 n] w fun e w' => e = .returned (.slice none 0 0) ∧ w' = w := by
  have hq := eql_set
  go_enter Try.func21, Try.ntmps21
  go_wp2_with fail
  go_ret
  exact ⟨rfl, rfl⟩
set_option maxRecDepth 100000 in
theorem hfirst_nil (w : World) : Calls Try.prog 16 #[.pointer none] w fun e w' => e = .returned (.tuple #[(.agg #[.int .i64 zHt.node, .string zHt.e.key, .int .i64 (zHt.e.f 0), .int .i64 (zHt.e.f 1), .int .i64 (zHt.e.f 2), .int .i64 (zHt.e.f 3), .int .i64 (zHt.e.f 4), .int .i64 (zHt.e.f 5), .int .i64 (zHt.e.f 6), .int .i64 (zHt.e.f 7), .slice zHt.e.a zHt.e.l.length zHt.e.cap]), .bool false]) ∧ Off (fun _ => False) w w' := by
  have C := Cel.new w 39 #[.int .i64 0, .string ⟨#[]⟩, .int .i64 0, .int .i64 0, .int .i64 0, .int .i64 0, .int .i64 0, .int .i64 0, .int .i64 0, .int .i64 0, .slice none 0 0]
  have O : Off (fun _ => False) w (w.alloc (.cells #[.int .i64 0, .string ⟨#[]⟩, .int .i64 0, .int .i64 0, .int .i64 0, .int .i64 0, .int .i64 0, .int .i64 0, .int .i64 0, .int .i64 0, .slice none 0 0] 39)) := (Off.refl _ w).alloc _
  go_enter Try.func16, Try.ntmps16
  go_upto_region 1 with fail
  generalize hv : w.alloc (.cells #[.int .i64 0, .string ⟨#[]⟩, .int .i64 0, .int .i64 0, .int .i64 0, .int .i64 0, .int .i64 0, .int .i64 0, .int .i64 0, .int .i64 0, .slice none 0 0] 39) = V at C O ⊢
  obtain ⟨z0, z1, z2, z3, z4, z5, z6, z7, z8, z9, z10⟩ := cel11 C
  have fr := C.free
  have HC : Hid _ := C
  have HO : Hid _ := O
  clear hv C O
  go_wp2_with fail
  refine (hlen_nil V).mono ?_
  rintro e w' ⟨rfl, hw⟩
  rw [hw]
  clear hw w'
  go_wp2_with fail
  refine bodyPost_ret (results_hint2 (x := zHt) rfl rfl rfl (HC.out.st11 zHt)) rfl ?_
  exact ⟨rfl, HO.out.st11 (b := w.heap.size) (.inr (Nat.le_refl _)) zHt⟩
set_option maxRecDepth 100000 in
set_option maxHeartbeats 2000000 in
theorem nil_walk (h : H) (w : World) (_ : Row w h.e.a h.e.cap h.e.l) (_ : Nrm h.e.f) : Calls Try.prog 5 #[(.agg #[.int .i64 h.node, .string h.e.key, .int .i64 (h.e.f 0), .int .i64 (h.e.f 1), .int .i64 (h.e.f 2), .int .i64 (h.e.f 3), .int .i64 (h.e.f 4), .int .i64 (h.e.f 5), .int .i64 (h.e.f 6), .int .i64 (h.e.f 7), .slice h.e.a h.e.l.length h.e.cap])] w fun e w' => e = .returned (.bool true) ∧ Off (fun _ => False) w w' := by
  have hnot := not_any
  have C := Cel.new w 39 #[.int .i64 h.node, .string h.e.key, .int .i64 (h.e.f 0), .int .i64 (h.e.f 1), .int .i64 (h.e.f 2), .int .i64 (h.e.f 3), .int .i64 (h.e.f 4), .int .i64 (h.e.f 5), .int .i64 (h.e.f 6), .int .i64 (h.e.f 7), .slice h.e.a h.e.l.length h.e.cap]
  have O : Off (fun _ => False) w (w.alloc (.cells #[.int .i64 h.node, .string h.e.key, .int .i64 (h.e.f 0), .int .i64 (h.e.f 1), .int .i64 (h.e.f 2), .int .i64 (h.e.f 3), .int .i64 (h.e.f 4), .int .i64 (h.e.f 5), .int .i64 (h.e.f 6), .int .i64 (h.e.f 7), .slice h.e.a h.e.l.length h.e.cap] 39)) := (Off.refl _ w).alloc _
  go_enter Try.func5, Try.ntmps5
  go_upto_region 1 with fail
  generalize hqq : w.heap.size = q at C ⊢
  generalize hv : w.alloc (.cells #[.int .i64 h.node, .string h.e.key, .int .i64 (h.e.f 0), .int .i64 (h.e.f 1), .int .i64 (h.e.f 2), .int .i64 (h.e.f 3), .int .i64 (h.e.f 4), .int .i64 (h.e.f 5), .int .i64 (h.e.f 6), .int .i64 (h.e.f 7), .slice h.e.a h.e.l.length h.e.cap] 39) = V at C O ⊢
  obtain ⟨x0, x1, x2, x3, x4, x5, x6, x7, x8, x9, x10⟩ := cel11 C
  have HC : Hid _ := C
  have HO : Hid _ := O
  clear hv hqq C O
  go_wp2_with fail
  clear x0 x1 x2 x3 x4 x5 x6 x7 x8 x9 x10
  refine (hput_nil h V).mono ?_
  rintro e w1 ⟨rfl, o1⟩
  go_wp2_with fail
  refine (hfirst_nil w1).mono ?_
  rintro e w2 ⟨rfl, o2⟩
  have HO2 : Hid _ := (HO.out.trans o1 (fun _ _ h => h)).trans o2 (fun _ _ h => h)
  have HC2 : Hid _ := (HC.out.off o1 (fun h => h)).off o2 (fun h => h)
  clear o1 o2 HC HO
  go_upto_region 4 with fail
  have OA : Off (fun _ => False) w2 (w2.alloc (.cells #[.int .i64 zHt.node, .string zHt.e.key, .int .i64 (zHt.e.f 0), .int .i64 (zHt.e.f 1), .int .i64 (zHt.e.f 2), .int .i64 (zHt.e.f 3), .int .i64 (zHt.e.f 4), .int .i64 (zHt.e.f 5), .int .i64 (zHt.e.f 6), .int .i64 (zHt.e.f 7), .slice zHt.e.a zHt.e.l.length zHt.e.cap] 39)) := (Off.refl _ w2).alloc _
  generalize hq6 : w2.heap.size = q6
  generalize hv : w2.alloc (.cells #[.int .i64 zHt.node, .string zHt.e.key, .int .i64 (zHt.e.f 0), .int .i64 (zHt.e.f 1), .int .i64 (zHt.e.f 2), .int .i64 (zHt.e.f 3), .int .i64 (zHt.e.f 4), .int .i64 (zHt.e.f 5), .int .i64 (zHt.e.f 6), .int .i64 (zHt.e.f 7), .slice zHt.e.a zHt.e.l.length zHt.e.cap] 39) = V3 at OA ⊢
  have HO3 : Hid _ := HO2.out.trans OA (fun _ _ h => h)
  obtain ⟨x0, x1, x2, x3, x4, x5, x6, x7, x8, x9, x10⟩ := cel11 (HC2.out.off OA (fun h => h))
  have HC3 : Hid _ := HC2.out.off OA (fun h => h)
  clear OA HO2 HC2 hq6 hv
  go_wp2_with fail
  clear x0 x1 x2 x3 x4 x5 x6 x7 x8 x9 x10
  refine (hdrop_nil h.node h.e.key h.e.f (.slice h.e.a h.e.l.length h.e.cap) V3).mono ?_
  rintro e w4 ⟨rfl, o4⟩
  obtain ⟨x0, x1, x2, x3, x4, x5, x6, x7, x8, x9, x10⟩ := cel11 (HC3.out.off o4 (fun h => h))
  have HO4 : Hid _ := HO3.out.trans o4 (fun _ _ h => h)
  clear o4
  go_wp2_with fail
  refine (hfor_nil h.node w4).mono ?_
  rintro e w5 ⟨rfl, hw⟩
  rw [hw]
  clear hw w5
  go_wp2_with fail
  refine (hlen_nil w4).mono ?_
  rintro e w5 ⟨rfl, hw⟩
  rw [hw]
  clear hw w5
  go_wp2_with fail
  refine (hall_nil w4).mono ?_
  rintro e w5 ⟨rfl, hw⟩
  rw [hw]
  clear hw w5
  go_wp2_with fail
  refine (awake_any w4).mono ?_
  rintro e w5 ⟨rfl, o5⟩
  go_wp2_with fail
  go_ret
  exact ⟨rfl, HO4.out.trans o5 (fun _ _ h => h)⟩
end Go.Proofs.Ytfhacfedklaaiaa
