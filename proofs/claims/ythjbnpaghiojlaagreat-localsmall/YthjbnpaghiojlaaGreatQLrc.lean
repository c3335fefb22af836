/- Items of several texts. -/
import Derived.Deep.Cut
import Derived.Test.YthjbnpaghiojlaaGreatQSWe
import Derived.Test.YthjbnpaghiojlaaGreatQLcP
import Derived.Test.YthjbnpaghiojlaaGreatQHm
namespace Go.Proofs.YthjbnpaghiojlaaGreat
open Go.RowKit
theorem cel12 {b : Nat} {t : TypeId} {s0 s1 s2 s3 s4 s5 s6 s7 s8 s9 s10 s11 : Value} {w : World} (h : Cel b t #[s0, s1, s2, s3, s4, s5, s6, s7, s8, s9, s10, s11] w) : w.cell? ⟨b, 0, none⟩ = some s0 ∧ w.cell? ⟨b, 1, none⟩ = some s1 ∧ w.cell? ⟨b, 2, none⟩ = some s2 ∧ w.cell? ⟨b, 3, none⟩ = some s3 ∧ w.cell? ⟨b, 4, none⟩ = some s4 ∧ w.cell? ⟨b, 5, none⟩ = some s5 ∧ w.cell? ⟨b, 6, none⟩ = some s6 ∧ w.cell? ⟨b, 7, none⟩ = some s7 ∧ w.cell? ⟨b, 8, none⟩ = some s8 ∧ w.cell? ⟨b, 9, none⟩ = some s9 ∧ w.cell? ⟨b, 10, none⟩ = some s10 ∧ w.cell? ⟨b, 11, none⟩ = some s11 :=
 ⟨h.cell 0, h.cell 1, h.cell 2, h.cell 3, h.cell 4, h.cell 5, h.cell 6, h.cell 7, h.cell 8, h.cell 9, h.cell 10, h.cell 11⟩
theorem Cel.st12 {b : Nat} {t : TypeId} {s0 s1 s2 s3 s4 s5 s6 s7 s8 s9 s10 s11 v0 v1 v2 v3 v4 v5 v6 v7 v8 v9 v10 v11 : Value} {w : World} (h : Cel b t #[s0, s1, s2, s3, s4, s5, s6, s7, s8, s9, s10, s11] w) : Cel b t #[v0, v1, v2, v3, v4, v5, v6, v7, v8, v9, v10, v11] ((((((((((((w.setCell ⟨b, 0, none⟩ (v0)).setCell ⟨b, 1, none⟩ (v1)).setCell ⟨b, 2, none⟩ (v2)).setCell ⟨b, 3, none⟩ (v3)).setCell ⟨b, 4, none⟩ (v4)).setCell ⟨b, 5, none⟩ (v5)).setCell ⟨b, 6, none⟩ (v6)).setCell ⟨b, 7, none⟩ (v7)).setCell ⟨b, 8, none⟩ (v8)).setCell ⟨b, 9, none⟩ (v9)).setCell ⟨b, 10, none⟩ (v10)).setCell ⟨b, 11, none⟩ (v11)) := by
 replace h := h.set 0 v0
 simp only [List.setIfInBounds_toArray, List.set_cons_zero] at h
 replace h := h.set 1 v1
 simp only [lsA, lsZ, lsS] at h
 replace h := h.set 2 v2
 simp only [lsA, lsZ, lsS] at h
 replace h := h.set 3 v3
 simp only [lsA, lsZ, lsS] at h
 replace h := h.set 4 v4
 simp only [lsA, lsZ, lsS] at h
 replace h := h.set 5 v5
 simp only [lsA, lsZ, lsS] at h
 replace h := h.set 6 v6
 simp only [lsA, lsZ, lsS] at h
 replace h := h.set 7 v7
 simp only [lsA, lsZ, lsS] at h
 replace h := h.set 8 v8
 simp only [lsA, lsZ, lsS] at h
 replace h := h.set 9 v9
 simp only [lsA, lsZ, lsS] at h
 replace h := h.set 10 v10
 simp only [lsA, lsZ, lsS] at h
 replace h := h.set 11 v11
 simp only [lsA, lsZ, lsS] at h
 exact h
theorem Off.st12 {D : Nat → Prop} {a w : World} {b : Nat} {v0 v1 v2 v3 v4 v5 v6 v7 v8 v9 v10 v11 : Value} (h : Off D a w) (hb : D b ∨ a.heap.size ≤ b) : Off D a ((((((((((((w.setCell ⟨b, 0, none⟩ (v0)).setCell ⟨b, 1, none⟩ (v1)).setCell ⟨b, 2, none⟩ (v2)).setCell ⟨b, 3, none⟩ (v3)).setCell ⟨b, 4, none⟩ (v4)).setCell ⟨b, 5, none⟩ (v5)).setCell ⟨b, 6, none⟩ (v6)).setCell ⟨b, 7, none⟩ (v7)).setCell ⟨b, 8, none⟩ (v8)).setCell ⟨b, 9, none⟩ (v9)).setCell ⟨b, 10, none⟩ (v10)).setCell ⟨b, 11, none⟩ (v11)) := ((((((((((((h.setCell hb _).setCell hb _).setCell hb _).setCell hb _).setCell hb _).setCell hb _).setCell hb _).setCell hb _).setCell hb _).setCell hb _).setCell hb _).setCell hb _)
theorem results_rec {fn : Func} {p : Tmp} (h : fn.results = #[.cell p 103]) {tmps : Array Value} {w : World} {b : Nat} {s0 s1 s2 s3 s4 s5 s6 s7 s8 s9 s10 s11 : Value} (hp : tmps.getD p undef = .pointer (some ⟨b, 0, none⟩)) (hc : Cel b 103 #[s0, s1, s2, s3, s4, s5, s6, s7, s8, s9, s10, s11] w) :
  (results fn tmps).run Tryz.prog w = .ok (.agg #[s0, s1, s2, s3, s4, s5, s6, s7, s8, s9, s10, s11]) w := by
 obtain ⟨d, hd⟩ : ∃ d, Tryz.prog.underlying 103 = some (.struct d) := ⟨_, Tryz.underlying103⟩
 exact results_cell_row h tmps w b 103 _ (0, 0) (.struct d) hp hc.is hd rfl (by kernel_rfl)
theorem results_rec2 {fn : Func} {p u : Tmp} (h : fn.results = #[.cell p 103, .tmp u]) {tmps : Array Value} {w : World} {b : Nat} {s0 s1 s2 s3 s4 s5 s6 s7 s8 s9 s10 s11 : Value} (hp : tmps.getD p undef = .pointer (some ⟨b, 0, none⟩)) {v : Value} (hu : tmps.getD u undef = v) (hc : Cel b 103 #[s0, s1, s2, s3, s4, s5, s6, s7, s8, s9, s10, s11] w) :
  (results fn tmps).run Tryz.prog w = .ok (.tuple #[.agg #[s0, s1, s2, s3, s4, s5, s6, s7, s8, s9, s10, s11], v]) w := by
 rw [results_cell_tmp h]
 have ha : (asAddr (.pointer (some ⟨b, 0, none⟩))).run Tryz.prog w = .ok ⟨b, 0, none⟩ w := rfl
 rw [hp, hu, ha]
 obtain ⟨d, hd⟩ : ∃ d, Tryz.prog.underlying 103 = some (.struct d) := ⟨_, Tryz.underlying103⟩
 have hv := run_loadVar_row (P := Tryz.prog) w b 103 103 _ (0, 0) (.struct d) hc.is hd rfl (by kernel_rfl)
 simp only [Result.andThen, hv]
set_option maxRecDepth 100000 in
set_option maxHeartbeats 2000000 in
theorem joins_any (x : E) (w : World) : Calls Tryz.prog 67 #[(.agg #[.string x.key, .int .i64 (x.f 0), .int .i64 (x.f 1), .int .i64 (x.f 2), .int .i64 (x.f 3), .int .i64 (x.f 4), .int .i64 (x.f 5), .int .i64 (x.f 6), .int .i64 (x.f 7), .slice x.a x.l.length x.cap])] w fun e w' => e = .returned (.agg #[.int .u64 1, .int .i64 0, .string x.key, .int .i64 (x.f 0), .int .i64 (x.f 1), .int .i64 (x.f 2), .int .i64 (x.f 3), .int .i64 (x.f 4), .int .i64 (x.f 5), .int .i64 (x.f 6), .int .i64 (x.f 7), .slice x.a x.l.length x.cap]) ∧ Off (fun _ => False) w w' := by
 obtain ⟨W, hW⟩ : ∃ W, W = ((w.alloc (.cells #[.string x.key, .int .i64 (x.f 0), .int .i64 (x.f 1), .int .i64 (x.f 2), .int .i64 (x.f 3), .int .i64 (x.f 4), .int .i64 (x.f 5), .int .i64 (x.f 6), .int .i64 (x.f 7), .slice x.a x.l.length x.cap] 68)).alloc (.cells #[.int .u64 0, .int .i64 0, .string ⟨#[]⟩, .int .i64 0, .int .i64 0, .int .i64 0, .int .i64 0, .int .i64 0, .int .i64 0, .int .i64 0, .int .i64 0, .slice none 0 0] 103)) := ⟨_, rfl⟩
 have O : Off (fun _ => False) w W := by rw [hW]; exact ((Off.refl _ w).alloc _).alloc _
 have C0 : Cel w.heap.size 68 #[.string x.key, .int .i64 (x.f 0), .int .i64 (x.f 1), .int .i64 (x.f 2), .int .i64 (x.f 3), .int .i64 (x.f 4), .int .i64 (x.f 5), .int .i64 (x.f 6), .int .i64 (x.f 7), .slice x.a x.l.length x.cap] W := by rw [hW]; exact (Cel.new w _ _).alloc _
 have C1 : Cel (w.heap.size + 1) 103 #[.int .u64 0, .int .i64 0, .string ⟨#[]⟩, .int .i64 0, .int .i64 0, .int .i64 0, .int .i64 0, .int .i64 0, .int .i64 0, .int .i64 0, .int .i64 0, .slice none 0 0] W := by rw [hW]; exact Cel.new1 w _ _ _
 obtain ⟨x0, x1, x2, x3, x4, x5, x6, x7, x8, x9⟩ := cel10 C0
 obtain ⟨z0, z1, z2, z3, z4, z5, z6, z7, z8, z9, z10, z11⟩ := cel12 C1
 have fr := C1.free
 have HC : Hid _ := C1
 have HO : Hid _ := O
 have HW : Hid _ := hW
 clear C1 O hW C0
 go_enter Tryz.func67, Tryz.ntmps67
 go_upto_region 1 with fail
 rw [show ((w.alloc (.cells #[.string x.key, .int .i64 (x.f 0), .int .i64 (x.f 1), .int .i64 (x.f 2), .int .i64 (x.f 3), .int .i64 (x.f 4), .int .i64 (x.f 5), .int .i64 (x.f 6), .int .i64 (x.f 7), .slice x.a x.l.length x.cap] 68)).alloc (.cells #[.int .u64 0, .int .i64 0, .string ⟨#[]⟩, .int .i64 0, .int .i64 0, .int .i64 0, .int .i64 0, .int .i64 0, .int .i64 0, .int .i64 0, .int .i64 0, .slice none 0 0] 103)) = W from HW.out.symm]
 go_wp2_with fail
 refine bodyPost_ret (results_rec rfl rfl HC.out.st12) rfl ?_
 exact ⟨rfl, HO.out.st12 (.inr (by omega))⟩
set_option maxRecDepth 100000 in
set_option maxHeartbeats 2000000 in
theorem keeps_any (h : H) (w : World) : Calls Tryz.prog 78 #[(.agg #[.int .i64 h.node, .string h.e.key, .int .i64 (h.e.f 0), .int .i64 (h.e.f 1), .int .i64 (h.e.f 2), .int .i64 (h.e.f 3), .int .i64 (h.e.f 4), .int .i64 (h.e.f 5), .int .i64 (h.e.f 6), .int .i64 (h.e.f 7), .slice h.e.a h.e.l.length h.e.cap])] w fun e w' => e = .returned (.agg #[.int .u64 2, .int .i64 h.node, .string h.e.key, .int .i64 (h.e.f 0), .int .i64 (h.e.f 1), .int .i64 (h.e.f 2), .int .i64 (h.e.f 3), .int .i64 (h.e.f 4), .int .i64 (h.e.f 5), .int .i64 (h.e.f 6), .int .i64 (h.e.f 7), .slice h.e.a h.e.l.length h.e.cap]) ∧ Off (fun _ => False) w w' := by
 obtain ⟨W, hW⟩ : ∃ W, W = ((w.alloc (.cells #[.int .i64 h.node, .string h.e.key, .int .i64 (h.e.f 0), .int .i64 (h.e.f 1), .int .i64 (h.e.f 2), .int .i64 (h.e.f 3), .int .i64 (h.e.f 4), .int .i64 (h.e.f 5), .int .i64 (h.e.f 6), .int .i64 (h.e.f 7), .slice h.e.a h.e.l.length h.e.cap] 75)).alloc (.cells #[.int .u64 0, .int .i64 0, .string ⟨#[]⟩, .int .i64 0, .int .i64 0, .int .i64 0, .int .i64 0, .int .i64 0, .int .i64 0, .int .i64 0, .int .i64 0, .slice none 0 0] 103)) := ⟨_, rfl⟩
 have O : Off (fun _ => False) w W := by rw [hW]; exact ((Off.refl _ w).alloc _).alloc _
 have C0 : Cel w.heap.size 75 #[.int .i64 h.node, .string h.e.key, .int .i64 (h.e.f 0), .int .i64 (h.e.f 1), .int .i64 (h.e.f 2), .int .i64 (h.e.f 3), .int .i64 (h.e.f 4), .int .i64 (h.e.f 5), .int .i64 (h.e.f 6), .int .i64 (h.e.f 7), .slice h.e.a h.e.l.length h.e.cap] W := by rw [hW]; exact (Cel.new w _ _).alloc _
 have C1 : Cel (w.heap.size + 1) 103 #[.int .u64 0, .int .i64 0, .string ⟨#[]⟩, .int .i64 0, .int .i64 0, .int .i64 0, .int .i64 0, .int .i64 0, .int .i64 0, .int .i64 0, .int .i64 0, .slice none 0 0] W := by rw [hW]; exact Cel.new1 w _ _ _
 obtain ⟨x0, x1, x2, x3, x4, x5, x6, x7, x8, x9, x10⟩ := cel11 C0
 obtain ⟨z0, z1, z2, z3, z4, z5, z6, z7, z8, z9, z10, z11⟩ := cel12 C1
 have fr := C1.free
 have HC : Hid _ := C1
 have HO : Hid _ := O
 have HW : Hid _ := hW
 clear C1 O hW C0
 go_enter Tryz.func78, Tryz.ntmps78
 go_upto_region 1 with fail
 rw [show ((w.alloc (.cells #[.int .i64 h.node, .string h.e.key, .int .i64 (h.e.f 0), .int .i64 (h.e.f 1), .int .i64 (h.e.f 2), .int .i64 (h.e.f 3), .int .i64 (h.e.f 4), .int .i64 (h.e.f 5), .int .i64 (h.e.f 6), .int .i64 (h.e.f 7), .slice h.e.a h.e.l.length h.e.cap] 75)).alloc (.cells #[.int .u64 0, .int .i64 0, .string ⟨#[]⟩, .int .i64 0, .int .i64 0, .int .i64 0, .int .i64 0, .int .i64 0, .int .i64 0, .int .i64 0, .int .i64 0, .slice none 0 0] 103)) = W from HW.out.symm]
 go_wp2_with fail
 refine bodyPost_ret (results_rec rfl rfl HC.out.st12) rfl ?_
 exact ⟨rfl, HO.out.st12 (.inr (by omega))⟩
set_option maxRecDepth 100000 in
set_option maxHeartbeats 2000000 in
theorem drops0_any (node : Int) (key : ByteArray) (w : World) : Calls Tryz.prog 72 #[.int .i64 node, .string key] w fun e w' => e = .returned (.agg #[.int .u64 3, .int .i64 node, .string key, .int .i64 0, .int .i64 0, .int .i64 0, .int .i64 0, .int .i64 0, .int .i64 0, .int .i64 0, .int .i64 0, .slice none 0 0]) ∧ Off (fun _ => False) w w' := by
 obtain ⟨W, hW⟩ : ∃ W, W = (w.alloc (.cells #[.int .u64 0, .int .i64 0, .string ⟨#[]⟩, .int .i64 0, .int .i64 0, .int .i64 0, .int .i64 0, .int .i64 0, .int .i64 0, .int .i64 0, .int .i64 0, .slice none 0 0] 103)) := ⟨_, rfl⟩
 have O : Off (fun _ => False) w W := by rw [hW]; exact (Off.refl _ w).alloc _
 have C1 : Cel w.heap.size 103 #[.int .u64 0, .int .i64 0, .string ⟨#[]⟩, .int .i64 0, .int .i64 0, .int .i64 0, .int .i64 0, .int .i64 0, .int .i64 0, .int .i64 0, .int .i64 0, .slice none 0 0] W := by rw [hW]; exact Cel.new w _ _
 obtain ⟨z0, z1, z2, z3, z4, z5, z6, z7, z8, z9, z10, z11⟩ := cel12 C1
 have fr := C1.free
 have HC : Hid _ := C1
 have HO : Hid _ := O
 have HW : Hid _ := hW
 clear C1 O hW
 go_enter Tryz.func72, Tryz.ntmps72
 go_upto_region 1 with fail
 rw [show (w.alloc (.cells #[.int .u64 0, .int .i64 0, .string ⟨#[]⟩, .int .i64 0, .int .i64 0, .int .i64 0, .int .i64 0, .int .i64 0, .int .i64 0, .int .i64 0, .int .i64 0, .slice none 0 0] 103)) = W from HW.out.symm]
 go_wp2_with fail
 refine bodyPost_ret (results_rec rfl rfl HC.out.st12) rfl ?_
 exact ⟨rfl, HO.out.st12 (.inr (by omega))⟩
set_option maxRecDepth 100000 in
set_option maxHeartbeats 2000000 in
theorem reaps0_any (key : ByteArray) (w : World) : Calls Tryz.prog 75 #[.string key] w fun e w' => e = .returned (.agg #[.int .u64 4, .int .i64 0, .string key, .int .i64 0, .int .i64 0, .int .i64 0, .int .i64 0, .int .i64 0, .int .i64 0, .int .i64 0, .int .i64 0, .slice none 0 0]) ∧ Off (fun _ => False) w w' := by
 obtain ⟨W, hW⟩ : ∃ W, W = (w.alloc (.cells #[.int .u64 0, .int .i64 0, .string ⟨#[]⟩, .int .i64 0, .int .i64 0, .int .i64 0, .int .i64 0, .int .i64 0, .int .i64 0, .int .i64 0, .int .i64 0, .slice none 0 0] 103)) := ⟨_, rfl⟩
 have O : Off (fun _ => False) w W := by rw [hW]; exact (Off.refl _ w).alloc _
 have C1 : Cel w.heap.size 103 #[.int .u64 0, .int .i64 0, .string ⟨#[]⟩, .int .i64 0, .int .i64 0, .int .i64 0, .int .i64 0, .int .i64 0, .int .i64 0, .int .i64 0, .int .i64 0, .slice none 0 0] W := by rw [hW]; exact Cel.new w _ _
 obtain ⟨z0, z1, z2, z3, z4, z5, z6, z7, z8, z9, z10, z11⟩ := cel12 C1
 have fr := C1.free
 have HC : Hid _ := C1
 have HO : Hid _ := O
 have HW : Hid _ := hW
 clear C1 O hW
 go_enter Tryz.func75, Tryz.ntmps75
 go_upto_region 1 with fail
 rw [show (w.alloc (.cells #[.int .u64 0, .int .i64 0, .string ⟨#[]⟩, .int .i64 0, .int .i64 0, .int .i64 0, .int .i64 0, .int .i64 0, .int .i64 0, .int .i64 0, .int .i64 0, .slice none 0 0] 103)) = W from HW.out.symm]
 go_wp2_with fail
 refine bodyPost_ret (results_rec rfl rfl HC.out.st12) rfl ?_
 exact ⟨rfl, HO.out.st12 (.inr (by omega))⟩
theorem drops_any (node : Int) (key : ByteArray) (w : World) : Calls Tryz.prog 72 #[.int .i64 node, .string key] w fun e w' => ∃ x : E, e = .returned (.agg #[.int .u64 3, .int .i64 node, .string x.key, .int .i64 (x.f 0), .int .i64 (x.f 1), .int .i64 (x.f 2), .int .i64 (x.f 3), .int .i64 (x.f 4), .int .i64 (x.f 5), .int .i64 (x.f 6), .int .i64 (x.f 7), .slice x.a x.l.length x.cap]) ∧ x = ⟨key, zer, none, 0, []⟩ ∧ Off (fun _ => False) w w' := by
 refine (drops0_any node key w).mono ?_
 rintro e w' ⟨rfl, o⟩
 exact ⟨⟨key, zer, none, 0, []⟩, rfl, rfl, o⟩
theorem reaps_any (key : ByteArray) (w : World) : Calls Tryz.prog 75 #[.string key] w fun e w' => ∃ x : E, e = .returned (.agg #[.int .u64 4, .int .i64 0, .string x.key, .int .i64 (x.f 0), .int .i64 (x.f 1), .int .i64 (x.f 2), .int .i64 (x.f 3), .int .i64 (x.f 4), .int .i64 (x.f 5), .int .i64 (x.f 6), .int .i64 (x.f 7), .slice x.a x.l.length x.cap]) ∧ x = ⟨key, zer, none, 0, []⟩ ∧ Off (fun _ => False) w w' := by
 refine (reaps0_any key w).mono ?_
 rintro e w' ⟨rfl, o⟩
 exact ⟨⟨key, zer, none, 0, []⟩, rfl, rfl, o⟩
theorem wrE_put {most : Nat} {st : Option (List Nat)} (h0 : (st.getD []).length ≤ most) (key : ByteArray) (f : Nat → Int) (l : List A) : wrE most st key f l = putS most st (encE (keyL key) f l) := by
 unfold wrE wrS
 rw [wrL_enc (put_le (wrV_le (put_le h0 _) f 8) _), wrV_enc (put_le h0 _), put_put, put_put, put_put]
 unfold encE
 simp only [List.append_assoc]
theorem put_some {bs x : List Nat} {most : Nat} (h : bs.length + x.length ≤ most) : putS most (some bs) x = some (bs ++ x) := by simp [putS, h]
theorem Row.offW {D : Nat → Prop} {N : Nat} {w v v' : World} {a : Option Addr} {cap : Nat} {l : List V} (h : Row w a cap l) (o : Off (fun c => N ≤ c) w v) (k : Off D v v') (hD : ∀ c, D c → N ≤ c) (hN : w.heap.size ≤ N) : Row v' a cap l :=
 h.offT h.below (o.trans k (fun c _ hc => hD c hc)) (fun x hx _ hc => by omega)
set_option maxRecDepth 100000 in
set_option maxHeartbeats 2000000 in
theorem bytes1_any (x : E) (w : World) (hr : Row w x.a x.cap x.l) (hk : OkR ⟨1, 0, x.abs⟩) : Calls Tryz.prog 128 #[(.agg #[.int .u64 1, .int .i64 0, .string x.key, .int .i64 (x.f 0), .int .i64 (x.f 1), .int .i64 (x.f 2), .int .i64 (x.f 3), .int .i64 (x.f 4), .int .i64 (x.f 5), .int .i64 (x.f 6), .int .i64 (x.f 7), .slice x.a x.l.length x.cap])] w fun e w' => ∃ t c, e = .returned (.tuple #[.slice t (enc ⟨1, 0, x.abs⟩).length c, .int .i64 0]) ∧ OwnR w' t c (enc ⟨1, 0, x.abs⟩) ∧ (∀ k, blk t = some k → w.heap.size ≤ k) ∧ Off (fun _ => False) w w' := by
 have hlen := enc_len hk
 obtain ⟨BS, hBS⟩ : ∃ BS, BS = enc ⟨1, 0, x.abs⟩ := ⟨_, rfl⟩
 rw [← hBS] at hlen ⊢
 have HBS : Hid _ := hBS
 have HOK : Hid _ := hk
 obtain ⟨W, hW⟩ : ∃ W, W = (w.alloc (.cells #[.int .u64 1, .int .i64 0, .string x.key, .int .i64 (x.f 0), .int .i64 (x.f 1), .int .i64 (x.f 2), .int .i64 (x.f 3), .int .i64 (x.f 4), .int .i64 (x.f 5), .int .i64 (x.f 6), .int .i64 (x.f 7), .slice x.a x.l.length x.cap] 103)) := ⟨_, rfl⟩
 have O : Off (fun _ => False) w W := by rw [hW]; exact (Off.refl _ w).alloc _
 have C : Cel w.heap.size 103 #[.int .u64 1, .int .i64 0, .string x.key, .int .i64 (x.f 0), .int .i64 (x.f 1), .int .i64 (x.f 2), .int .i64 (x.f 3), .int .i64 (x.f 4), .int .i64 (x.f 5), .int .i64 (x.f 6), .int .i64 (x.f 7), .slice x.a x.l.length x.cap] W := by rw [hW]; exact Cel.new w _ _
 have hz : w.heap.size < W.heap.size := C.lt
 have HZ : Hid _ := hz
 have HW : Hid _ := hW
 have HO : Hid (Off (fun c => W.heap.size ≤ c) w W) := O.mono (fun _ _ h => h.elim)
 have HC0 : Hid _ := C
 have HR : Hid _ := hr
 clear hW O C hz hBS hk hr
 go_enter Tryz.func128, Tryz.ntmps128
 go_upto_region 1 with fail
 rw [show (w.alloc (.cells #[.int .u64 1, .int .i64 0, .string x.key, .int .i64 (x.f 0), .int .i64 (x.f 1), .int .i64 (x.f 2), .int .i64 (x.f 3), .int .i64 (x.f 4), .int .i64 (x.f 5), .int .i64 (x.f 6), .int .i64 (x.f 7), .slice x.a x.l.length x.cap] 103)) = W from HW.out.symm]
 go_wp2_with fail
 refine (newWriter_any 60000 (by decide) W).mono ?_
 rintro e w1 ⟨rfl, W1, o1⟩
 have HW1 : Hid (Wtr (fun c => c = W.heap.size) W.heap.size 60000 (some []) w1) := W1
 have HC1 : Hid _ := HC0.out.off o1 (fun h => h)
 have HO1 : Hid (Off (fun c => W.heap.size ≤ c) w w1) := HO.out.trans o1 (fun _ _ h => h.elim)
 clear W1 o1
 generalize W.heap.size = N at HZ HO HW1 HO1 ⊢
 have HD1 : Hid (∀ c, (fun c => c = N) c → N ≤ c) := fun c hc => by rw [show c = N from hc]; exact Nat.le_refl _
 have HS1 : Hid (N ≤ w1.heap.size) := Nat.le_of_lt (HW1.out.lt N rfl)
 obtain ⟨x0, x1, x2, x3, x4, x5, x6, x7, x8, x9, x10, x11⟩ := cel12 HC1.out
 go_wp2_with fail
 clear x0 x1 x2 x3 x4 x5 x6 x7 x8 x9 x10 x11
 refine (wnum_any HW1.out 1 (by decide) (.inr ⟨by decide, by simp⟩)).mono ?_
 rintro e w2 ⟨rfl, D2, W2, o2, d2⟩
 have HD2 : Hid (∀ c, D2 c → N ≤ c) := fun c hc => (d2 c hc).elim (HD1.out c) (fun h => Nat.le_trans HS1.out h)
 have HS2 : Hid (N ≤ w2.heap.size) := Nat.le_trans HS1.out o2.size
 have HW2 : Hid _ := W2
 have HC2 : Hid _ := HC1.out.off o2 (fun h => by have h1 := HD1.out _ h; have h2 := HZ.out; omega)
 have HO2 : Hid (Off (fun c => N ≤ c) w w2) := HO1.out.trans o2 (fun c _ h => HD1.out c h)
 clear W2 o2 d2
 have HL2 : Hid (((putS 60000 (some []) (numB 1)).getD []).length ≤ 60000) := put_le (by simp) _
 have HKK : Hid (OkK x.abs) := by
  rcases HOK.out.is with ⟨-, -, h⟩ | ⟨-, -, h⟩ | ⟨h, -⟩ | ⟨h, -⟩
  ·exact h
  ·exact h
  ·cases h
  ·cases h
 have hks := key_size HKK.out.key
 have HSE : Hid _ := HKK.out.sees
 obtain ⟨x0, x1, x2, x3, x4, x5, x6, x7, x8, x9, x10, x11⟩ := cel12 HC2.out
 go_wp2_with fail
 clear x0 x1 x2 x3 x4 x5 x6 x7 x8 x9 x10 x11
 refine (writeEntry_any HW2.out (by decide) HL2.out x.key (by have : x.key.size ≤ 32 := hks.2; omega) x.f HSE.out x.a x.cap x.l (fun w' o => HR.out.offW HO2.out o HD2.out (Nat.le_of_lt HZ.out))).mono ?_
 rintro e w3 ⟨rfl, D3, W3, o3, d3⟩
 have HD3 : Hid (∀ c, D3 c → N ≤ c) := fun c hc => (d3 c hc).elim (HD2.out c) (fun h => Nat.le_trans HS2.out h)
 have HS3 : Hid (N ≤ w3.heap.size) := Nat.le_trans HS2.out o3.size
 have HW3 : Hid _ := W3
 have HC3 : Hid _ := HC2.out.off o3 (fun h => by have h1 := HD2.out _ h; have h2 := HZ.out; omega)
 have HO3 : Hid (Off (fun c => N ≤ c) w w3) := HO2.out.trans o3 (fun c _ h => HD2.out c h)
 clear W3 o3 d3
 have hst : wrE 60000 (putS 60000 (some []) (numB 1)) x.key x.f (cont x.l) = some BS := by
  rw [wrE_put HL2.out, put_put, HBS.out]
  have hl : (enc ⟨1, 0, x.abs⟩).length ≤ 4000 := by rw [← HBS.out]; exact hlen
  have e0 : ∀ y : List Nat, y = enc ⟨1, 0, x.abs⟩ → putS 60000 (some []) y = some (enc ⟨1, 0, x.abs⟩) := fun y hy => by
   rw [hy, put_some (by simp only [List.length_nil]; omega)]
   rfl
  refine e0 _ ?_
  simp only [enc]
  first | rfl | simp
 have HWF : Hid (Wtr D3 N 60000 (some BS) w3) := by have h := HW3.out; rw [hst] at h; exact h
 clear hst hks
 go_wp2_with fail
 refine (done_any HWF.out (by simp only [Option.getD_some]; omega)).mono ?_
 rintro e w9 ⟨t, c, rfl, own, fr, o9⟩
 go_wp2_with fail
 go_ret2
 have hs := HO3.out.size
 exact ⟨t, c, rfl, own, fun k hk => Nat.le_trans hs (fr k hk), (HO3.out.trans o9 (fun _ _ h => h.elim)).mono (fun i hi h => by have := HZ.out; omega)⟩
set_option maxRecDepth 100000 in
set_option maxHeartbeats 2000000 in
theorem bytes2_any (node : Int) (x : E) (w : World) (hr : Row w x.a x.cap x.l) (hk : OkR ⟨2, node, x.abs⟩) : Calls Tryz.prog 128 #[(.agg #[.int .u64 2, .int .i64 node, .string x.key, .int .i64 (x.f 0), .int .i64 (x.f 1), .int .i64 (x.f 2), .int .i64 (x.f 3), .int .i64 (x.f 4), .int .i64 (x.f 5), .int .i64 (x.f 6), .int .i64 (x.f 7), .slice x.a x.l.length x.cap])] w fun e w' => ∃ t c, e = .returned (.tuple #[.slice t (enc ⟨2, node, x.abs⟩).length c, .int .i64 0]) ∧ OwnR w' t c (enc ⟨2, node, x.abs⟩) ∧ (∀ k, blk t = some k → w.heap.size ≤ k) ∧ Off (fun _ => False) w w' := by
 have hlen := enc_len hk
 obtain ⟨BS, hBS⟩ : ∃ BS, BS = enc ⟨2, node, x.abs⟩ := ⟨_, rfl⟩
 rw [← hBS] at hlen ⊢
 have HBS : Hid _ := hBS
 have HOK : Hid _ := hk
 obtain ⟨W, hW⟩ : ∃ W, W = (w.alloc (.cells #[.int .u64 2, .int .i64 node, .string x.key, .int .i64 (x.f 0), .int .i64 (x.f 1), .int .i64 (x.f 2), .int .i64 (x.f 3), .int .i64 (x.f 4), .int .i64 (x.f 5), .int .i64 (x.f 6), .int .i64 (x.f 7), .slice x.a x.l.length x.cap] 103)) := ⟨_, rfl⟩
 have O : Off (fun _ => False) w W := by rw [hW]; exact (Off.refl _ w).alloc _
 have C : Cel w.heap.size 103 #[.int .u64 2, .int .i64 node, .string x.key, .int .i64 (x.f 0), .int .i64 (x.f 1), .int .i64 (x.f 2), .int .i64 (x.f 3), .int .i64 (x.f 4), .int .i64 (x.f 5), .int .i64 (x.f 6), .int .i64 (x.f 7), .slice x.a x.l.length x.cap] W := by rw [hW]; exact Cel.new w _ _
 have hz : w.heap.size < W.heap.size := C.lt
 have HZ : Hid _ := hz
 have HW : Hid _ := hW
 have HO : Hid (Off (fun c => W.heap.size ≤ c) w W) := O.mono (fun _ _ h => h.elim)
 have HC0 : Hid _ := C
 have HR : Hid _ := hr
 clear hW O C hz hBS hk hr
 go_enter Tryz.func128, Tryz.ntmps128
 go_upto_region 1 with fail
 rw [show (w.alloc (.cells #[.int .u64 2, .int .i64 node, .string x.key, .int .i64 (x.f 0), .int .i64 (x.f 1), .int .i64 (x.f 2), .int .i64 (x.f 3), .int .i64 (x.f 4), .int .i64 (x.f 5), .int .i64 (x.f 6), .int .i64 (x.f 7), .slice x.a x.l.length x.cap] 103)) = W from HW.out.symm]
 go_wp2_with fail
 refine (newWriter_any 60000 (by decide) W).mono ?_
 rintro e w1 ⟨rfl, W1, o1⟩
 have HW1 : Hid (Wtr (fun c => c = W.heap.size) W.heap.size 60000 (some []) w1) := W1
 have HC1 : Hid _ := HC0.out.off o1 (fun h => h)
 have HO1 : Hid (Off (fun c => W.heap.size ≤ c) w w1) := HO.out.trans o1 (fun _ _ h => h.elim)
 clear W1 o1
 generalize W.heap.size = N at HZ HO HW1 HO1 ⊢
 have HD1 : Hid (∀ c, (fun c => c = N) c → N ≤ c) := fun c hc => by rw [show c = N from hc]; exact Nat.le_refl _
 have HS1 : Hid (N ≤ w1.heap.size) := Nat.le_of_lt (HW1.out.lt N rfl)
 obtain ⟨x0, x1, x2, x3, x4, x5, x6, x7, x8, x9, x10, x11⟩ := cel12 HC1.out
 go_wp2_with fail
 clear x0 x1 x2 x3 x4 x5 x6 x7 x8 x9 x10 x11
 refine (wnum_any HW1.out 2 (by decide) (.inr ⟨by decide, by simp⟩)).mono ?_
 rintro e w2 ⟨rfl, D2, W2, o2, d2⟩
 have HD2 : Hid (∀ c, D2 c → N ≤ c) := fun c hc => (d2 c hc).elim (HD1.out c) (fun h => Nat.le_trans HS1.out h)
 have HS2 : Hid (N ≤ w2.heap.size) := Nat.le_trans HS1.out o2.size
 have HW2 : Hid _ := W2
 have HC2 : Hid _ := HC1.out.off o2 (fun h => by have h1 := HD1.out _ h; have h2 := HZ.out; omega)
 have HO2 : Hid (Off (fun c => N ≤ c) w w2) := HO1.out.trans o2 (fun c _ h => HD1.out c h)
 clear W2 o2 d2
 have HL2 : Hid (((putS 60000 (some []) (numB 2)).getD []).length ≤ 60000) := put_le (by simp) _
 have hu : IntKind.u64.wrap node = ((u64N node : Nat) : Int) := u64_wrap node
 obtain ⟨x0, x1, x2, x3, x4, x5, x6, x7, x8, x9, x10, x11⟩ := cel12 HC2.out
 go_wp2_with fail
 clear x0 x1 x2 x3 x4 x5 x6 x7 x8 x9 x10 x11
 clear hu
 refine (wnum_any HW2.out (u64N node) (u64N_lt node) (.inr ⟨by decide, HL2.out⟩)).mono ?_
 rintro e w3 ⟨rfl, D3, W3, o3, d3⟩
 have HD3 : Hid (∀ c, D3 c → N ≤ c) := fun c hc => (d3 c hc).elim (HD2.out c) (fun h => Nat.le_trans HS2.out h)
 have HS3 : Hid (N ≤ w3.heap.size) := Nat.le_trans HS2.out o3.size
 have HW3 : Hid _ := W3
 have HC3 : Hid _ := HC2.out.off o3 (fun h => by have h1 := HD2.out _ h; have h2 := HZ.out; omega)
 have HO3 : Hid (Off (fun c => N ≤ c) w w3) := HO2.out.trans o3 (fun c _ h => HD2.out c h)
 clear W3 o3 d3
 have HL3 : Hid (((putS 60000 (putS 60000 (some []) (numB 2)) (numB (u64N node))).getD []).length ≤ 60000) := put_le HL2.out _
 have HKK : Hid (OkK x.abs) := by
  rcases HOK.out.is with ⟨-, -, h⟩ | ⟨-, -, h⟩ | ⟨h, -⟩ | ⟨h, -⟩
  ·exact h
  ·exact h
  ·cases h
  ·cases h
 have hks := key_size HKK.out.key
 have HSE : Hid _ := HKK.out.sees
 obtain ⟨x0, x1, x2, x3, x4, x5, x6, x7, x8, x9, x10, x11⟩ := cel12 HC3.out
 go_wp2_with fail
 clear x0 x1 x2 x3 x4 x5 x6 x7 x8 x9 x10 x11
 refine (writeEntry_any HW3.out (by decide) HL3.out x.key (by have : x.key.size ≤ 32 := hks.2; omega) x.f HSE.out x.a x.cap x.l (fun w' o => HR.out.offW HO3.out o HD3.out (Nat.le_of_lt HZ.out))).mono ?_
 rintro e w4 ⟨rfl, D4, W4, o4, d4⟩
 have HD4 : Hid (∀ c, D4 c → N ≤ c) := fun c hc => (d4 c hc).elim (HD3.out c) (fun h => Nat.le_trans HS3.out h)
 have HS4 : Hid (N ≤ w4.heap.size) := Nat.le_trans HS3.out o4.size
 have HW4 : Hid _ := W4
 have HC4 : Hid _ := HC3.out.off o4 (fun h => by have h1 := HD3.out _ h; have h2 := HZ.out; omega)
 have HO4 : Hid (Off (fun c => N ≤ c) w w4) := HO3.out.trans o4 (fun c _ h => HD3.out c h)
 clear W4 o4 d4
 have hst : wrE 60000 (putS 60000 (putS 60000 (some []) (numB 2)) (numB (u64N node))) x.key x.f (cont x.l) = some BS := by
  rw [wrE_put HL3.out, put_put, put_put, HBS.out]
  have hl : (enc ⟨2, node, x.abs⟩).length ≤ 4000 := by rw [← HBS.out]; exact hlen
  have e0 : ∀ y : List Nat, y = enc ⟨2, node, x.abs⟩ → putS 60000 (some []) y = some (enc ⟨2, node, x.abs⟩) := fun y hy => by
   rw [hy, put_some (by simp only [List.length_nil]; omega)]
   rfl
  refine e0 _ ?_
  simp only [enc]
  first | rfl | simp
 have HWF : Hid (Wtr D4 N 60000 (some BS) w4) := by have h := HW4.out; rw [hst] at h; exact h
 clear hst hks
 go_wp2_with fail
 refine (done_any HWF.out (by simp only [Option.getD_some]; omega)).mono ?_
 rintro e w9 ⟨t, c, rfl, own, fr, o9⟩
 go_wp2_with fail
 go_ret2
 have hs := HO4.out.size
 exact ⟨t, c, rfl, own, fun k hk => Nat.le_trans hs (fr k hk), (HO4.out.trans o9 (fun _ _ h => h.elim)).mono (fun i hi h => by have := HZ.out; omega)⟩
set_option maxRecDepth 100000 in
set_option maxHeartbeats 2000000 in
theorem bytes3_any (node : Int) (x : E) (w : World) (hk : OkR ⟨3, node, x.abs⟩) : Calls Tryz.prog 128 #[(.agg #[.int .u64 3, .int .i64 node, .string x.key, .int .i64 (x.f 0), .int .i64 (x.f 1), .int .i64 (x.f 2), .int .i64 (x.f 3), .int .i64 (x.f 4), .int .i64 (x.f 5), .int .i64 (x.f 6), .int .i64 (x.f 7), .slice x.a x.l.length x.cap])] w fun e w' => ∃ t c, e = .returned (.tuple #[.slice t (enc ⟨3, node, x.abs⟩).length c, .int .i64 0]) ∧ OwnR w' t c (enc ⟨3, node, x.abs⟩) ∧ (∀ k, blk t = some k → w.heap.size ≤ k) ∧ Off (fun _ => False) w w' := by
 have hlen := enc_len hk
 obtain ⟨BS, hBS⟩ : ∃ BS, BS = enc ⟨3, node, x.abs⟩ := ⟨_, rfl⟩
 rw [← hBS] at hlen ⊢
 have HBS : Hid _ := hBS
 have HOK : Hid _ := hk
 obtain ⟨W, hW⟩ : ∃ W, W = (w.alloc (.cells #[.int .u64 3, .int .i64 node, .string x.key, .int .i64 (x.f 0), .int .i64 (x.f 1), .int .i64 (x.f 2), .int .i64 (x.f 3), .int .i64 (x.f 4), .int .i64 (x.f 5), .int .i64 (x.f 6), .int .i64 (x.f 7), .slice x.a x.l.length x.cap] 103)) := ⟨_, rfl⟩
 have O : Off (fun _ => False) w W := by rw [hW]; exact (Off.refl _ w).alloc _
 have C : Cel w.heap.size 103 #[.int .u64 3, .int .i64 node, .string x.key, .int .i64 (x.f 0), .int .i64 (x.f 1), .int .i64 (x.f 2), .int .i64 (x.f 3), .int .i64 (x.f 4), .int .i64 (x.f 5), .int .i64 (x.f 6), .int .i64 (x.f 7), .slice x.a x.l.length x.cap] W := by rw [hW]; exact Cel.new w _ _
 have hz : w.heap.size < W.heap.size := C.lt
 have HZ : Hid _ := hz
 have HW : Hid _ := hW
 have HO : Hid (Off (fun c => W.heap.size ≤ c) w W) := O.mono (fun _ _ h => h.elim)
 have HC0 : Hid _ := C
 clear hW O C hz hBS hk
 go_enter Tryz.func128, Tryz.ntmps128
 go_upto_region 1 with fail
 rw [show (w.alloc (.cells #[.int .u64 3, .int .i64 node, .string x.key, .int .i64 (x.f 0), .int .i64 (x.f 1), .int .i64 (x.f 2), .int .i64 (x.f 3), .int .i64 (x.f 4), .int .i64 (x.f 5), .int .i64 (x.f 6), .int .i64 (x.f 7), .slice x.a x.l.length x.cap] 103)) = W from HW.out.symm]
 go_wp2_with fail
 refine (newWriter_any 60000 (by decide) W).mono ?_
 rintro e w1 ⟨rfl, W1, o1⟩
 have HW1 : Hid (Wtr (fun c => c = W.heap.size) W.heap.size 60000 (some []) w1) := W1
 have HC1 : Hid _ := HC0.out.off o1 (fun h => h)
 have HO1 : Hid (Off (fun c => W.heap.size ≤ c) w w1) := HO.out.trans o1 (fun _ _ h => h.elim)
 clear W1 o1
 generalize W.heap.size = N at HZ HO HW1 HO1 ⊢
 have HD1 : Hid (∀ c, (fun c => c = N) c → N ≤ c) := fun c hc => by rw [show c = N from hc]; exact Nat.le_refl _
 have HS1 : Hid (N ≤ w1.heap.size) := Nat.le_of_lt (HW1.out.lt N rfl)
 obtain ⟨x0, x1, x2, x3, x4, x5, x6, x7, x8, x9, x10, x11⟩ := cel12 HC1.out
 go_wp2_with fail
 clear x0 x1 x2 x3 x4 x5 x6 x7 x8 x9 x10 x11
 refine (wnum_any HW1.out 3 (by decide) (.inr ⟨by decide, by simp⟩)).mono ?_
 rintro e w2 ⟨rfl, D2, W2, o2, d2⟩
 have HD2 : Hid (∀ c, D2 c → N ≤ c) := fun c hc => (d2 c hc).elim (HD1.out c) (fun h => Nat.le_trans HS1.out h)
 have HS2 : Hid (N ≤ w2.heap.size) := Nat.le_trans HS1.out o2.size
 have HW2 : Hid _ := W2
 have HC2 : Hid _ := HC1.out.off o2 (fun h => by have h1 := HD1.out _ h; have h2 := HZ.out; omega)
 have HO2 : Hid (Off (fun c => N ≤ c) w w2) := HO1.out.trans o2 (fun c _ h => HD1.out c h)
 clear W2 o2 d2
 have HL2 : Hid (((putS 60000 (some []) (numB 3)).getD []).length ≤ 60000) := put_le (by simp) _
 have hu : IntKind.u64.wrap node = ((u64N node : Nat) : Int) := u64_wrap node
 obtain ⟨x0, x1, x2, x3, x4, x5, x6, x7, x8, x9, x10, x11⟩ := cel12 HC2.out
 go_wp2_with fail
 clear x0 x1 x2 x3 x4 x5 x6 x7 x8 x9 x10 x11
 clear hu
 refine (wnum_any HW2.out (u64N node) (u64N_lt node) (.inr ⟨by decide, HL2.out⟩)).mono ?_
 rintro e w3 ⟨rfl, D3, W3, o3, d3⟩
 have HD3 : Hid (∀ c, D3 c → N ≤ c) := fun c hc => (d3 c hc).elim (HD2.out c) (fun h => Nat.le_trans HS2.out h)
 have HS3 : Hid (N ≤ w3.heap.size) := Nat.le_trans HS2.out o3.size
 have HW3 : Hid _ := W3
 have HC3 : Hid _ := HC2.out.off o3 (fun h => by have h1 := HD2.out _ h; have h2 := HZ.out; omega)
 have HO3 : Hid (Off (fun c => N ≤ c) w w3) := HO2.out.trans o3 (fun c _ h => HD2.out c h)
 clear W3 o3 d3
 have HL3 : Hid (((putS 60000 (putS 60000 (some []) (numB 3)) (numB (u64N node))).getD []).length ≤ 60000) := put_le HL2.out _
 have HKB : Hid (keyB x.key = true) := by
  rcases HOK.out.is with ⟨h, -⟩ | ⟨h, -⟩ | ⟨-, -, h, -⟩ | ⟨-, -, h, -⟩
  ·cases h
  ·cases h
  ·exact h
  ·exact h
 have hks := key_size HKB.out
 obtain ⟨kl, hkl⟩ : ∃ y, y = keyL x.key := ⟨_, rfl⟩
 obtain ⟨kc, V, hrun, hsrc, oV⟩ := conv_key x.key w3
 rw [← hkl] at hrun hsrc
 have hkz : kl.length ≤ 32 := by rw [hkl, keyL_len]; exact hks.2
 have HKL : Hid _ := hkl
 have HSR : Hid _ := hsrc
 have HWV : Hid _ := HW3.out.off oV (fun _ _ _ h => h)
 have HLV : Hid (∀ c, D3 c → c < w3.heap.size) := HW3.out.lt
 have HCV : Hid _ := HC3.out.off oV (fun h => h)
 have HOV : Hid (Off (fun c => N ≤ c) w V) := HO3.out.trans oV (fun _ _ h => h.elim)
 have HSV : Hid (N ≤ V.heap.size) := Nat.le_trans HS3.out oV.size
 clear hkl hsrc oV
 obtain ⟨x0, x1, x2, x3, x4, x5, x6, x7, x8, x9, x10, x11⟩ := cel12 HC3.out
 go_wp2_with fail
 clear x0 x1 x2 x3 x4 x5 x6 x7 x8 x9 x10 x11
 clear hrun
 refine (wtext_any HWV.out _ kc kl (fun w' o => HSR.out.off o (fun c hc hb h => by simp [blk] at hb; have := HLV.out c h; omega)) (.inr ⟨by decide, HL3.out, by omega⟩)).mono ?_
 rintro e w4 ⟨rfl, D4, W4, o4, d4⟩
 have HD4 : Hid (∀ c, D4 c → N ≤ c) := fun c hc => (d4 c hc).elim (HD3.out c) (fun h => Nat.le_trans HSV.out h)
 have HS4 : Hid (N ≤ w4.heap.size) := Nat.le_trans HSV.out o4.size
 have HW4 : Hid _ := W4
 have HC4 : Hid _ := HCV.out.off o4 (fun h => by have h1 := HD3.out _ h; have h2 := HZ.out; omega)
 have HO4 : Hid (Off (fun c => N ≤ c) w w4) := HOV.out.trans o4 (fun c _ h => HD3.out c h)
 clear W4 o4 d4
 have hst : putS 60000 (putS 60000 (putS 60000 (some []) (numB 3)) (numB (u64N node))) (numB kl.length ++ kl) = some BS := by
  rw [HKL.out, put_put, put_put, HBS.out]
  have hl : (enc ⟨3, node, x.abs⟩).length ≤ 4000 := by rw [← HBS.out]; exact hlen
  have e0 : ∀ y : List Nat, y = enc ⟨3, node, x.abs⟩ → putS 60000 (some []) y = some (enc ⟨3, node, x.abs⟩) := fun y hy => by
   rw [hy, put_some (by simp only [List.length_nil]; omega)]
   rfl
  refine e0 _ ?_
  simp only [enc]
  first | rfl | simp
 have HWF : Hid (Wtr D4 N 60000 (some BS) w4) := by have h := HW4.out; rw [hst] at h; exact h
 clear hst hks
 go_wp2_with fail
 refine (done_any HWF.out (by simp only [Option.getD_some]; omega)).mono ?_
 rintro e w9 ⟨t, c, rfl, own, fr, o9⟩
 go_wp2_with fail
 go_ret2
 have hs := HO4.out.size
 exact ⟨t, c, rfl, own, fun k hk => Nat.le_trans hs (fr k hk), (HO4.out.trans o9 (fun _ _ h => h.elim)).mono (fun i hi h => by have := HZ.out; omega)⟩
set_option maxRecDepth 100000 in
set_option maxHeartbeats 2000000 in
theorem bytes4_any (x : E) (w : World) (hk : OkR ⟨4, 0, x.abs⟩) : Calls Tryz.prog 128 #[(.agg #[.int .u64 4, .int .i64 0, .string x.key, .int .i64 (x.f 0), .int .i64 (x.f 1), .int .i64 (x.f 2), .int .i64 (x.f 3), .int .i64 (x.f 4), .int .i64 (x.f 5), .int .i64 (x.f 6), .int .i64 (x.f 7), .slice x.a x.l.length x.cap])] w fun e w' => ∃ t c, e = .returned (.tuple #[.slice t (enc ⟨4, 0, x.abs⟩).length c, .int .i64 0]) ∧ OwnR w' t c (enc ⟨4, 0, x.abs⟩) ∧ (∀ k, blk t = some k → w.heap.size ≤ k) ∧ Off (fun _ => False) w w' := by
 have hlen := enc_len hk
 obtain ⟨BS, hBS⟩ : ∃ BS, BS = enc ⟨4, 0, x.abs⟩ := ⟨_, rfl⟩
 rw [← hBS] at hlen ⊢
 have HBS : Hid _ := hBS
 have HOK : Hid _ := hk
 obtain ⟨W, hW⟩ : ∃ W, W = (w.alloc (.cells #[.int .u64 4, .int .i64 0, .string x.key, .int .i64 (x.f 0), .int .i64 (x.f 1), .int .i64 (x.f 2), .int .i64 (x.f 3), .int .i64 (x.f 4), .int .i64 (x.f 5), .int .i64 (x.f 6), .int .i64 (x.f 7), .slice x.a x.l.length x.cap] 103)) := ⟨_, rfl⟩
 have O : Off (fun _ => False) w W := by rw [hW]; exact (Off.refl _ w).alloc _
 have C : Cel w.heap.size 103 #[.int .u64 4, .int .i64 0, .string x.key, .int .i64 (x.f 0), .int .i64 (x.f 1), .int .i64 (x.f 2), .int .i64 (x.f 3), .int .i64 (x.f 4), .int .i64 (x.f 5), .int .i64 (x.f 6), .int .i64 (x.f 7), .slice x.a x.l.length x.cap] W := by rw [hW]; exact Cel.new w _ _
 have hz : w.heap.size < W.heap.size := C.lt
 have HZ : Hid _ := hz
 have HW : Hid _ := hW
 have HO : Hid (Off (fun c => W.heap.size ≤ c) w W) := O.mono (fun _ _ h => h.elim)
 have HC0 : Hid _ := C
 clear hW O C hz hBS hk
 go_enter Tryz.func128, Tryz.ntmps128
 go_upto_region 1 with fail
 rw [show (w.alloc (.cells #[.int .u64 4, .int .i64 0, .string x.key, .int .i64 (x.f 0), .int .i64 (x.f 1), .int .i64 (x.f 2), .int .i64 (x.f 3), .int .i64 (x.f 4), .int .i64 (x.f 5), .int .i64 (x.f 6), .int .i64 (x.f 7), .slice x.a x.l.length x.cap] 103)) = W from HW.out.symm]
 go_wp2_with fail
 refine (newWriter_any 60000 (by decide) W).mono ?_
 rintro e w1 ⟨rfl, W1, o1⟩
 have HW1 : Hid (Wtr (fun c => c = W.heap.size) W.heap.size 60000 (some []) w1) := W1
 have HC1 : Hid _ := HC0.out.off o1 (fun h => h)
 have HO1 : Hid (Off (fun c => W.heap.size ≤ c) w w1) := HO.out.trans o1 (fun _ _ h => h.elim)
 clear W1 o1
 generalize W.heap.size = N at HZ HO HW1 HO1 ⊢
 have HD1 : Hid (∀ c, (fun c => c = N) c → N ≤ c) := fun c hc => by rw [show c = N from hc]; exact Nat.le_refl _
 have HS1 : Hid (N ≤ w1.heap.size) := Nat.le_of_lt (HW1.out.lt N rfl)
 obtain ⟨x0, x1, x2, x3, x4, x5, x6, x7, x8, x9, x10, x11⟩ := cel12 HC1.out
 go_wp2_with fail
 clear x0 x1 x2 x3 x4 x5 x6 x7 x8 x9 x10 x11
 refine (wnum_any HW1.out 4 (by decide) (.inr ⟨by decide, by simp⟩)).mono ?_
 rintro e w2 ⟨rfl, D2, W2, o2, d2⟩
 have HD2 : Hid (∀ c, D2 c → N ≤ c) := fun c hc => (d2 c hc).elim (HD1.out c) (fun h => Nat.le_trans HS1.out h)
 have HS2 : Hid (N ≤ w2.heap.size) := Nat.le_trans HS1.out o2.size
 have HW2 : Hid _ := W2
 have HC2 : Hid _ := HC1.out.off o2 (fun h => by have h1 := HD1.out _ h; have h2 := HZ.out; omega)
 have HO2 : Hid (Off (fun c => N ≤ c) w w2) := HO1.out.trans o2 (fun c _ h => HD1.out c h)
 clear W2 o2 d2
 have HL2 : Hid (((putS 60000 (some []) (numB 4)).getD []).length ≤ 60000) := put_le (by simp) _
 have HKB : Hid (keyB x.key = true) := by
  rcases HOK.out.is with ⟨h, -⟩ | ⟨h, -⟩ | ⟨-, -, h, -⟩ | ⟨-, -, h, -⟩
  ·cases h
  ·cases h
  ·exact h
  ·exact h
 have hks := key_size HKB.out
 obtain ⟨kl, hkl⟩ : ∃ y, y = keyL x.key := ⟨_, rfl⟩
 obtain ⟨kc, V, hrun, hsrc, oV⟩ := conv_key x.key w2
 rw [← hkl] at hrun hsrc
 have hkz : kl.length ≤ 32 := by rw [hkl, keyL_len]; exact hks.2
 have HKL : Hid _ := hkl
 have HSR : Hid _ := hsrc
 have HWV : Hid _ := HW2.out.off oV (fun _ _ _ h => h)
 have HLV : Hid (∀ c, D2 c → c < w2.heap.size) := HW2.out.lt
 have HCV : Hid _ := HC2.out.off oV (fun h => h)
 have HOV : Hid (Off (fun c => N ≤ c) w V) := HO2.out.trans oV (fun _ _ h => h.elim)
 have HSV : Hid (N ≤ V.heap.size) := Nat.le_trans HS2.out oV.size
 clear hkl hsrc oV
 obtain ⟨x0, x1, x2, x3, x4, x5, x6, x7, x8, x9, x10, x11⟩ := cel12 HC2.out
 go_wp2_with fail
 clear x0 x1 x2 x3 x4 x5 x6 x7 x8 x9 x10 x11
 clear hrun
 refine (wtext_any HWV.out _ kc kl (fun w' o => HSR.out.off o (fun c hc hb h => by simp [blk] at hb; have := HLV.out c h; omega)) (.inr ⟨by decide, HL2.out, by omega⟩)).mono ?_
 rintro e w3 ⟨rfl, D3, W3, o3, d3⟩
 have HD3 : Hid (∀ c, D3 c → N ≤ c) := fun c hc => (d3 c hc).elim (HD2.out c) (fun h => Nat.le_trans HSV.out h)
 have HS3 : Hid (N ≤ w3.heap.size) := Nat.le_trans HSV.out o3.size
 have HW3 : Hid _ := W3
 have HC3 : Hid _ := HCV.out.off o3 (fun h => by have h1 := HD2.out _ h; have h2 := HZ.out; omega)
 have HO3 : Hid (Off (fun c => N ≤ c) w w3) := HOV.out.trans o3 (fun c _ h => HD2.out c h)
 clear W3 o3 d3
 have hst : putS 60000 (putS 60000 (some []) (numB 4)) (numB kl.length ++ kl) = some BS := by
  rw [HKL.out, put_put, HBS.out]
  have hl : (enc ⟨4, 0, x.abs⟩).length ≤ 4000 := by rw [← HBS.out]; exact hlen
  have e0 : ∀ y : List Nat, y = enc ⟨4, 0, x.abs⟩ → putS 60000 (some []) y = some (enc ⟨4, 0, x.abs⟩) := fun y hy => by
   rw [hy, put_some (by simp only [List.length_nil]; omega)]
   rfl
  refine e0 _ ?_
  simp only [enc]
  first | rfl | simp
 have HWF : Hid (Wtr D3 N 60000 (some BS) w3) := by have h := HW3.out; rw [hst] at h; exact h
 clear hst hks
 go_wp2_with fail
 refine (done_any HWF.out (by simp only [Option.getD_some]; omega)).mono ?_
 rintro e w9 ⟨t, c, rfl, own, fr, o9⟩
 go_wp2_with fail
 go_ret2
 have hs := HO3.out.size
 exact ⟨t, c, rfl, own, fun k hk => Nat.le_trans hs (fr k hk), (HO3.out.trans o9 (fun _ _ h => h.elim)).mono (fun i hi h => by have := HZ.out; omega)⟩
theorem bytes_any (kd : Nat) (node : Int) (x : E) (w : World) (hr : Row w x.a x.cap x.l) (hk : OkR ⟨kd, node, x.abs⟩) : Calls Tryz.prog 128 #[(.agg #[.int .u64 (kd : Int), .int .i64 node, .string x.key, .int .i64 (x.f 0), .int .i64 (x.f 1), .int .i64 (x.f 2), .int .i64 (x.f 3), .int .i64 (x.f 4), .int .i64 (x.f 5), .int .i64 (x.f 6), .int .i64 (x.f 7), .slice x.a x.l.length x.cap])] w fun e w' => ∃ t c, e = .returned (.tuple #[.slice t (enc ⟨kd, node, x.abs⟩).length c, .int .i64 0]) ∧ OwnR w' t c (enc ⟨kd, node, x.abs⟩) ∧ (∀ k, blk t = some k → w.heap.size ≤ k) ∧ Off (fun _ => False) w w' := by
 rcases hk.is with ⟨h, h2, -⟩ | ⟨h, -, -⟩ | ⟨h, -⟩ | ⟨h, h2, -⟩ <;> simp only at h <;> subst h
 ·simp only at h2
  subst h2
  exact bytes1_any x w hr hk
 ·exact bytes2_any node x w hr hk
 ·exact bytes3_any node x w hk
 ·simp only at h2
  subst h2
  exact bytes4_any x w hk
end Go.Proofs.YthjbnpaghiojlaaGreat
