/- A table that there isn't. -/
import Derived.Test.YtbagahlphnafdaaAwk10
import Derived.Test.YtbagahlphnafdaaArg10
namespace Go.Proofs.Ytbagahlphnafdaa
open Go.RowKit

set_option maxRecDepth 100000 in
set_option maxHeartbeats 1000000 in
theorem tjoin_nil (x : E) (w : World) : Calls Try.prog 12 #[.pointer none, .agg #[.string x.key, .int .i64 (x.f 0), .int .i64 (x.f 1), .int .i64 (x.f 2), .int .i64 (x.f 3), .int .i64 (x.f 4), .int .i64 (x.f 5), .int .i64 (x.f 6), .int .i64 (x.f 7), .slice x.a x.l.length x.cap]] w fun e w' => e = .returned (.tuple #[.agg #[.int .i64 0, .int .i64 0, .int .i64 0, .int .i64 0, .int .i64 0, .int .i64 0, .int .i64 0, .int .i64 0, .slice none 0 0], .bool false, .int .i64 1]) ∧ Off (fun _ => False) w w' := by
  have hq := eql_ptr
  obtain ⟨W, hW⟩ : ∃ W, W = ((w.alloc (.cells #[.string x.key, .int .i64 (x.f 0), .int .i64 (x.f 1), .int .i64 (x.f 2), .int .i64 (x.f 3), .int .i64 (x.f 4), .int .i64 (x.f 5), .int .i64 (x.f 6), .int .i64 (x.f 7), .slice x.a x.l.length x.cap] 37)).alloc (.cells #[.int .i64 (zer 0), .int .i64 (zer 1), .int .i64 (zer 2), .int .i64 (zer 3), .int .i64 (zer 4), .int .i64 (zer 5), .int .i64 (zer 6), .int .i64 (zer 7), .slice none 0 0] 35)) := ⟨_, rfl⟩
  have O : Off (fun _ => False) w W := by rw [hW]; exact ((Off.refl _ w).alloc _).alloc _
  have C1 : Cel (w.heap.size + 1) 35 #[.int .i64 (zer 0), .int .i64 (zer 1), .int .i64 (zer 2), .int .i64 (zer 3), .int .i64 (zer 4), .int .i64 (zer 5), .int .i64 (zer 6), .int .i64 (zer 7), .slice none 0 0] W := by rw [hW]; exact Cel.new1 w _ _ _
  obtain ⟨z0, z1, z2, z3, z4, z5, z6, z7, z8⟩ := cel9 C1
  have fr := C1.free
  have HC : Hid _ := C1
  have HO : Hid _ := O
  have HW : Hid _ := hW
  clear C1 O hW
  go_enter Try.func12, Try.ntmps12
  go_upto_region 1 with fail
  rw [show ((w.alloc (.cells #[.string x.key, .int .i64 (x.f 0), .int .i64 (x.f 1), .int .i64 (x.f 2), .int .i64 (x.f 3), .int .i64 (x.f 4), .int .i64 (x.f 5), .int .i64 (x.f 6), .int .i64 (x.f 7), .slice x.a x.l.length x.cap] 37)).alloc (.cells #[.int .i64 0, .int .i64 0, .int .i64 0, .int .i64 0, .int .i64 0, .int .i64 0, .int .i64 0, .int .i64 0, .slice none 0 0] 35)) = W from HW.out.symm]
  go_wp2_with fail
  refine bodyPost_ret (results_sibs3 rfl rfl rfl rfl (HC.out.st9 zer (.slice none 0 0))) rfl ?_
  exact ⟨rfl, HO.out.st9 (.inr (by omega)) zer (.slice none 0 0)⟩
set_option maxRecDepth 100000 in
set_option maxHeartbeats 1000000 in
theorem tget_nil (k : ByteArray) (w : World) : Calls Try.prog 21 #[.pointer none, .string k] w fun e w' => e = .returned (.tuple #[.agg #[.int .i64 0, .int .i64 0, .int .i64 0, .int .i64 0, .int .i64 0, .int .i64 0, .int .i64 0, .int .i64 0, .slice none 0 0], .bool false]) ∧ Off (fun _ => False) w w' := by
  have hq := eql_ptr
  obtain ⟨W, hW⟩ : ∃ W, W = w.alloc (.cells #[.int .i64 (zer 0), .int .i64 (zer 1), .int .i64 (zer 2), .int .i64 (zer 3), .int .i64 (zer 4), .int .i64 (zer 5), .int .i64 (zer 6), .int .i64 (zer 7), .slice none 0 0] 35) := ⟨_, rfl⟩
  have O : Off (fun _ => False) w W := by rw [hW]; exact (Off.refl _ w).alloc _
  have C1 : Cel w.heap.size 35 #[.int .i64 (zer 0), .int .i64 (zer 1), .int .i64 (zer 2), .int .i64 (zer 3), .int .i64 (zer 4), .int .i64 (zer 5), .int .i64 (zer 6), .int .i64 (zer 7), .slice none 0 0] W := by rw [hW]; exact Cel.new w _ _
  obtain ⟨z0, z1, z2, z3, z4, z5, z6, z7, z8⟩ := cel9 C1
  have fr := C1.free
  have HC : Hid _ := C1
  have HO : Hid _ := O
  have HW : Hid _ := hW
  clear C1 O hW
  go_enter Try.func21, Try.ntmps21
  go_upto_region 1 with fail
  rw [show (w.alloc (.cells #[.int .i64 0, .int .i64 0, .int .i64 0, .int .i64 0, .int .i64 0, .int .i64 0, .int .i64 0, .int .i64 0, .slice none 0 0] 35)) = W from HW.out.symm]
  go_wp2_with fail
  refine bodyPost_ret (results_sibs2 rfl rfl rfl (HC.out.st9 zer (.slice none 0 0))) rfl ?_
  exact ⟨rfl, HO.out.st9 (.inr (Nat.le_refl _)) zer (.slice none 0 0)⟩
theorem tlen_nil (w : World) : Calls Try.prog 18 #[.pointer none] w fun e w' => e = .returned (.int .i64 0) ∧ Off (fun _ => False) w w' := by
  have hq := eql_ptr
  go_enter Try.func18, Try.ntmps18
  go_wp2_with fail
  go_ret
  exact ⟨rfl, Off.refl _ w⟩
theorem treap_nil (k : ByteArray) (w : World) : Calls Try.prog 23 #[.pointer none, .string k] w fun e w' => e = .returned (.bool false) ∧ Off (fun _ => False) w w' := by
  have hq := eql_ptr
  go_enter Try.func23, Try.ntmps23
  go_wp2_with fail
  go_ret
  exact ⟨rfl, Off.refl _ w⟩
theorem tcopy_nil (w : World) : Calls Try.prog 24 #[.pointer none] w fun e w' => e = .returned (.pointer none) ∧ Off (fun _ => False) w w' := by
  have hq := eql_ptr
  go_enter Try.func24, Try.ntmps24
  go_wp2_with fail
  go_ret
  exact ⟨rfl, Off.refl _ w⟩
theorem entries_nil (fv : Value) (w : World) : Calls Try.prog 36 #[.pointer none, fv] w fun e w' => e = .returned (.slice none 0 0) ∧ Off (fun _ => False) w w' := by
  have hq := eql_ptr
  go_enter Try.func36, Try.ntmps36
  go_wp2_with fail
  go_ret
  exact ⟨rfl, Off.refl _ w⟩
theorem tall_nil (w : World) : Calls Try.prog 17 #[.pointer none] w fun e w' => e = .returned (.slice none 0 0) ∧ Off (fun _ => False) w w' := by
  go_enter Try.func17, Try.ntmps17
  go_wp2_with fail
  refine (entries_nil _ w).mono ?_
  rintro e w1 ⟨rfl, o1⟩
  go_wp2_with fail
  go_ret
  exact ⟨rfl, o1⟩
theorem tbucket_nil (bb : Int) (w : World) : Calls Try.prog 19 #[.pointer none, .int .i64 bb] w fun e w' => e = .returned (.slice none 0 0) ∧ Off (fun _ => False) w w' := by
  have hmf : ∀ (fn : Fn) (first cap : Array Value) (w : World), (Instr.makeFunc fn first cap).run Try.prog w = .ok (.func fn first cap) w := fun _ _ _ _ => rfl
  go_enter Try.func19, Try.ntmps19
  go_wp2_with fail
  refine (entries_nil _ _).mono ?_
  rintro e w1 ⟨rfl, o1⟩
  go_wp2_with fail
  go_ret
  exact ⟨rfl, ((Off.refl _ w).alloc _).trans o1 (fun _ _ h => h)⟩
set_option maxRecDepth 100000 in
set_option maxHeartbeats 1000000 in
theorem nil_walk (x : E) (bb : Int) (w : World) (_ : x.key.size ≤ maxLen) (_ : Row w x.a x.cap x.l) (_ : -9223372036854775808 ≤ bb ∧ bb ≤ 9223372036854775807) : Calls Try.prog 5 #[.agg #[.string x.key, .int .i64 (x.f 0), .int .i64 (x.f 1), .int .i64 (x.f 2), .int .i64 (x.f 3), .int .i64 (x.f 4), .int .i64 (x.f 5), .int .i64 (x.f 6), .int .i64 (x.f 7), .slice x.a x.l.length x.cap], .int .i64 bb] w fun e w' => e = .returned (.bool true) ∧ Off (fun _ => False) w w' := by
  have hq0 := eql_ptr
  have hnot := not_any
  obtain ⟨W, hW⟩ : ∃ W, W = w.alloc (.cells #[.string x.key, .int .i64 (x.f 0), .int .i64 (x.f 1), .int .i64 (x.f 2), .int .i64 (x.f 3), .int .i64 (x.f 4), .int .i64 (x.f 5), .int .i64 (x.f 6), .int .i64 (x.f 7), .slice x.a x.l.length x.cap] 37) := ⟨_, rfl⟩
  have O : Off (fun _ => False) w W := by rw [hW]; exact (Off.refl _ w).alloc _
  have C : Cel w.heap.size 37 #[.string x.key, .int .i64 (x.f 0), .int .i64 (x.f 1), .int .i64 (x.f 2), .int .i64 (x.f 3), .int .i64 (x.f 4), .int .i64 (x.f 5), .int .i64 (x.f 6), .int .i64 (x.f 7), .slice x.a x.l.length x.cap] W := by rw [hW]; exact Cel.new w _ _
  have HO : Hid _ := O
  have HC : Hid _ := C
  have HW : Hid _ := hW
  obtain ⟨x0, x1, x2, x3, x4, x5, x6, x7, x8, x9⟩ := cel10 C
  clear O C hW
  go_enter Try.func5, Try.ntmps5
  go_upto_region 1 with fail
  rw [← HW.out]
  go_wp2_with fail
  refine (tjoin_nil x _).mono ?_
  rintro e w1 ⟨rfl, o1⟩
  clear x0 x1 x2 x3 x4 x5 x6 x7 x8 x9
  go_upto_region 3 with fail
  have Cq6 := Cel.new w1 35 #[.int .i64 0, .int .i64 0, .int .i64 0, .int .i64 0, .int .i64 0, .int .i64 0, .int .i64 0, .int .i64 0, .slice none 0 0]
  have OA : Off (fun _ => False) w1 (w1.alloc (.cells #[.int .i64 0, .int .i64 0, .int .i64 0, .int .i64 0, .int .i64 0, .int .i64 0, .int .i64 0, .int .i64 0, .slice none 0 0] 35)) := (Off.refl _ w1).alloc _
  generalize hv : w1.alloc (.cells #[.int .i64 0, .int .i64 0, .int .i64 0, .int .i64 0, .int .i64 0, .int .i64 0, .int .i64 0, .int .i64 0, .slice none 0 0] 35) = V6 at OA ⊢
  generalize hq : w1.heap.size = q6
  clear hv hq Cq6
  have O6 := o1.trans OA (fun _ _ h => h)
  have HO6 : Hid _ := HO.out.trans O6 (fun _ _ h => h)
  have HC6 : Hid _ := HC.out.off O6 (fun h => h)
  have x0 : V6.cell? ⟨w.heap.size, 0, none⟩ = some (.string x.key) := HC6.out.cell 0
  clear O6 OA o1
  go_wp2_with fail
  refine (tget_nil x.key _).mono ?_
  rintro e w2 ⟨rfl, o2⟩
  clear x0
  go_upto_region 4 with fail
  have Cq9 := Cel.new w2 35 #[.int .i64 0, .int .i64 0, .int .i64 0, .int .i64 0, .int .i64 0, .int .i64 0, .int .i64 0, .int .i64 0, .slice none 0 0]
  have OA : Off (fun _ => False) w2 (w2.alloc (.cells #[.int .i64 0, .int .i64 0, .int .i64 0, .int .i64 0, .int .i64 0, .int .i64 0, .int .i64 0, .int .i64 0, .slice none 0 0] 35)) := (Off.refl _ w2).alloc _
  generalize hv : w2.alloc (.cells #[.int .i64 0, .int .i64 0, .int .i64 0, .int .i64 0, .int .i64 0, .int .i64 0, .int .i64 0, .int .i64 0, .slice none 0 0] 35) = V9 at OA ⊢
  generalize hq : w2.heap.size = q9
  clear hv hq Cq9
  have O9 := o2.trans OA (fun _ _ h => h)
  have HO9 : Hid _ := HO6.out.trans O9 (fun _ _ h => h)
  have HC9 : Hid _ := HC6.out.off O9 (fun h => h)
  clear O9 OA o2
  go_wp2_with fail
  refine (tlen_nil _).mono ?_
  rintro e v1 ⟨rfl, o1⟩
  go_wp2_with fail
  refine (tall_nil _).mono ?_
  rintro e v2 ⟨rfl, o2⟩
  go_wp2_with fail
  refine (tbucket_nil bb _).mono ?_
  rintro e v3 ⟨rfl, o3⟩
  have O3 := o1.trans (o2.trans o3 (fun _ _ h => h)) (fun _ _ h => h)
  have x0 : v3.cell? ⟨w.heap.size, 0, none⟩ = some (.string x.key) := (HC9.out.off O3 (fun h => h)).cell 0
  have HO3 : Hid _ := HO9.out.trans O3 (fun _ _ h => h)
  clear O3 o1 o2 o3
  go_wp2_with fail
  refine (treap_nil x.key _).mono ?_
  rintro e v4 ⟨rfl, o4⟩
  clear x0
  go_wp2_with fail
  refine (tcopy_nil _).mono ?_
  rintro e v5 ⟨rfl, o5⟩
  go_wp2_with fail
  refine (awake_any _).mono ?_
  rintro e v6 ⟨rfl, o6⟩
  go_wp2_with fail
  go_ret
  exact ⟨rfl, HO3.out.trans (o4.trans (o5.trans o6 (fun _ _ h => h)) (fun _ _ h => h)) (fun _ _ h => h)⟩
end Go.Proofs.Ytbagahlphnafdaa
