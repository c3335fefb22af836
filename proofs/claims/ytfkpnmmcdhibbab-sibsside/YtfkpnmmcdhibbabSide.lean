/- The walk of SibsSide. -/
import Derived.Test.YtfkpnmmcdhibbabSideP
import Derived.Test.YtfkpnmmcdhibbabOrdQ
import Derived.Test.YtfkpnmmcdhibbabArg5
namespace Go.Proofs.Ytfkpnmmcdhibbab
open Go.RowKit

theorem vec_get9 (f : Nat → Int) {s : Value} {n : Nat} (h : n < 8) : (#[.int .i64 (f 0), .int .i64 (f 1), .int .i64 (f 2), .int .i64 (f 3), .int .i64 (f 4), .int .i64 (f 5), .int .i64 (f 6), .int .i64 (f 7), s] : Array Value)[n]? = some (.int .i64 (f n)) := by
  obtain rfl | rfl | rfl | rfl | rfl | rfl | rfl | rfl : n = 0 ∨ n = 1 ∨ n = 2 ∨ n = 3 ∨ n = 4 ∨ n = 5 ∨ n = 6 ∨ n = 7 := by omega
  all_goals rfl
theorem keep_cell {w w' : World} {b o : Nat} {v : Value} (hw : Off (fun _ => False) w w') (h : w.cell? ⟨b, o, none⟩ = some v) : w'.cell? ⟨b, o, none⟩ = some v := by
  rw [← h]
  exact World.cell?_of_block (a := ⟨b, o, none⟩) (hw.block b (cell_lt h) (fun h => h))
theorem idx_data (i : Nat) {g n k c : Nat} (hk : n = k) (hi : i < k := by decide) (W : World) : (Instr.indexAt 42 (.slice (some ⟨g, 0, none⟩) n c) (.int .i64 (i : Int))).run Try.prog W = .ok (.pointer (some ⟨g, i, none⟩)) W := by
  subst hk
  have hi' : i < n := hi
  go_simp
theorem exec_idx {P : Program} {ρ : Operand → Value} {o : Oper} {t : TypeId} {x ix : Operand} {v : Value} {w : World} (ho : o.op = .indexAddr t x ix) (h : (Instr.indexAt t (ρ x) (ρ ix)).run P w = .ok v w) : Sem.run P (execOp ρ o) w = .ok (.value v) w := by
  have e : execOp ρ o = (do pure (.value (← Instr.indexAt t (ρ x) (ρ ix)))) := by unfold execOp; rw [ho]
  rw [e, Sem.run_bind, h]
  rfl

set_option maxRecDepth 100000 in
set_option maxHeartbeats 8000000 in
theorem side_walk (f : Nat → Int) (a : Option Addr) (c : Nat) (l : List V) (a0 b0 : Int) (xa : Option Addr) (xc : Nat) (x : List Nat) (ya : Option Addr) (yc : Nat) (y : List Nat) (za : Option Addr) (zc : Nat) (z : List Nat) (w : World)
    (_ : ∀ j, j < 8 → -9223372036854775808 ≤ f j ∧ f j ≤ 9223372036854775807) (hr : Row w a c l) (_ : -9223372036854775808 ≤ a0 ∧ a0 ≤ 9223372036854775807) (_ : -9223372036854775808 ≤ b0 ∧ b0 ≤ 9223372036854775807) (hx : ArgB w xa x.length xc x) (hy : ArgB w ya y.length yc y) (hz : ArgB w za z.length zc z) :
    Calls Try.prog 5 #[.agg #[.int .i64 (f 0), .int .i64 (f 1), .int .i64 (f 2), .int .i64 (f 3), .int .i64 (f 4), .int .i64 (f 5), .int .i64 (f 6), .int .i64 (f 7), .slice a l.length c], .int .i64 a0, .int .i64 b0, .slice xa x.length xc, .slice ya y.length yc, .slice za z.length zc] w fun e w' => e = .returned (.bool true) ∧ Off (fun _ => False) w w' := by
  have hnot := not_any
  have rem : ∀ n : Int, ∃ k : Nat, k < 4 ∧ (IntKind.u64.wrap n).tmod 4 = (k : Int) := fun n => by
    refine ⟨((IntKind.u64.wrap n).tmod 4).toNat, ?_, ?_⟩
    all_goals
      have h0 : 0 ≤ IntKind.u64.wrap n := by
        simp only [IntKind.wrap, IntKind.bits, IntKind.signed]
        go_num
      rw [Int.tmod_eq_emod_of_nonneg h0]
      omega
  obtain ⟨na, hna, ea⟩ := rem a0
  obtain ⟨nb0, hnb0, eb⟩ := rem b0
  obtain ⟨nb, hnb1⟩ : ∃ nb, nb = 4 + nb0 := ⟨_, rfl⟩
  have eb4 : (4 : Int) + (nb0 : Int) = (nb : Int) := by omega
  have hnb : 4 ≤ nb ∧ nb < 8 := by omega
  clear rem hnb1
  have ha := at_vec w.heap.size (show na < 8 by omega)
  have hb := at_vec w.heap.size (show nb < 8 by omega)
  obtain ⟨W, hW⟩ : ∃ W, W = (w.alloc (.cells #[.int .i64 (f 0), .int .i64 (f 1), .int .i64 (f 2), .int .i64 (f 3), .int .i64 (f 4), .int .i64 (f 5), .int .i64 (f 6), .int .i64 (f 7), .slice a l.length c] 26)) := ⟨_, rfl⟩
  have O : Off (fun _ => False) w W := by rw [hW]; exact (Off.refl _ w).alloc _
  have C0 : Cel w.heap.size 26 #[.int .i64 (f 0), .int .i64 (f 1), .int .i64 (f 2), .int .i64 (f 3), .int .i64 (f 4), .int .i64 (f 5), .int .i64 (f 6), .int .i64 (f 7), .slice a l.length c] W := by rw [hW]; exact Cel.new w _ _
  have HW : Hid _ := hW.symm
  have H0 : Hid _ := C0
  have HO : Hid _ := O
  have HR : Hid _ := hr.off O
  have HSX0 : Hid _ := hx.src
  have HSY0 : Hid _ := hy.src
  have HSZ0 : Hid _ := hz.src
  have HBX : Hid _ := And.intro hx.lt hx.bound
  have HBY : Hid _ := And.intro hy.lt hy.bound
  have HBZ : Hid _ := And.intro hz.lt hz.bound
  clear hW C0 O hr hx hy hz
  cases m1 : mayS f (cont l)
  · go_enter Try.func5, Try.ntmps5
    go_wp2_with fail
    rw [HW.out]
    generalize hq0 : w.heap.size = q0 at H0 ha hb ⊢
    clear hq0
    refine (gmay_any f a c l _ HR.out).mono ?_
    rw [m1]
    rintro e w1 ⟨rfl, o1⟩
    have D0 := H0.out.off o1 (fun h => h)
    have c8 := D0.cell 8
    simp at c8
    have ka : w1.cell? ⟨q0, na, none⟩ = some (.int .i64 (f na)) := (D0.cell na).trans (vec_get9 f (by omega))
    have kb : w1.cell? ⟨q0, nb, none⟩ = some (.int .i64 (f nb)) := (D0.cell nb).trans (vec_get9 f (by omega))
    go_wp2_with fail
    refine (awake_any _).mono ?_
    rintro e w9 ⟨rfl, o9⟩
    go_wp2_with fail
    go_ret
    exact ⟨rfl, HO.out.trans (o1.trans o9 (fun _ _ h => h)) (fun _ _ h => h)⟩
  have HMY : Hid _ := may_iff.1 m1
  by_cases b0 : 10 < l.length
  · have t0 : decide ((10 : Int) < (l.length : Int)) = true := decide_eq_true (by omega)
    have s0 : decide (10 < l.length) = true := decide_eq_true (by omega)
    go_enter Try.func5, Try.ntmps5
    go_wp2_with fail
    rw [HW.out]
    generalize hq0 : w.heap.size = q0 at H0 ha hb ⊢
    clear hq0
    refine (gmay_any f a c l _ HR.out).mono ?_
    rw [m1]
    rintro e w1 ⟨rfl, o1⟩
    have D0 := H0.out.off o1 (fun h => h)
    have c8 := D0.cell 8
    simp at c8
    have ka : w1.cell? ⟨q0, na, none⟩ = some (.int .i64 (f na)) := (D0.cell na).trans (vec_get9 f (by omega))
    have kb : w1.cell? ⟨q0, nb, none⟩ = some (.int .i64 (f nb)) := (D0.cell nb).trans (vec_get9 f (by omega))
    go_wp2_with fail
    refine (awake_any _).mono ?_
    rintro e w9 ⟨rfl, o9⟩
    go_wp2_with fail
    go_ret
    exact ⟨rfl, HO.out.trans (o1.trans o9 (fun _ _ h => h)) (fun _ _ h => h)⟩
  have t0 : decide ((10 : Int) < (l.length : Int)) = false := decide_eq_false (by omega)
  have s0 : decide (10 < l.length) = false := decide_eq_false (by omega)
  by_cases b1 : 200 < x.length
  · have t1 : decide ((200 : Int) < (x.length : Int)) = true := decide_eq_true (by omega)
    have s1 : decide (200 < x.length) = true := decide_eq_true (by omega)
    go_enter Try.func5, Try.ntmps5
    go_wp2_with fail
    rw [HW.out]
    generalize hq0 : w.heap.size = q0 at H0 ha hb ⊢
    clear hq0
    refine (gmay_any f a c l _ HR.out).mono ?_
    rw [m1]
    rintro e w1 ⟨rfl, o1⟩
    have D0 := H0.out.off o1 (fun h => h)
    have c8 := D0.cell 8
    simp at c8
    have ka : w1.cell? ⟨q0, na, none⟩ = some (.int .i64 (f na)) := (D0.cell na).trans (vec_get9 f (by omega))
    have kb : w1.cell? ⟨q0, nb, none⟩ = some (.int .i64 (f nb)) := (D0.cell nb).trans (vec_get9 f (by omega))
    go_wp2_with fail
    refine (awake_any _).mono ?_
    rintro e w9 ⟨rfl, o9⟩
    go_wp2_with fail
    go_ret
    exact ⟨rfl, HO.out.trans (o1.trans o9 (fun _ _ h => h)) (fun _ _ h => h)⟩
  have t1 : decide ((200 : Int) < (x.length : Int)) = false := decide_eq_false (by omega)
  have s1 : decide (200 < x.length) = false := decide_eq_false (by omega)
  by_cases b2 : 200 < y.length
  · have t2 : decide ((200 : Int) < (y.length : Int)) = true := decide_eq_true (by omega)
    have s2 : decide (200 < y.length) = true := decide_eq_true (by omega)
    go_enter Try.func5, Try.ntmps5
    go_wp2_with fail
    rw [HW.out]
    generalize hq0 : w.heap.size = q0 at H0 ha hb ⊢
    clear hq0
    refine (gmay_any f a c l _ HR.out).mono ?_
    rw [m1]
    rintro e w1 ⟨rfl, o1⟩
    have D0 := H0.out.off o1 (fun h => h)
    have c8 := D0.cell 8
    simp at c8
    have ka : w1.cell? ⟨q0, na, none⟩ = some (.int .i64 (f na)) := (D0.cell na).trans (vec_get9 f (by omega))
    have kb : w1.cell? ⟨q0, nb, none⟩ = some (.int .i64 (f nb)) := (D0.cell nb).trans (vec_get9 f (by omega))
    go_wp2_with fail
    refine (awake_any _).mono ?_
    rintro e w9 ⟨rfl, o9⟩
    go_wp2_with fail
    go_ret
    exact ⟨rfl, HO.out.trans (o1.trans o9 (fun _ _ h => h)) (fun _ _ h => h)⟩
  have t2 : decide ((200 : Int) < (y.length : Int)) = false := decide_eq_false (by omega)
  have s2 : decide (200 < y.length) = false := decide_eq_false (by omega)
  by_cases b3 : 200 < z.length
  · have t3 : decide ((200 : Int) < (z.length : Int)) = true := decide_eq_true (by omega)
    have s3 : decide (200 < z.length) = true := decide_eq_true (by omega)
    go_enter Try.func5, Try.ntmps5
    go_wp2_with fail
    rw [HW.out]
    generalize hq0 : w.heap.size = q0 at H0 ha hb ⊢
    clear hq0
    refine (gmay_any f a c l _ HR.out).mono ?_
    rw [m1]
    rintro e w1 ⟨rfl, o1⟩
    have D0 := H0.out.off o1 (fun h => h)
    have c8 := D0.cell 8
    simp at c8
    have ka : w1.cell? ⟨q0, na, none⟩ = some (.int .i64 (f na)) := (D0.cell na).trans (vec_get9 f (by omega))
    have kb : w1.cell? ⟨q0, nb, none⟩ = some (.int .i64 (f nb)) := (D0.cell nb).trans (vec_get9 f (by omega))
    go_wp2_with fail
    refine (awake_any _).mono ?_
    rintro e w9 ⟨rfl, o9⟩
    go_wp2_with fail
    go_ret
    exact ⟨rfl, HO.out.trans (o1.trans o9 (fun _ _ h => h)) (fun _ _ h => h)⟩
  have t3 : decide ((200 : Int) < (z.length : Int)) = false := decide_eq_false (by omega)
  have s3 : decide (200 < z.length) = false := decide_eq_false (by omega)
  by_cases b4 : 1000 < f na
  · have t4 : decide (1000 < f na) = true := decide_eq_true (by omega)
    go_enter Try.func5, Try.ntmps5
    go_wp2_with fail
    rw [HW.out]
    generalize hq0 : w.heap.size = q0 at H0 ha hb ⊢
    clear hq0
    refine (gmay_any f a c l _ HR.out).mono ?_
    rw [m1]
    rintro e w1 ⟨rfl, o1⟩
    have D0 := H0.out.off o1 (fun h => h)
    have c8 := D0.cell 8
    simp at c8
    have ka : w1.cell? ⟨q0, na, none⟩ = some (.int .i64 (f na)) := (D0.cell na).trans (vec_get9 f (by omega))
    have kb : w1.cell? ⟨q0, nb, none⟩ = some (.int .i64 (f nb)) := (D0.cell nb).trans (vec_get9 f (by omega))
    go_wp2_with fail
    refine (awake_any _).mono ?_
    rintro e w9 ⟨rfl, o9⟩
    go_wp2_with fail
    go_ret
    exact ⟨rfl, HO.out.trans (o1.trans o9 (fun _ _ h => h)) (fun _ _ h => h)⟩
  have t4 : decide (1000 < f na) = false := decide_eq_false (by omega)
  by_cases b5 : 1000 < f nb
  · have t5 : decide (1000 < f nb) = true := decide_eq_true (by omega)
    go_enter Try.func5, Try.ntmps5
    go_wp2_with fail
    rw [HW.out]
    generalize hq0 : w.heap.size = q0 at H0 ha hb ⊢
    clear hq0
    refine (gmay_any f a c l _ HR.out).mono ?_
    rw [m1]
    rintro e w1 ⟨rfl, o1⟩
    have D0 := H0.out.off o1 (fun h => h)
    have c8 := D0.cell 8
    simp at c8
    have ka : w1.cell? ⟨q0, na, none⟩ = some (.int .i64 (f na)) := (D0.cell na).trans (vec_get9 f (by omega))
    have kb : w1.cell? ⟨q0, nb, none⟩ = some (.int .i64 (f nb)) := (D0.cell nb).trans (vec_get9 f (by omega))
    go_wp2_with fail
    refine (awake_any _).mono ?_
    rintro e w9 ⟨rfl, o9⟩
    go_wp2_with fail
    go_ret
    exact ⟨rfl, HO.out.trans (o1.trans o9 (fun _ _ h => h)) (fun _ _ h => h)⟩
  have t5 : decide (1000 < f nb) = false := decide_eq_false (by omega)
  go_enter Try.func5, Try.ntmps5
  go_wp2_with fail
  rw [HW.out]
  generalize hq0 : w.heap.size = q0 at H0 ha hb ⊢
  clear hq0
  refine (gmay_any f a c l _ HR.out).mono ?_
  rw [m1]
  rintro e w1 ⟨rfl, o1⟩
  have D0 := H0.out.off o1 (fun h => h)
  have c8 := D0.cell 8
  simp at c8
  have ka : w1.cell? ⟨q0, na, none⟩ = some (.int .i64 (f na)) := (D0.cell na).trans (vec_get9 f (by omega))
  have kb : w1.cell? ⟨q0, nb, none⟩ = some (.int .i64 (f nb)) := (D0.cell nb).trans (vec_get9 f (by omega))
  have HD0 : Hid _ := D0
  have HO1 : Hid _ := o1
  clear D0 o1
  obtain ⟨e1, e2, e3, e4⟩ := put_seen (data := x) HMY.out (show na < 8 by omega) (by omega) (by omega)
  obtain ⟨d1, d2, d3, d4⟩ := put_seen (data := y) HMY.out (show nb < 8 by omega) (by omega) (by omega)
  have HE : Hid _ := And.intro e1 (And.intro e2 (And.intro e3 e4))
  have HD : Hid _ := And.intro d1 (And.intro d2 (And.intro d3 d4))
  clear e1 e2 e3 e4 d1 d2 d3 d4
  obtain ⟨x0, x1, x2, x3, x4, x5, x6, x7, x8⟩ := cel9 HD0.out
  go_wp2_with fail
  clear c8 ka kb
  refine (sput_any f f a c l (na : Int) (by omega) xa xc x false _ (HR.out.off HO1.out) (HSX0.out.off (HO.out.trans HO1.out (fun _ _ h => h)) (fun _ _ _ h => h)) HBX.out.1 HBX.out.2).mono ?_
  rintro e w2 ⟨fp, ap, cp, lp, er, rfl, her, hfp, hlp, mdp, o2⟩
  rw [HE.out.1] at her
  subst her
  have HFP : Hid _ := hfp.trans HE.out.2.2.1
  have HLP : Hid _ := hlp.trans HE.out.2.1
  clear hfp hlp x0 x1 x2 x3 x4 x5 x6 x7 x8
  go_upto_region 5 with fail
  have Cqp := Cel.new w2 26 #[.int .i64 (fp 0), .int .i64 (fp 1), .int .i64 (fp 2), .int .i64 (fp 3), .int .i64 (fp 4), .int .i64 (fp 5), .int .i64 (fp 6), .int .i64 (fp 7), .slice ap lp.length cp]
  have OA : Off (fun _ => False) w2 (w2.alloc (.cells #[.int .i64 (fp 0), .int .i64 (fp 1), .int .i64 (fp 2), .int .i64 (fp 3), .int .i64 (fp 4), .int .i64 (fp 5), .int .i64 (fp 6), .int .i64 (fp 7), .slice ap lp.length cp] 26)) := (Off.refl _ w2).alloc _
  generalize hq : w2.heap.size = qp at Cqp ⊢
  generalize hv : w2.alloc (.cells #[.int .i64 (fp 0), .int .i64 (fp 1), .int .i64 (fp 2), .int .i64 (fp 3), .int .i64 (fp 4), .int .i64 (fp 5), .int .i64 (fp 6), .int .i64 (fp 7), .slice ap lp.length cp] 26) = Vqp at Cqp OA ⊢
  clear hq hv
  have HMP : Hid _ := mdp.row.off OA
  have HGP : Hid _ := Cqp
  have O2 := HO1.out.trans (o2.trans OA (fun _ _ h => h)) (fun _ _ h => h)
  have HO2 : Hid _ := O2
  clear mdp Cqp OA o2
  obtain ⟨x0, x1, x2, x3, x4, x5, x6, x7, x8⟩ := cel9 (H0.out.off O2 (fun h => h))
  clear O2
  go_wp2_with fail
  refine (sput_any f f a c l (nb : Int) (by omega) ya yc y false _ (HR.out.off HO2.out) (HSY0.out.off (HO.out.trans HO2.out (fun _ _ h => h)) (fun _ _ _ h => h)) HBY.out.1 HBY.out.2).mono ?_
  rintro e w3 ⟨fq, aq, cq, lq, er, rfl, her, hfq, hlq, mdq, o3⟩
  rw [HD.out.1] at her
  subst her
  have HFQ : Hid _ := hfq.trans HD.out.2.2.1
  have HLQ : Hid _ := hlq.trans HD.out.2.1
  clear hfq hlq x0 x1 x2 x3 x4 x5 x6 x7 x8
  go_upto_region 6 with fail
  have Cqq := Cel.new w3 26 #[.int .i64 (fq 0), .int .i64 (fq 1), .int .i64 (fq 2), .int .i64 (fq 3), .int .i64 (fq 4), .int .i64 (fq 5), .int .i64 (fq 6), .int .i64 (fq 7), .slice aq lq.length cq]
  have OA : Off (fun _ => False) w3 (w3.alloc (.cells #[.int .i64 (fq 0), .int .i64 (fq 1), .int .i64 (fq 2), .int .i64 (fq 3), .int .i64 (fq 4), .int .i64 (fq 5), .int .i64 (fq 6), .int .i64 (fq 7), .slice aq lq.length cq] 26)) := (Off.refl _ w3).alloc _
  generalize hq : w3.heap.size = qq at Cqq ⊢
  generalize hv : w3.alloc (.cells #[.int .i64 (fq 0), .int .i64 (fq 1), .int .i64 (fq 2), .int .i64 (fq 3), .int .i64 (fq 4), .int .i64 (fq 5), .int .i64 (fq 6), .int .i64 (fq 7), .slice aq lq.length cq] 26) = Vqq at Cqq OA ⊢
  clear hq hv
  have HMQ : Hid _ := mdq.row.off OA
  have HGQ : Hid _ := Cqq
  have O3 := o3.trans OA (fun _ _ h => h)
  have HMP3 : Hid _ := HMP.out.off O3
  have HGP3 : Hid _ := HGP.out.off O3 (fun h => h)
  have HO3 : Hid _ := HO2.out.trans O3 (fun _ _ h => h)
  clear mdq Cqq OA o3 O3 HMP HGP HO2
  obtain ⟨x0, x1, x2, x3, x4, x5, x6, x7, x8⟩ := cel9 HGP3.out
  obtain ⟨y0, y1, y2, y3, y4, y5, y6, y7, y8⟩ := cel9 HGQ.out
  go_wp2_with fail
  refine (sjoin_any fp fq ap aq cp cq lp lq _ HMP3.out HMQ.out).mono ?_
  rintro e w4 ⟨j, aj, cj, lj, rfl, hj, hlj, mdj, o4⟩
  have hsj := side_join (show na < 4 by omega) hnb HE.out.2.2.2 HD.out.2.2.2
  rw [HFP.out, HFQ.out, HLP.out, HLQ.out, hsj.2] at hj
  rw [HFP.out, HFQ.out, HLP.out, HLQ.out, hsj.1] at hlj
  have HJV : Hid _ := hj
  have HLJ : Hid _ := hlj
  have hmj : MayP j (cont lj) := by
    have := join_ok HE.out.2.2.2 HD.out.2.2.2
    rw [hsj.1, hsj.2, ← hj, ← hlj] at this
    exact this
  have HMJ : Hid _ := hmj
  clear hj hlj hsj hmj x0 x1 x2 x3 x4 x5 x6 x7 x8 y0 y1 y2 y3 y4 y5 y6 y7 y8
  go_upto_region 9 with fail
  have Cqj := Cel.new w4 26 #[.int .i64 (j 0), .int .i64 (j 1), .int .i64 (j 2), .int .i64 (j 3), .int .i64 (j 4), .int .i64 (j 5), .int .i64 (j 6), .int .i64 (j 7), .slice aj lj.length cj]
  have OA : Off (fun _ => False) w4 (w4.alloc (.cells #[.int .i64 (j 0), .int .i64 (j 1), .int .i64 (j 2), .int .i64 (j 3), .int .i64 (j 4), .int .i64 (j 5), .int .i64 (j 6), .int .i64 (j 7), .slice aj lj.length cj] 26)) := (Off.refl _ w4).alloc _
  generalize hq : w4.heap.size = qj at Cqj ⊢
  generalize hv : w4.alloc (.cells #[.int .i64 (j 0), .int .i64 (j 1), .int .i64 (j 2), .int .i64 (j 3), .int .i64 (j 4), .int .i64 (j 5), .int .i64 (j 6), .int .i64 (j 7), .slice aj lj.length cj] 26) = Vqj at Cqj OA ⊢
  clear hq hv
  have HRJ : Hid _ := mdj.row.off OA
  have HGJ : Hid _ := Cqj
  have HO4 : Hid _ := HO3.out.trans (o4.trans OA (fun _ _ h => h)) (fun _ _ h => h)
  clear mdj Cqj OA o4
  obtain ⟨x0, x1, x2, x3, x4, x5, x6, x7, x8⟩ := cel9 HGJ.out
  go_wp2_with fail
  refine (slive_any j aj cj lj _ HRJ.out).mono ?_
  rw [if_pos (may_yes HMJ.out), HLJ.out]
  rintro e w5 ⟨tl, cl, bl, rfl, ol, sl, hbl, o5⟩
  obtain ⟨p0, p1, rfl⟩ : ∃ p0 p1, bl = [p0, p1] := by
    match bl, hbl with
    | [p0, p1], _ => exact ⟨p0, p1, rfl⟩
  obtain ⟨hb0, hb1⟩ : p0.data = x ∧ p1.data = y := by simpa [liveA] using hbl
  obtain ⟨gb, rfl, hc0⟩ := ol.at_ bcs_len (i := 0) (x := p0) rfl
  obtain ⟨gb', hgb, hc1⟩ := ol.at_ bcs_len (i := 1) (x := p1) rfl
  simp only [Option.some.injEq, Addr.mk.injEq, and_true] at hgb
  subst hgb
  have HP0 : Hid (w5.cell? ⟨gb, 0, none⟩ = some (.slice p0.ad p0.data.length p0.cap)) := hc0 0 _ rfl
  have HP1 : Hid (w5.cell? ⟨gb, 1, none⟩ = some (.slice p1.ad p1.data.length p1.cap)) := hc1 0 _ rfl
  have HS0 : Hid _ := (sl p0 (by simp)).1
  have HS1 : Hid _ := (sl p1 (by simp)).1
  have HX0 : Hid ((strOf p0.data).toList = (strOf x).toList) := by show _ = _; rw [hb0]
  have HX1 : Hid ((strOf p1.data).toList = (strOf y).toList) := by show _ = _; rw [hb1]
  obtain ⟨bl, ebl⟩ : ∃ bl, bl = [p0, p1] := ⟨_, rfl⟩
  rw [← ebl]
  have HBLp : Hid (bl.length = 2) := by show _ = 2; rw [ebl]; rfl
  have HBL2 : Hid (((bl.length : Int) != 2) = false) := by show _ = false; rw [HBLp.out]; rfl
  have HLJ2 : Hid (((lj.length : Int) != 2) = false) := by
    show _ = false
    have := congrArg List.length HLJ.out
    rw [cont_len] at this
    rw [this]
    rfl
  have HO5 : Hid _ := HO4.out.trans o5 (fun _ _ h => h)
  have GJ : Hid _ := HGJ.out.off o5 (fun h => h)
  have HRJ5 : Hid _ := HRJ.out.off o5
  have HSX : Hid _ := HSX0.out.off (HO.out.trans HO5.out (fun _ _ h => h)) (fun _ _ _ h => h)
  have HSY : Hid _ := HSY0.out.off (HO.out.trans HO5.out (fun _ _ h => h)) (fun _ _ _ h => h)
  clear ebl hb0 hb1 hc0 hc1 ol sl hbl o5 HRJ HGJ HO4 HO3 x0 x1 x2 x3 x4 x5 x6 x7 x8
  go_wp2_with fail
  refine wp_region_held_drew (S := fun w' => Off (fun _ => False) w5 w') (by kernel_rfl) ((Off.refl _ w5).drew) (fun hS => ?_)
  refine take_at (i := 0) 99 (v := .pointer (some ⟨qj, 8, none⟩)) rfl rfl (by kernel_rfl) (by kernel_rfl) (by kernel_rfl) (fun _ _ _ h => h) (Or.inl ⟨by rfl, fun w' hw' => by go_simp⟩) hS ?_
  simp only [Act.put, List.setIfInBounds_toArray, List.set_cons_zero, List.set_cons_succ]
  refine take_at (i := 1) 100 (v := .slice aj lj.length cj) rfl rfl (by kernel_rfl) (by kernel_rfl) (by kernel_rfl) (fun _ _ _ h => h) (Or.inl ⟨by rfl, fun w' hw' => by obtain ⟨x0, x1, x2, x3, x4, x5, x6, x7, x8⟩ := cel9 (GJ.out.off hw' (fun h => h)); go_simp⟩) hS ?_
  simp only [Act.put, List.setIfInBounds_toArray, List.set_cons_zero, List.set_cons_succ]
  refine take_at (i := 2) 101 (v := .int .i64 (lj.length : Int)) rfl rfl (by kernel_rfl) (by kernel_rfl) (by kernel_rfl) (fun _ _ _ h => h) (Or.inl ⟨by rfl, fun w' hw' => by go_simp⟩) hS ?_
  simp only [Act.put, List.setIfInBounds_toArray, List.set_cons_zero, List.set_cons_succ]
  refine take_at (i := 3) 102 (v := .bool false) rfl rfl (by kernel_rfl) (by kernel_rfl) (by kernel_rfl) (fun _ _ _ h => h) (Or.inl ⟨by rfl, fun w' hw' => by have e := HLJ2.out; go_simp⟩) hS ?_
  simp only [Act.put, List.setIfInBounds_toArray, List.set_cons_zero, List.set_cons_succ]
  refine take_at (i := 4) 103 (v := .bool false) rfl rfl (by kernel_rfl) (by kernel_rfl) (by kernel_rfl) (fun _ _ _ h => h) (Or.inl ⟨by rfl, fun w' hw' => by go_simp⟩) hS ?_
  simp only [Act.put, List.setIfInBounds_toArray, List.set_cons_zero, List.set_cons_succ]
  refine take_at (i := 5) 104 (v := .slice (some ⟨gb, 0, none⟩) bl.length cl) rfl rfl (by kernel_rfl) (by kernel_rfl) (by kernel_rfl) (fun _ _ _ h => h) (Or.inl ⟨by rfl, fun w' hw' => by go_simp⟩) hS ?_
  simp only [Act.put, List.setIfInBounds_toArray, List.set_cons_zero, List.set_cons_succ]
  refine take_at (i := 6) 105 (v := .int .i64 (bl.length : Int)) rfl rfl (by kernel_rfl) (by kernel_rfl) (by kernel_rfl) (fun _ _ _ h => h) (Or.inl ⟨by rfl, fun w' hw' => by go_simp⟩) hS ?_
  simp only [Act.put, List.setIfInBounds_toArray, List.set_cons_zero, List.set_cons_succ]
  refine take_at (i := 7) 106 (v := .bool false) rfl rfl (by kernel_rfl) (by kernel_rfl) (by kernel_rfl) (fun _ _ _ h => h) (Or.inl ⟨by rfl, fun w' hw' => by have e := HBL2.out; go_simp⟩) hS ?_
  simp only [Act.put, List.setIfInBounds_toArray, List.set_cons_zero, List.set_cons_succ]
  refine take_at (i := 8) 107 (v := .bool false) rfl rfl (by kernel_rfl) (by kernel_rfl) (by kernel_rfl) (fun _ _ _ h => h) (Or.inl ⟨by rfl, fun w' hw' => by go_simp⟩) hS ?_
  simp only [Act.put, List.setIfInBounds_toArray, List.set_cons_zero, List.set_cons_succ]
  refine take_at (i := 9) 108 (v := .bool false) rfl rfl (by kernel_rfl) (by kernel_rfl) (by kernel_rfl) (fun _ _ _ h => h) (Or.inl ⟨by rfl, fun w' hw' => by go_simp⟩) hS ?_
  simp only [Act.put, List.setIfInBounds_toArray, List.set_cons_zero, List.set_cons_succ]
  refine take_at (i := 10) 109 (v := .slice (some ⟨gb, 0, none⟩) bl.length cl) rfl rfl (by kernel_rfl) (by kernel_rfl) (by kernel_rfl) (fun _ _ _ h => h) (Or.inl ⟨by rfl, fun w' hw' => by go_simp⟩) hS ?_
  simp only [Act.put, List.setIfInBounds_toArray, List.set_cons_zero, List.set_cons_succ]
  refine take_at (i := 11) 110 (v := .pointer (some ⟨gb, 0, none⟩)) rfl rfl (by kernel_rfl) (by kernel_rfl) (by kernel_rfl) (fun _ _ _ h => h) (Or.inl ⟨by rfl, fun w' hw' => exec_idx rfl (idx_data 0 HBLp.out (by decide) w')⟩) hS ?_
  simp only [Act.put, List.setIfInBounds_toArray, List.set_cons_zero, List.set_cons_succ]
  refine take_at (i := 12) 111 (v := .slice p0.ad p0.data.length p0.cap) rfl rfl (by kernel_rfl) (by kernel_rfl) (by kernel_rfl) (fun _ _ _ h => h) (Or.inl ⟨by rfl, fun w' hw' => by have e := keep_cell hw' HP0.out; go_simp⟩) hS ?_
  simp only [Act.put, List.setIfInBounds_toArray, List.set_cons_zero, List.set_cons_succ]
  refine take_at (i := 13) 112 (v := .string (strOf p0.data)) rfl rfl (by kernel_rfl) (by kernel_rfl) (by kernel_rfl) (fun _ _ _ h => h) (Or.inl ⟨by rfl, fun w' hw' => by have e := conv_src (HS0.out.off hw' (fun _ _ _ h => h)); go_simp⟩) hS ?_
  simp only [Act.put, List.setIfInBounds_toArray, List.set_cons_zero, List.set_cons_succ]
  refine take_at (i := 14) 113 (v := .slice xa x.length xc) rfl rfl (by kernel_rfl) (by kernel_rfl) (by kernel_rfl) (fun _ _ _ h => h) (Or.inl ⟨by rfl, fun w' hw' => by go_simp⟩) hS ?_
  simp only [Act.put, List.setIfInBounds_toArray, List.set_cons_zero, List.set_cons_succ]
  refine take_at (i := 15) 114 (v := .string (strOf x)) rfl rfl (by kernel_rfl) (by kernel_rfl) (by kernel_rfl) (fun _ _ _ h => h) (Or.inl ⟨by rfl, fun w' hw' => by have e := conv_src (HSX.out.off hw' (fun _ _ _ h => h)); go_simp⟩) hS ?_
  simp only [Act.put, List.setIfInBounds_toArray, List.set_cons_zero, List.set_cons_succ]
  refine take_at (i := 16) 115 (v := .bool false) rfl rfl (by kernel_rfl) (by kernel_rfl) (by kernel_rfl) (fun _ _ _ h => h) (Or.inl ⟨by rfl, fun w' hw' => by have e := HX0.out; go_simp⟩) hS ?_
  simp only [Act.put, List.setIfInBounds_toArray, List.set_cons_zero, List.set_cons_succ]
  refine take_at (i := 17) 116 (v := .bool false) rfl rfl (by kernel_rfl) (by kernel_rfl) (by kernel_rfl) (fun _ _ _ h => h) (Or.inl ⟨by rfl, fun w' hw' => by go_simp⟩) hS ?_
  simp only [Act.put, List.setIfInBounds_toArray, List.set_cons_zero, List.set_cons_succ]
  refine take_at (i := 18) 117 (v := .bool false) rfl rfl (by kernel_rfl) (by kernel_rfl) (by kernel_rfl) (fun _ _ _ h => h) (Or.inl ⟨by rfl, fun w' hw' => by go_simp⟩) hS ?_
  simp only [Act.put, List.setIfInBounds_toArray, List.set_cons_zero, List.set_cons_succ]
  refine take_at (i := 19) 118 (v := .slice (some ⟨gb, 0, none⟩) bl.length cl) rfl rfl (by kernel_rfl) (by kernel_rfl) (by kernel_rfl) (fun _ _ _ h => h) (Or.inl ⟨by rfl, fun w' hw' => by go_simp⟩) hS ?_
  simp only [Act.put, List.setIfInBounds_toArray, List.set_cons_zero, List.set_cons_succ]
  refine take_at (i := 20) 119 (v := .pointer (some ⟨gb, 1, none⟩)) rfl rfl (by kernel_rfl) (by kernel_rfl) (by kernel_rfl) (fun _ _ _ h => h) (Or.inl ⟨by rfl, fun w' hw' => exec_idx rfl (idx_data 1 HBLp.out (by decide) w')⟩) hS ?_
  simp only [Act.put, List.setIfInBounds_toArray, List.set_cons_zero, List.set_cons_succ]
  refine take_at (i := 21) 120 (v := .slice p1.ad p1.data.length p1.cap) rfl rfl (by kernel_rfl) (by kernel_rfl) (by kernel_rfl) (fun _ _ _ h => h) (Or.inl ⟨by rfl, fun w' hw' => by have e := keep_cell hw' HP1.out; go_simp⟩) hS ?_
  simp only [Act.put, List.setIfInBounds_toArray, List.set_cons_zero, List.set_cons_succ]
  refine take_at (i := 22) 121 (v := .string (strOf p1.data)) rfl rfl (by kernel_rfl) (by kernel_rfl) (by kernel_rfl) (fun _ _ _ h => h) (Or.inl ⟨by rfl, fun w' hw' => by have e := conv_src (HS1.out.off hw' (fun _ _ _ h => h)); go_simp⟩) hS ?_
  simp only [Act.put, List.setIfInBounds_toArray, List.set_cons_zero, List.set_cons_succ]
  refine take_at (i := 23) 122 (v := .slice ya y.length yc) rfl rfl (by kernel_rfl) (by kernel_rfl) (by kernel_rfl) (fun _ _ _ h => h) (Or.inl ⟨by rfl, fun w' hw' => by go_simp⟩) hS ?_
  simp only [Act.put, List.setIfInBounds_toArray, List.set_cons_zero, List.set_cons_succ]
  refine take_at (i := 24) 123 (v := .string (strOf y)) rfl rfl (by kernel_rfl) (by kernel_rfl) (by kernel_rfl) (fun _ _ _ h => h) (Or.inl ⟨by rfl, fun w' hw' => by have e := conv_src (HSY.out.off hw' (fun _ _ _ h => h)); go_simp⟩) hS ?_
  simp only [Act.put, List.setIfInBounds_toArray, List.set_cons_zero, List.set_cons_succ]
  refine take_at (i := 25) 124 (v := .bool false) rfl rfl (by kernel_rfl) (by kernel_rfl) (by kernel_rfl) (fun _ _ _ h => h) (Or.inl ⟨by rfl, fun w' hw' => by have e := HX1.out; go_simp⟩) hS ?_
  simp only [Act.put, List.setIfInBounds_toArray, List.set_cons_zero, List.set_cons_succ]
  refine take_at (i := 26) 125 (v := .bool false) rfl rfl (by kernel_rfl) (by kernel_rfl) (by kernel_rfl) (fun _ _ _ h => h) (Or.inl ⟨by rfl, fun w' hw' => by go_simp⟩) hS ?_
  simp only [Act.put, List.setIfInBounds_toArray, List.set_cons_zero, List.set_cons_succ]
  refine wpAnyH_done (by kernel_rfl) ?_ _
  have HRJ6 : Hid _ := HRJ5.out.off hS
  have HGJ6 : Hid _ := GJ.out.off hS (fun h => h)
  have HO6 : Hid _ := HO5.out.trans hS (fun _ _ h => h)
  clear HRJ5 GJ HO5 HP0 HP1 HS0 HS1 HX0 HX1 HSX HSY hS
  have hjn : j na = f na + 1 := by rw [HJV.out]; exact side_val (show na < 4 by omega) hnb
  obtain ⟨e1, e2, e3, e4⟩ := put_seen (data := z) HMJ.out (show na < 8 by omega) (by omega) (by omega)
  have HE2 : Hid _ := And.intro e1 (And.intro e2 (And.intro e3 e4))
  clear e1 e2 e3 e4 hjn
  obtain ⟨x0, x1, x2, x3, x4, x5, x6, x7, x8⟩ := cel9 HGJ6.out
  go_wp2_with fail
  refine (sput_any j j aj cj lj (na : Int) (by omega) za zc z false _ HRJ6.out (HSZ0.out.off (HO.out.trans HO6.out (fun _ _ h => h)) (fun _ _ _ h => h)) HBZ.out.1 HBZ.out.2).mono ?_
  rintro e w7 ⟨fr, ar, cr, lr, er, rfl, her, hfr, hlr, mdr, o7⟩
  rw [HE2.out.1] at her
  subst her
  have HFR : Hid _ := hfr.trans HE2.out.2.2.1
  have HLR : Hid _ := hlr.trans HE2.out.2.1
  clear hfr hlr x0 x1 x2 x3 x4 x5 x6 x7 x8
  go_upto_region 13 with fail
  have Cqr := Cel.new w7 26 #[.int .i64 (fr 0), .int .i64 (fr 1), .int .i64 (fr 2), .int .i64 (fr 3), .int .i64 (fr 4), .int .i64 (fr 5), .int .i64 (fr 6), .int .i64 (fr 7), .slice ar lr.length cr]
  have OA : Off (fun _ => False) w7 (w7.alloc (.cells #[.int .i64 (fr 0), .int .i64 (fr 1), .int .i64 (fr 2), .int .i64 (fr 3), .int .i64 (fr 4), .int .i64 (fr 5), .int .i64 (fr 6), .int .i64 (fr 7), .slice ar lr.length cr] 26)) := (Off.refl _ w7).alloc _
  generalize hq : w7.heap.size = qr at Cqr ⊢
  generalize hv : w7.alloc (.cells #[.int .i64 (fr 0), .int .i64 (fr 1), .int .i64 (fr 2), .int .i64 (fr 3), .int .i64 (fr 4), .int .i64 (fr 5), .int .i64 (fr 6), .int .i64 (fr 7), .slice ar lr.length cr] 26) = Vqr at Cqr OA ⊢
  clear hq hv
  have HMR : Hid _ := mdr.row.off OA
  have HGR : Hid _ := Cqr
  have O7 := o7.trans OA (fun _ _ h => h)
  have HRJ7 : Hid _ := HRJ6.out.off O7
  have HGJ7 : Hid _ := HGJ6.out.off O7 (fun h => h)
  have HO7 : Hid _ := HO6.out.trans O7 (fun _ _ h => h)
  clear mdr Cqr OA o7 O7 HRJ6 HGJ6 HO6
  obtain ⟨x0, x1, x2, x3, x4, x5, x6, x7, x8⟩ := cel9 HGR.out
  obtain ⟨y0, y1, y2, y3, y4, y5, y6, y7, y8⟩ := cel9 HGJ7.out
  go_wp2_with fail
  refine (sjoin_any fr j ar aj cr cj lr lj _ HMR.out HRJ7.out).mono ?_
  rintro e w8 ⟨jj, aa, cc, ll, rfl, hjj, hll, mdd, o8⟩
  have hov := over_join (z := z) (show na < 8 by omega) HMJ.out HE2.out.2.2.2
  rw [HFR.out, HLR.out, hov] at hll
  have hmm : MayP jj (cont ll) := by
    have := join_ok HE2.out.2.2.2 HMJ.out
    rw [hov] at this
    rw [hll, hjj, HFR.out, HLR.out]
    exact this
  have HLL : Hid _ := hll
  have HMM : Hid _ := hmm
  have HRL : Hid _ := mdd.row
  have HO8 : Hid _ := HO7.out.trans o8 (fun _ _ h => h)
  clear hll hmm hjj hov mdd o8 x0 x1 x2 x3 x4 x5 x6 x7 x8 y0 y1 y2 y3 y4 y5 y6 y7 y8
  go_wp2_with fail
  refine (slive_any jj aa cc ll _ HRL.out).mono ?_
  rw [if_pos (may_yes HMM.out), HLL.out]
  rintro e wA ⟨tk, ck, kl, rfl, ok, sk, hkl, oA⟩
  obtain ⟨r0, rfl⟩ : ∃ r0, kl = [r0] := by
    match kl, hkl with
    | [r0], _ => exact ⟨r0, rfl⟩
  have hb2 : r0.data = z := by simpa [liveA] using hkl
  obtain ⟨gk, rfl, hc2⟩ := ok.at_ bcs_len (i := 0) (x := r0) rfl
  have HR0 : Hid (wA.cell? ⟨gk, 0, none⟩ = some (.slice r0.ad r0.data.length r0.cap)) := hc2 0 _ rfl
  have HSR : Hid _ := (sk r0 (by simp)).1
  have HX2 : Hid (((strOf r0.data).toList == (strOf z).toList) = true) := by show _ = true; rw [hb2]; simp
  obtain ⟨kl, ekl⟩ : ∃ kl, kl = [r0] := ⟨_, rfl⟩
  rw [← ekl]
  have HKLp : Hid (kl.length = 1) := by show _ = 1; rw [ekl]; rfl
  have HKL1 : Hid (((kl.length : Int) == 1) = true) := by show _ = true; rw [HKLp.out]; rfl
  have HOA : Hid _ := HO8.out.trans oA (fun _ _ h => h)
  have HSZ : Hid _ := HSZ0.out.off (HO.out.trans HOA.out (fun _ _ h => h)) (fun _ _ _ h => h)
  clear ekl hb2 hc2 ok sk hkl oA
  go_wp2_with fail
  refine wp_region_held_drew (S := fun w' => Off (fun _ => False) wA w') (by kernel_rfl) ((Off.refl _ wA).drew) (fun hS => ?_)
  refine take_at (i := 0) 139 (v := .int .i64 0) rfl rfl (by kernel_rfl) (by kernel_rfl) (by kernel_rfl) (fun _ _ _ h => h) (Or.inl ⟨by rfl, fun w' hw' => by go_simp⟩) hS ?_
  simp only [Act.put, List.setIfInBounds_toArray, List.set_cons_zero, List.set_cons_succ]
  refine take_at (i := 1) 140 (v := .bool true) rfl rfl (by kernel_rfl) (by kernel_rfl) (by kernel_rfl) (fun _ _ _ h => h) (Or.inl ⟨by rfl, fun w' hw' => by go_simp⟩) hS ?_
  simp only [Act.put, List.setIfInBounds_toArray, List.set_cons_zero, List.set_cons_succ]
  refine take_at (i := 2) 141 (v := .bool true) rfl rfl (by kernel_rfl) (by kernel_rfl) (by kernel_rfl) (fun _ _ _ h => h) (Or.inl ⟨by rfl, fun w' hw' => by go_simp⟩) hS ?_
  simp only [Act.put, List.setIfInBounds_toArray, List.set_cons_zero, List.set_cons_succ]
  refine take_at (i := 3) 142 (v := .slice (some ⟨gk, 0, none⟩) kl.length ck) rfl rfl (by kernel_rfl) (by kernel_rfl) (by kernel_rfl) (fun _ _ _ h => h) (Or.inl ⟨by rfl, fun w' hw' => by go_simp⟩) hS ?_
  simp only [Act.put, List.setIfInBounds_toArray, List.set_cons_zero, List.set_cons_succ]
  refine take_at (i := 4) 143 (v := .int .i64 (kl.length : Int)) rfl rfl (by kernel_rfl) (by kernel_rfl) (by kernel_rfl) (fun _ _ _ h => h) (Or.inl ⟨by rfl, fun w' hw' => by go_simp⟩) hS ?_
  simp only [Act.put, List.setIfInBounds_toArray, List.set_cons_zero, List.set_cons_succ]
  refine take_at (i := 5) 144 (v := .bool true) rfl rfl (by kernel_rfl) (by kernel_rfl) (by kernel_rfl) (fun _ _ _ h => h) (Or.inl ⟨by rfl, fun w' hw' => by have e := HKL1.out; go_simp⟩) hS ?_
  simp only [Act.put, List.setIfInBounds_toArray, List.set_cons_zero, List.set_cons_succ]
  refine take_at (i := 6) 145 (v := .bool true) rfl rfl (by kernel_rfl) (by kernel_rfl) (by kernel_rfl) (fun _ _ _ h => h) (Or.inl ⟨by rfl, fun w' hw' => by go_simp⟩) hS ?_
  simp only [Act.put, List.setIfInBounds_toArray, List.set_cons_zero, List.set_cons_succ]
  refine take_at (i := 7) 146 (v := .bool true) rfl rfl (by kernel_rfl) (by kernel_rfl) (by kernel_rfl) (fun _ _ _ h => h) (Or.inl ⟨by rfl, fun w' hw' => by go_simp⟩) hS ?_
  simp only [Act.put, List.setIfInBounds_toArray, List.set_cons_zero, List.set_cons_succ]
  refine take_at (i := 8) 147 (v := .slice (some ⟨gk, 0, none⟩) kl.length ck) rfl rfl (by kernel_rfl) (by kernel_rfl) (by kernel_rfl) (fun _ _ _ h => h) (Or.inl ⟨by rfl, fun w' hw' => by go_simp⟩) hS ?_
  simp only [Act.put, List.setIfInBounds_toArray, List.set_cons_zero, List.set_cons_succ]
  refine take_at (i := 9) 148 (v := .pointer (some ⟨gk, 0, none⟩)) rfl rfl (by kernel_rfl) (by kernel_rfl) (by kernel_rfl) (fun _ _ _ h => h) (Or.inl ⟨by rfl, fun w' hw' => exec_idx rfl (idx_data 0 HKLp.out (by decide) w')⟩) hS ?_
  simp only [Act.put, List.setIfInBounds_toArray, List.set_cons_zero, List.set_cons_succ]
  refine take_at (i := 10) 149 (v := .slice r0.ad r0.data.length r0.cap) rfl rfl (by kernel_rfl) (by kernel_rfl) (by kernel_rfl) (fun _ _ _ h => h) (Or.inl ⟨by rfl, fun w' hw' => by have e := keep_cell hw' HR0.out; go_simp⟩) hS ?_
  simp only [Act.put, List.setIfInBounds_toArray, List.set_cons_zero, List.set_cons_succ]
  refine take_at (i := 11) 150 (v := .string (strOf r0.data)) rfl rfl (by kernel_rfl) (by kernel_rfl) (by kernel_rfl) (fun _ _ _ h => h) (Or.inl ⟨by rfl, fun w' hw' => by have e := conv_src (HSR.out.off hw' (fun _ _ _ h => h)); go_simp⟩) hS ?_
  simp only [Act.put, List.setIfInBounds_toArray, List.set_cons_zero, List.set_cons_succ]
  refine take_at (i := 12) 151 (v := .slice za z.length zc) rfl rfl (by kernel_rfl) (by kernel_rfl) (by kernel_rfl) (fun _ _ _ h => h) (Or.inl ⟨by rfl, fun w' hw' => by go_simp⟩) hS ?_
  simp only [Act.put, List.setIfInBounds_toArray, List.set_cons_zero, List.set_cons_succ]
  refine take_at (i := 13) 152 (v := .string (strOf z)) rfl rfl (by kernel_rfl) (by kernel_rfl) (by kernel_rfl) (fun _ _ _ h => h) (Or.inl ⟨by rfl, fun w' hw' => by have e := conv_src (HSZ.out.off hw' (fun _ _ _ h => h)); go_simp⟩) hS ?_
  simp only [Act.put, List.setIfInBounds_toArray, List.set_cons_zero, List.set_cons_succ]
  refine take_at (i := 14) 153 (v := .bool true) rfl rfl (by kernel_rfl) (by kernel_rfl) (by kernel_rfl) (fun _ _ _ h => h) (Or.inl ⟨by rfl, fun w' hw' => by have e := HX2.out; go_simp⟩) hS ?_
  simp only [Act.put, List.setIfInBounds_toArray, List.set_cons_zero, List.set_cons_succ]
  refine take_at (i := 15) 154 (v := .bool true) rfl rfl (by kernel_rfl) (by kernel_rfl) (by kernel_rfl) (fun _ _ _ h => h) (Or.inl ⟨by rfl, fun w' hw' => by go_simp⟩) hS ?_
  simp only [Act.put, List.setIfInBounds_toArray, List.set_cons_zero, List.set_cons_succ]
  refine take_at (i := 16) 155 (v := .bool true) rfl rfl (by kernel_rfl) (by kernel_rfl) (by kernel_rfl) (fun _ _ _ h => h) (Or.inl ⟨by rfl, fun w' hw' => by go_simp⟩) hS ?_
  simp only [Act.put, List.setIfInBounds_toArray, List.set_cons_zero, List.set_cons_succ]
  refine wpAnyH_ready (rs := [17]) (by kernel_rfl) (by simp) ?_
  refine AllReadyH.cons rfl (fun K' hK' => ?_) AllReadyH.nil
  go_simp
  refine (awake_any _).mono ?_
  rintro e v17 ⟨rfl, o17⟩
  have hS1 := hS.trans o17 (fun _ _ h => h)
  refine hK'.out _ _ hS1 (fun hS => ?_)
  clear hK' K' hS1
  clear o17
  refine take_at (i := 18) 157 (v := .bool true) rfl rfl (by kernel_rfl) (by kernel_rfl) (by kernel_rfl) (fun _ _ _ h => h) (Or.inl ⟨by rfl, fun w' hw' => by go_simp⟩) hS ?_
  simp only [Act.put, List.setIfInBounds_toArray, List.set_cons_zero, List.set_cons_succ]
  refine take_at (i := 19) 12 (v := .bool true) rfl rfl (by kernel_rfl) (by kernel_rfl) (by kernel_rfl) (fun _ _ _ h => h) (Or.inl ⟨by rfl, fun w' hw' => by go_simp⟩) hS ?_
  simp only [Act.put, List.setIfInBounds_toArray, List.set_cons_zero, List.set_cons_succ]
  refine wpAnyH_done (by kernel_rfl) ?_ _
  go_wp2_with fail
  go_ret
  exact ⟨rfl, HO.out.trans (HOA.out.trans hS (fun _ _ h => h)) (fun _ _ h => h)⟩
end Go.Proofs.Ytfkpnmmcdhibbab
