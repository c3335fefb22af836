/- VectorOrder. -/
import Derived.Test.YtalcfkdmlebkbabDoorAwake
namespace Go.Proofs.YtalcfkdmlebkbabDoor
open Go.RowKit

theorem less_self (a b : Int) : lessB a b a b = false := by simp [lessB]
theorem less_lin {a b c d : Int} (h : ¬ (a = c ∧ b = d)) : lessB c d a b = !lessB a b c d := by
  rw [Bool.eq_iff_iff]
  simp [lessB]
  omega
theorem less_trans {a b c d e f : Int} (h : lessB a b c d = true) (k : lessB c d e f = true) : lessB a b e f = true := by
  simp [lessB] at h k ⊢
  omega
theorem leq_refl (a : Nat → Int) : leqB a a = true := by simp [leqB]
theorem leq_anti {a b : Nat → Int} (h : leqB a b = true) (k : leqB b a = true) : eqB a b = true := by
  simp only [leqB, eqB, decide_eq_true_eq] at *
  intro j hj
  have := h j hj
  have := k j hj
  omega
theorem leq_tr {a b c : Nat → Int} (h : leqB a b = true) (k : leqB b c = true) : leqB a c = true := by
  simp only [leqB, decide_eq_true_eq] at *
  intro j hj
  have := h j hj
  have := k j hj
  omega
theorem neq_dot (a b c d : Int) (W : World) : (binOp .neq 23 (.agg #[.int .i64 a, .int .i64 b]) (.agg #[.int .i64 c, .int .i64 d])).run Tryd.prog W = .ok (.bool (!decide (a = c ∧ b = d))) W := by
  go_simp
  by_cases h1 : a = c <;> by_cases h2 : b = d <;> simp [h1, h2]

set_option maxRecDepth 100000 in
set_option maxHeartbeats 2000000 in
theorem order_walk (d0 d1 f0 f1 g0 g1 : Int) (a b c : Nat → Int) (w : World) (ht : Tab w) :
    Calls Tryd.prog 3 #[.agg #[.int .i64 d0, .int .i64 d1], .agg #[.int .i64 f0, .int .i64 f1], .agg #[.int .i64 g0, .int .i64 g1], .agg #[.int .i64 (a 0), .int .i64 (a 1), .int .i64 (a 2), .int .i64 (a 3), .int .i64 (a 4), .int .i64 (a 5), .int .i64 (a 6), .int .i64 (a 7)], .agg #[.int .i64 (b 0), .int .i64 (b 1), .int .i64 (b 2), .int .i64 (b 3), .int .i64 (b 4), .int .i64 (b 5), .int .i64 (b 6), .int .i64 (b 7)], .agg #[.int .i64 (c 0), .int .i64 (c 1), .int .i64 (c 2), .int .i64 (c 3), .int .i64 (c 4), .int .i64 (c 5), .int .i64 (c 6), .int .i64 (c 7)]] w fun e w' => e = .returned (.bool true) ∧ Off (fun _ => False) w w' := by
  have hnot := not_any
  have HT : Hid (∀ w', Off (fun _ => False) w w' → Tab w') := fun w' h => ht.off h (fun _ _ h => h)
  clear ht
  go_enter Tryd.func3, Tryd.ntmps3
  go_wp2_with fail
  rename_i K1 hK1 K hK
  obtain ⟨W, hW⟩ : ∃ W, W = ((((((w.alloc (.cells #[.int .i64 d0, .int .i64 d1] 23)).alloc (.cells #[.int .i64 f0, .int .i64 f1] 23)).alloc (.cells #[.int .i64 g0, .int .i64 g1] 23)).alloc (.cells #[.int .i64 (a 0), .int .i64 (a 1), .int .i64 (a 2), .int .i64 (a 3), .int .i64 (a 4), .int .i64 (a 5), .int .i64 (a 6), .int .i64 (a 7)] 25)).alloc (.cells #[.int .i64 (b 0), .int .i64 (b 1), .int .i64 (b 2), .int .i64 (b 3), .int .i64 (b 4), .int .i64 (b 5), .int .i64 (b 6), .int .i64 (b 7)] 25)).alloc (.cells #[.int .i64 (c 0), .int .i64 (c 1), .int .i64 (c 2), .int .i64 (c 3), .int .i64 (c 4), .int .i64 (c 5), .int .i64 (c 6), .int .i64 (c 7)] 25)) := ⟨_, rfl⟩
  have O : Off (fun _ => False) w W := by rw [hW]; exact ((((((Off.refl _ w).alloc _).alloc _).alloc _).alloc _).alloc _).alloc _
  have C0 : Cel (w.heap.size) 23 #[.int .i64 d0, .int .i64 d1] W := by
    rw [hW]
    have h := Cel.new w 23 #[.int .i64 d0, .int .i64 d1]
    exact ((((h.alloc _).alloc _).alloc _).alloc _).alloc _
  have C1 : Cel (w.heap.size + 1) 23 #[.int .i64 f0, .int .i64 f1] W := by
    rw [hW]
    have h := Cel.new (w.alloc (.cells #[.int .i64 d0, .int .i64 d1] 23)) 23 #[.int .i64 f0, .int .i64 f1]
    simp only [World.size_alloc] at h
    exact (((h.alloc _).alloc _).alloc _).alloc _
  have C2 : Cel (w.heap.size + 1 + 1) 23 #[.int .i64 g0, .int .i64 g1] W := by
    rw [hW]
    have h := Cel.new ((w.alloc (.cells #[.int .i64 d0, .int .i64 d1] 23)).alloc (.cells #[.int .i64 f0, .int .i64 f1] 23)) 23 #[.int .i64 g0, .int .i64 g1]
    simp only [World.size_alloc] at h
    exact ((h.alloc _).alloc _).alloc _
  have C3 : Cel (w.heap.size + 1 + 1 + 1) 25 #[.int .i64 (a 0), .int .i64 (a 1), .int .i64 (a 2), .int .i64 (a 3), .int .i64 (a 4), .int .i64 (a 5), .int .i64 (a 6), .int .i64 (a 7)] W := by
    rw [hW]
    have h := Cel.new (((w.alloc (.cells #[.int .i64 d0, .int .i64 d1] 23)).alloc (.cells #[.int .i64 f0, .int .i64 f1] 23)).alloc (.cells #[.int .i64 g0, .int .i64 g1] 23)) 25 #[.int .i64 (a 0), .int .i64 (a 1), .int .i64 (a 2), .int .i64 (a 3), .int .i64 (a 4), .int .i64 (a 5), .int .i64 (a 6), .int .i64 (a 7)]
    simp only [World.size_alloc] at h
    exact (h.alloc _).alloc _
  have C4 : Cel (w.heap.size + 1 + 1 + 1 + 1) 25 #[.int .i64 (b 0), .int .i64 (b 1), .int .i64 (b 2), .int .i64 (b 3), .int .i64 (b 4), .int .i64 (b 5), .int .i64 (b 6), .int .i64 (b 7)] W := by
    rw [hW]
    have h := Cel.new ((((w.alloc (.cells #[.int .i64 d0, .int .i64 d1] 23)).alloc (.cells #[.int .i64 f0, .int .i64 f1] 23)).alloc (.cells #[.int .i64 g0, .int .i64 g1] 23)).alloc (.cells #[.int .i64 (a 0), .int .i64 (a 1), .int .i64 (a 2), .int .i64 (a 3), .int .i64 (a 4), .int .i64 (a 5), .int .i64 (a 6), .int .i64 (a 7)] 25)) 25 #[.int .i64 (b 0), .int .i64 (b 1), .int .i64 (b 2), .int .i64 (b 3), .int .i64 (b 4), .int .i64 (b 5), .int .i64 (b 6), .int .i64 (b 7)]
    simp only [World.size_alloc] at h
    exact h.alloc _
  have C5 : Cel (w.heap.size + 1 + 1 + 1 + 1 + 1) 25 #[.int .i64 (c 0), .int .i64 (c 1), .int .i64 (c 2), .int .i64 (c 3), .int .i64 (c 4), .int .i64 (c 5), .int .i64 (c 6), .int .i64 (c 7)] W := by
    rw [hW]
    have h := Cel.new (((((w.alloc (.cells #[.int .i64 d0, .int .i64 d1] 23)).alloc (.cells #[.int .i64 f0, .int .i64 f1] 23)).alloc (.cells #[.int .i64 g0, .int .i64 g1] 23)).alloc (.cells #[.int .i64 (a 0), .int .i64 (a 1), .int .i64 (a 2), .int .i64 (a 3), .int .i64 (a 4), .int .i64 (a 5), .int .i64 (a 6), .int .i64 (a 7)] 25)).alloc (.cells #[.int .i64 (b 0), .int .i64 (b 1), .int .i64 (b 2), .int .i64 (b 3), .int .i64 (b 4), .int .i64 (b 5), .int .i64 (b 6), .int .i64 (b 7)] 25)) 25 #[.int .i64 (c 0), .int .i64 (c 1), .int .i64 (c 2), .int .i64 (c 3), .int .i64 (c 4), .int .i64 (c 5), .int .i64 (c 6), .int .i64 (c 7)]
    simp only [World.size_alloc] at h
    exact h
  rw [← hW]
  clear hW
  generalize hq5 : w.heap.size + 1 + 1 + 1 + 1 + 1 = q5 at C5 ⊢
  generalize hq4 : w.heap.size + 1 + 1 + 1 + 1 = q4 at C4 ⊢
  generalize hq3 : w.heap.size + 1 + 1 + 1 = q3 at C3 ⊢
  generalize hq2 : w.heap.size + 1 + 1 = q2 at C2 ⊢
  generalize hq1 : w.heap.size + 1 = q1 at C1 ⊢
  generalize hq0 : w.heap.size = q0 at C0 ⊢
  clear hq0 hq1 hq2 hq3 hq4 hq5
  have H0 : Hid _ := C0
  have H1 : Hid _ := C1
  have H2 : Hid _ := C2
  have H3 : Hid _ := C3
  have H4 : Hid _ := C4
  have H5 : Hid _ := C5
  clear C0 C1 C2 C3 C4 C5
  have HK : Hid (∀ (u13 u14 u15 u16 u17 u18 u19 u20 u21 u22 u23 u24 u25 u26 u27 u28 u29 u30 u31 u32 u33 u34 u35 u36 u37 u38 u39 u40 u41 u42 u43 u44 : Value) (v : World), Off (fun _ => False) W v → K ⟨#[.agg #[.int .i64 d0, .int .i64 d1], .agg #[.int .i64 f0, .int .i64 f1], .agg #[.int .i64 g0, .int .i64 g1], .agg #[.int .i64 (a 0), .int .i64 (a 1), .int .i64 (a 2), .int .i64 (a 3), .int .i64 (a 4), .int .i64 (a 5), .int .i64 (a 6), .int .i64 (a 7)], .agg #[.int .i64 (b 0), .int .i64 (b 1), .int .i64 (b 2), .int .i64 (b 3), .int .i64 (b 4), .int .i64 (b 5), .int .i64 (b 6), .int .i64 (b 7)], .agg #[.int .i64 (c 0), .int .i64 (c 1), .int .i64 (c 2), .int .i64 (c 3), .int .i64 (c 4), .int .i64 (c 5), .int .i64 (c 6), .int .i64 (c 7)], .pointer (some ⟨q0, 0, none⟩), .pointer (some ⟨q1, 0, none⟩), .pointer (some ⟨q2, 0, none⟩), .pointer (some ⟨q3, 0, none⟩), .pointer (some ⟨q4, 0, none⟩), .pointer (some ⟨q5, 0, none⟩), .bool false, u13, u14, u15, u16, u17, u18, u19, u20, u21, u22, u23, u24, u25, u26, u27, u28, u29, u30, u31, u32, u33, u34, u35, u36, u37, u38, u39, u40, u41, u42, u43, u44, .bool false, undef, undef, undef, undef, undef, undef, undef, undef, undef, undef, undef, undef, undef, undef, undef, undef, undef, undef, undef, undef, undef, undef, undef, undef, undef, undef, undef, undef, undef, undef, undef, undef, undef, undef, undef, undef, undef, undef, undef, undef], []⟩ v) := by
    intro u13 u14 u15 u16 u17 u18 u19 u20 u21 u22 u23 u24 u25 u26 u27 u28 u29 u30 u31 u32 u33 u34 u35 u36 u37 u38 u39 u40 u41 u42 u43 u44 v S0
    obtain ⟨x30, x31, x32, x33, x34, x35, x36, x37⟩ := cel8 (H3.out.off S0 (fun h => h))
    obtain ⟨x40, x41, x42, x43, x44, x45, x46, x47⟩ := cel8 (H4.out.off S0 (fun h => h))
    obtain ⟨x50, x51, x52, x53, x54, x55, x56, x57⟩ := cel8 (H5.out.off S0 (fun h => h))
    refine hK _ _ ?_
    go_wp2_with fail
    refine (leq_any a a _).mono ?_
    rw [leq_refl a]
    rintro e v1 ⟨rfl, o1⟩
    clear x30 x31 x32 x33 x34 x35 x36 x37 x40 x41 x42 x43 x44 x45 x46 x47 x50 x51 x52 x53 x54 x55 x56 x57
    replace S0 := S0.trans o1 (fun _ _ h => h)
    clear o1
    obtain ⟨x30, x31, x32, x33, x34, x35, x36, x37⟩ := cel8 (H3.out.off S0 (fun h => h))
    obtain ⟨x40, x41, x42, x43, x44, x45, x46, x47⟩ := cel8 (H4.out.off S0 (fun h => h))
    obtain ⟨x50, x51, x52, x53, x54, x55, x56, x57⟩ := cel8 (H5.out.off S0 (fun h => h))
    go_wp2_with fail
    by_cases p : leqB a b = true
    · have P : Hid _ := p
      clear p
      refine (leq_any a b _).mono ?_
      rw [P.out]
      rintro e v2 ⟨rfl, o2⟩
      clear x30 x31 x32 x33 x34 x35 x36 x37 x40 x41 x42 x43 x44 x45 x46 x47 x50 x51 x52 x53 x54 x55 x56 x57
      replace S0 := S0.trans o2 (fun _ _ h => h)
      clear o2
      obtain ⟨x30, x31, x32, x33, x34, x35, x36, x37⟩ := cel8 (H3.out.off S0 (fun h => h))
      obtain ⟨x40, x41, x42, x43, x44, x45, x46, x47⟩ := cel8 (H4.out.off S0 (fun h => h))
      obtain ⟨x50, x51, x52, x53, x54, x55, x56, x57⟩ := cel8 (H5.out.off S0 (fun h => h))
      go_wp2_with fail
      by_cases q : leqB b a = true
      · have e1 := eql_vec a b
        rw [leq_anti P.out q] at e1
        have Q0 : Hid _ := q
        clear q
        refine (leq_any b a _).mono ?_
        rw [Q0.out]
        rintro e v3 ⟨rfl, o3⟩
        clear x30 x31 x32 x33 x34 x35 x36 x37 x40 x41 x42 x43 x44 x45 x46 x47 x50 x51 x52 x53 x54 x55 x56 x57
        replace S0 := S0.trans o3 (fun _ _ h => h)
        clear o3
        obtain ⟨x30, x31, x32, x33, x34, x35, x36, x37⟩ := cel8 (H3.out.off S0 (fun h => h))
        obtain ⟨x40, x41, x42, x43, x44, x45, x46, x47⟩ := cel8 (H4.out.off S0 (fun h => h))
        obtain ⟨x50, x51, x52, x53, x54, x55, x56, x57⟩ := cel8 (H5.out.off S0 (fun h => h))
        go_wp2_with fail
        refine (leq_any a b _).mono ?_
        rw [P.out]
        rintro e v4 ⟨rfl, o4⟩
        clear x30 x31 x32 x33 x34 x35 x36 x37 x40 x41 x42 x43 x44 x45 x46 x47 x50 x51 x52 x53 x54 x55 x56 x57
        replace S0 := S0.trans o4 (fun _ _ h => h)
        clear o4
        obtain ⟨x30, x31, x32, x33, x34, x35, x36, x37⟩ := cel8 (H3.out.off S0 (fun h => h))
        obtain ⟨x40, x41, x42, x43, x44, x45, x46, x47⟩ := cel8 (H4.out.off S0 (fun h => h))
        obtain ⟨x50, x51, x52, x53, x54, x55, x56, x57⟩ := cel8 (H5.out.off S0 (fun h => h))
        go_wp2_with fail
        by_cases r : leqB b c = true
        · have Q : Hid _ := r
          clear r
          refine (leq_any b c _).mono ?_
          rw [Q.out]
          rintro e v5 ⟨rfl, o5⟩
          clear x30 x31 x32 x33 x34 x35 x36 x37 x40 x41 x42 x43 x44 x45 x46 x47 x50 x51 x52 x53 x54 x55 x56 x57
          replace S0 := S0.trans o5 (fun _ _ h => h)
          clear o5
          obtain ⟨x30, x31, x32, x33, x34, x35, x36, x37⟩ := cel8 (H3.out.off S0 (fun h => h))
          obtain ⟨x40, x41, x42, x43, x44, x45, x46, x47⟩ := cel8 (H4.out.off S0 (fun h => h))
          obtain ⟨x50, x51, x52, x53, x54, x55, x56, x57⟩ := cel8 (H5.out.off S0 (fun h => h))
          go_wp2_with fail
          refine (leq_any a c _).mono ?_
          rw [leq_tr P.out Q.out]
          rintro e v6 ⟨rfl, o6⟩
          clear x30 x31 x32 x33 x34 x35 x36 x37 x40 x41 x42 x43 x44 x45 x46 x47 x50 x51 x52 x53 x54 x55 x56 x57
          replace S0 := S0.trans o6 (fun _ _ h => h)
          clear o6
          obtain ⟨x30, x31, x32, x33, x34, x35, x36, x37⟩ := cel8 (H3.out.off S0 (fun h => h))
          obtain ⟨x40, x41, x42, x43, x44, x45, x46, x47⟩ := cel8 (H4.out.off S0 (fun h => h))
          obtain ⟨x50, x51, x52, x53, x54, x55, x56, x57⟩ := cel8 (H5.out.off S0 (fun h => h))
          go_wp2_with fail
          refine (awake_any _ (HT.out _ (O.trans S0 (fun _ _ h => h)))).mono ?_
          rintro e v7 ⟨rfl, o7⟩
          replace S0 := S0.trans o7 (fun _ _ h => h)
          go_wp2_with fail
          go_ret
          exact ⟨rfl, O.trans S0 (fun _ _ h => h)⟩
        · have Q : Hid (leqB b c = false) := (show leqB b c = false by simpa using r)
          clear r
          refine (leq_any b c _).mono ?_
          rw [Q.out]
          rintro e v8 ⟨rfl, o8⟩
          clear x30 x31 x32 x33 x34 x35 x36 x37 x40 x41 x42 x43 x44 x45 x46 x47 x50 x51 x52 x53 x54 x55 x56 x57
          replace S0 := S0.trans o8 (fun _ _ h => h)
          clear o8
          obtain ⟨x30, x31, x32, x33, x34, x35, x36, x37⟩ := cel8 (H3.out.off S0 (fun h => h))
          obtain ⟨x40, x41, x42, x43, x44, x45, x46, x47⟩ := cel8 (H4.out.off S0 (fun h => h))
          obtain ⟨x50, x51, x52, x53, x54, x55, x56, x57⟩ := cel8 (H5.out.off S0 (fun h => h))
          go_wp2_with fail
          refine (awake_any _ (HT.out _ (O.trans S0 (fun _ _ h => h)))).mono ?_
          rintro e v9 ⟨rfl, o9⟩
          replace S0 := S0.trans o9 (fun _ _ h => h)
          go_wp2_with fail
          go_ret
          exact ⟨rfl, O.trans S0 (fun _ _ h => h)⟩
      · have Q0 : Hid (leqB b a = false) := (show leqB b a = false by simpa using q)
        clear q
        refine (leq_any b a _).mono ?_
        rw [Q0.out]
        rintro e v10 ⟨rfl, o10⟩
        clear x30 x31 x32 x33 x34 x35 x36 x37 x40 x41 x42 x43 x44 x45 x46 x47 x50 x51 x52 x53 x54 x55 x56 x57
        replace S0 := S0.trans o10 (fun _ _ h => h)
        clear o10
        obtain ⟨x30, x31, x32, x33, x34, x35, x36, x37⟩ := cel8 (H3.out.off S0 (fun h => h))
        obtain ⟨x40, x41, x42, x43, x44, x45, x46, x47⟩ := cel8 (H4.out.off S0 (fun h => h))
        obtain ⟨x50, x51, x52, x53, x54, x55, x56, x57⟩ := cel8 (H5.out.off S0 (fun h => h))
        go_wp2_with fail
        refine (leq_any a b _).mono ?_
        rw [P.out]
        rintro e v11 ⟨rfl, o11⟩
        clear x30 x31 x32 x33 x34 x35 x36 x37 x40 x41 x42 x43 x44 x45 x46 x47 x50 x51 x52 x53 x54 x55 x56 x57
        replace S0 := S0.trans o11 (fun _ _ h => h)
        clear o11
        obtain ⟨x30, x31, x32, x33, x34, x35, x36, x37⟩ := cel8 (H3.out.off S0 (fun h => h))
        obtain ⟨x40, x41, x42, x43, x44, x45, x46, x47⟩ := cel8 (H4.out.off S0 (fun h => h))
        obtain ⟨x50, x51, x52, x53, x54, x55, x56, x57⟩ := cel8 (H5.out.off S0 (fun h => h))
        go_wp2_with fail
        by_cases r : leqB b c = true
        · have Q : Hid _ := r
          clear r
          refine (leq_any b c _).mono ?_
          rw [Q.out]
          rintro e v12 ⟨rfl, o12⟩
          clear x30 x31 x32 x33 x34 x35 x36 x37 x40 x41 x42 x43 x44 x45 x46 x47 x50 x51 x52 x53 x54 x55 x56 x57
          replace S0 := S0.trans o12 (fun _ _ h => h)
          clear o12
          obtain ⟨x30, x31, x32, x33, x34, x35, x36, x37⟩ := cel8 (H3.out.off S0 (fun h => h))
          obtain ⟨x40, x41, x42, x43, x44, x45, x46, x47⟩ := cel8 (H4.out.off S0 (fun h => h))
          obtain ⟨x50, x51, x52, x53, x54, x55, x56, x57⟩ := cel8 (H5.out.off S0 (fun h => h))
          go_wp2_with fail
          refine (leq_any a c _).mono ?_
          rw [leq_tr P.out Q.out]
          rintro e v13 ⟨rfl, o13⟩
          clear x30 x31 x32 x33 x34 x35 x36 x37 x40 x41 x42 x43 x44 x45 x46 x47 x50 x51 x52 x53 x54 x55 x56 x57
          replace S0 := S0.trans o13 (fun _ _ h => h)
          clear o13
          obtain ⟨x30, x31, x32, x33, x34, x35, x36, x37⟩ := cel8 (H3.out.off S0 (fun h => h))
          obtain ⟨x40, x41, x42, x43, x44, x45, x46, x47⟩ := cel8 (H4.out.off S0 (fun h => h))
          obtain ⟨x50, x51, x52, x53, x54, x55, x56, x57⟩ := cel8 (H5.out.off S0 (fun h => h))
          go_wp2_with fail
          refine (awake_any _ (HT.out _ (O.trans S0 (fun _ _ h => h)))).mono ?_
          rintro e v14 ⟨rfl, o14⟩
          replace S0 := S0.trans o14 (fun _ _ h => h)
          go_wp2_with fail
          go_ret
          exact ⟨rfl, O.trans S0 (fun _ _ h => h)⟩
        · have Q : Hid (leqB b c = false) := (show leqB b c = false by simpa using r)
          clear r
          refine (leq_any b c _).mono ?_
          rw [Q.out]
          rintro e v15 ⟨rfl, o15⟩
          clear x30 x31 x32 x33 x34 x35 x36 x37 x40 x41 x42 x43 x44 x45 x46 x47 x50 x51 x52 x53 x54 x55 x56 x57
          replace S0 := S0.trans o15 (fun _ _ h => h)
          clear o15
          obtain ⟨x30, x31, x32, x33, x34, x35, x36, x37⟩ := cel8 (H3.out.off S0 (fun h => h))
          obtain ⟨x40, x41, x42, x43, x44, x45, x46, x47⟩ := cel8 (H4.out.off S0 (fun h => h))
          obtain ⟨x50, x51, x52, x53, x54, x55, x56, x57⟩ := cel8 (H5.out.off S0 (fun h => h))
          go_wp2_with fail
          refine (awake_any _ (HT.out _ (O.trans S0 (fun _ _ h => h)))).mono ?_
          rintro e v16 ⟨rfl, o16⟩
          replace S0 := S0.trans o16 (fun _ _ h => h)
          go_wp2_with fail
          go_ret
          exact ⟨rfl, O.trans S0 (fun _ _ h => h)⟩
    · have P : Hid (leqB a b = false) := (show leqB a b = false by simpa using p)
      clear p
      refine (leq_any a b _).mono ?_
      rw [P.out]
      rintro e v17 ⟨rfl, o17⟩
      clear x30 x31 x32 x33 x34 x35 x36 x37 x40 x41 x42 x43 x44 x45 x46 x47 x50 x51 x52 x53 x54 x55 x56 x57
      replace S0 := S0.trans o17 (fun _ _ h => h)
      clear o17
      obtain ⟨x30, x31, x32, x33, x34, x35, x36, x37⟩ := cel8 (H3.out.off S0 (fun h => h))
      obtain ⟨x40, x41, x42, x43, x44, x45, x46, x47⟩ := cel8 (H4.out.off S0 (fun h => h))
      obtain ⟨x50, x51, x52, x53, x54, x55, x56, x57⟩ := cel8 (H5.out.off S0 (fun h => h))
      go_wp2_with fail
      refine (leq_any a b _).mono ?_
      rw [P.out]
      rintro e v18 ⟨rfl, o18⟩
      clear x30 x31 x32 x33 x34 x35 x36 x37 x40 x41 x42 x43 x44 x45 x46 x47 x50 x51 x52 x53 x54 x55 x56 x57
      replace S0 := S0.trans o18 (fun _ _ h => h)
      clear o18
      obtain ⟨x30, x31, x32, x33, x34, x35, x36, x37⟩ := cel8 (H3.out.off S0 (fun h => h))
      obtain ⟨x40, x41, x42, x43, x44, x45, x46, x47⟩ := cel8 (H4.out.off S0 (fun h => h))
      obtain ⟨x50, x51, x52, x53, x54, x55, x56, x57⟩ := cel8 (H5.out.off S0 (fun h => h))
      go_wp2_with fail
      refine (awake_any _ (HT.out _ (O.trans S0 (fun _ _ h => h)))).mono ?_
      rintro e v19 ⟨rfl, o19⟩
      replace S0 := S0.trans o19 (fun _ _ h => h)
      go_wp2_with fail
      go_ret
      exact ⟨rfl, O.trans S0 (fun _ _ h => h)⟩
  clear hK
  have e2 := neq_dot d0 d1 f0 f1
  refine wp_region_held_drew (S := fun w' => Off (fun _ => False) W w') (by kernel_rfl) ((Off.refl _ W).drew) (fun hS => ?_)
  by_cases h1 : d0 = f0 ∧ d1 = f1
  · have B2 : Hid (lessB d0 d1 f0 f1 = false) := by
      show lessB d0 d1 f0 f1 = false
      rw [← h1.1, ← h1.2]
      exact less_self d0 d1
    rw [show decide (d0 = f0 ∧ d1 = f1) = true from decide_eq_true h1] at e2
    clear h1
    refine take_at (i := 0) 13 (v := .agg #[.int .i64 d0, .int .i64 d1]) rfl rfl (by kernel_rfl) (by kernel_rfl) (by kernel_rfl) (fun _ _ _ h => h) (Or.inl ⟨by rfl, fun w' hw' => by have x0 := (H0.out.off hw' (fun h => h)).cell 0; have x1 := (H0.out.off hw' (fun h => h)).cell 1; simp at x0 x1; go_simp⟩) hS ?_
    simp only [Act.put, List.setIfInBounds_toArray, List.set_cons_zero, List.set_cons_succ]
    refine take_at (i := 1) 14 (v := .agg #[.int .i64 d0, .int .i64 d1]) rfl rfl (by kernel_rfl) (by kernel_rfl) (by kernel_rfl) (fun _ _ _ h => h) (Or.inl ⟨by rfl, fun w' hw' => by have x0 := (H0.out.off hw' (fun h => h)).cell 0; have x1 := (H0.out.off hw' (fun h => h)).cell 1; simp at x0 x1; go_simp⟩) hS ?_
    simp only [Act.put, List.setIfInBounds_toArray, List.set_cons_zero, List.set_cons_succ]
    refine wpAnyH_ready (rs := [2]) (by kernel_rfl) (by simp) ?_
    refine AllReadyH.cons rfl (fun K' hK' => ?_) AllReadyH.nil
    go_simp
    refine (less_any d0 d1 d0 d1 _).mono ?_
    rw [less_self]
    rintro e v1 ⟨rfl, o1⟩
    refine hK'.out _ _ (hS.trans o1 (fun _ _ h => h)) (fun hS => ?_)
    clear hK' K' o1
    refine take_at (i := 3) 16 (v := .bool false) rfl rfl (by kernel_rfl) (by kernel_rfl) (by kernel_rfl) (fun _ _ _ h => h) (Or.inl ⟨by rfl, fun w' hw' => by go_simp⟩) hS ?_
    simp only [Act.put, List.setIfInBounds_toArray, List.set_cons_zero, List.set_cons_succ]
    refine take_at (i := 4) 17 (v := .agg #[.int .i64 d0, .int .i64 d1]) rfl rfl (by kernel_rfl) (by kernel_rfl) (by kernel_rfl) (fun _ _ _ h => h) (Or.inl ⟨by rfl, fun w' hw' => by have x0 := (H0.out.off hw' (fun h => h)).cell 0; have x1 := (H0.out.off hw' (fun h => h)).cell 1; simp at x0 x1; go_simp⟩) hS ?_
    simp only [Act.put, List.setIfInBounds_toArray, List.set_cons_zero, List.set_cons_succ]
    refine take_at (i := 5) 18 (v := .agg #[.int .i64 f0, .int .i64 f1]) rfl rfl (by kernel_rfl) (by kernel_rfl) (by kernel_rfl) (fun _ _ _ h => h) (Or.inl ⟨by rfl, fun w' hw' => by have x0 := (H1.out.off hw' (fun h => h)).cell 0; have x1 := (H1.out.off hw' (fun h => h)).cell 1; simp at x0 x1; go_simp⟩) hS ?_
    simp only [Act.put, List.setIfInBounds_toArray, List.set_cons_zero, List.set_cons_succ]
    refine take_at (i := 6) 19 (v := .bool false) rfl rfl (by kernel_rfl) (by kernel_rfl) (by kernel_rfl) (fun _ _ _ h => h) (Or.inl ⟨by rfl, fun w' hw' => by go_simp⟩) hS ?_
    simp only [Act.put, List.setIfInBounds_toArray, List.set_cons_zero, List.set_cons_succ]
    refine take_at (i := 7) 20 (v := .bool false) rfl rfl (by kernel_rfl) (by kernel_rfl) (by kernel_rfl) (fun _ _ _ h => h) (Or.inl ⟨by rfl, fun w' hw' => by go_simp⟩) hS ?_
    simp only [Act.put, List.setIfInBounds_toArray, List.set_cons_zero, List.set_cons_succ]
    refine take_at (i := 8) 21 (v := undef) rfl rfl (by kernel_rfl) (by kernel_rfl) (by kernel_rfl) (fun _ _ _ h => h) (Or.inr ⟨by rfl, rfl⟩) hS ?_
    simp only [Act.put, List.setIfInBounds_toArray, List.set_cons_zero, List.set_cons_succ]
    refine take_at (i := 9) 22 (v := undef) rfl rfl (by kernel_rfl) (by kernel_rfl) (by kernel_rfl) (fun _ _ _ h => h) (Or.inr ⟨by rfl, rfl⟩) hS ?_
    simp only [Act.put, List.setIfInBounds_toArray, List.set_cons_zero, List.set_cons_succ]
    refine take_at (i := 10) 23 (v := undef) rfl rfl (by kernel_rfl) (by kernel_rfl) (by kernel_rfl) (fun _ _ _ h => h) (Or.inr ⟨by rfl, rfl⟩) hS ?_
    simp only [Act.put, List.setIfInBounds_toArray, List.set_cons_zero, List.set_cons_succ]
    refine take_at (i := 11) 24 (v := undef) rfl rfl (by kernel_rfl) (by kernel_rfl) (by kernel_rfl) (fun _ _ _ h => h) (Or.inr ⟨by rfl, rfl⟩) hS ?_
    simp only [Act.put, List.setIfInBounds_toArray, List.set_cons_zero, List.set_cons_succ]
    refine take_at (i := 12) 25 (v := undef) rfl rfl (by kernel_rfl) (by kernel_rfl) (by kernel_rfl) (fun _ _ _ h => h) (Or.inr ⟨by rfl, rfl⟩) hS ?_
    simp only [Act.put, List.setIfInBounds_toArray, List.set_cons_zero, List.set_cons_succ]
    refine take_at (i := 13) 26 (v := undef) rfl rfl (by kernel_rfl) (by kernel_rfl) (by kernel_rfl) (fun _ _ _ h => h) (Or.inr ⟨by rfl, rfl⟩) hS ?_
    simp only [Act.put, List.setIfInBounds_toArray, List.set_cons_zero, List.set_cons_succ]
    refine take_at (i := 14) 27 (v := undef) rfl rfl (by kernel_rfl) (by kernel_rfl) (by kernel_rfl) (fun _ _ _ h => h) (Or.inr ⟨by rfl, rfl⟩) hS ?_
    simp only [Act.put, List.setIfInBounds_toArray, List.set_cons_zero, List.set_cons_succ]
    refine take_at (i := 15) 28 (v := .bool false) rfl rfl (by kernel_rfl) (by kernel_rfl) (by kernel_rfl) (fun _ _ _ h => h) (Or.inl ⟨by rfl, fun w' hw' => by go_simp⟩) hS ?_
    simp only [Act.put, List.setIfInBounds_toArray, List.set_cons_zero, List.set_cons_succ]
    refine take_at (i := 16) 29 (v := .bool false) rfl rfl (by kernel_rfl) (by kernel_rfl) (by kernel_rfl) (fun _ _ _ h => h) (Or.inl ⟨by rfl, fun w' hw' => by go_simp⟩) hS ?_
    simp only [Act.put, List.setIfInBounds_toArray, List.set_cons_zero, List.set_cons_succ]
    refine take_at (i := 17) 30 (v := .bool false) rfl rfl (by kernel_rfl) (by kernel_rfl) (by kernel_rfl) (fun _ _ _ h => h) (Or.inl ⟨by rfl, fun w' hw' => by go_simp⟩) hS ?_
    simp only [Act.put, List.setIfInBounds_toArray, List.set_cons_zero, List.set_cons_succ]
    refine take_at (i := 18) 31 (v := .agg #[.int .i64 d0, .int .i64 d1]) rfl rfl (by kernel_rfl) (by kernel_rfl) (by kernel_rfl) (fun _ _ _ h => h) (Or.inl ⟨by rfl, fun w' hw' => by have x0 := (H0.out.off hw' (fun h => h)).cell 0; have x1 := (H0.out.off hw' (fun h => h)).cell 1; simp at x0 x1; go_simp⟩) hS ?_
    simp only [Act.put, List.setIfInBounds_toArray, List.set_cons_zero, List.set_cons_succ]
    refine take_at (i := 19) 32 (v := .agg #[.int .i64 f0, .int .i64 f1]) rfl rfl (by kernel_rfl) (by kernel_rfl) (by kernel_rfl) (fun _ _ _ h => h) (Or.inl ⟨by rfl, fun w' hw' => by have x0 := (H1.out.off hw' (fun h => h)).cell 0; have x1 := (H1.out.off hw' (fun h => h)).cell 1; simp at x0 x1; go_simp⟩) hS ?_
    simp only [Act.put, List.setIfInBounds_toArray, List.set_cons_zero, List.set_cons_succ]
    refine wpAnyH_ready (rs := [20]) (by kernel_rfl) (by simp) ?_
    refine AllReadyH.cons rfl (fun K' hK' => ?_) AllReadyH.nil
    go_simp
    refine (less_any d0 d1 f0 f1 _).mono ?_
    rw [B2.out]
    rintro e v1 ⟨rfl, o1⟩
    refine hK'.out _ _ (hS.trans o1 (fun _ _ h => h)) (fun hS => ?_)
    clear hK' K' o1
    refine take_at (i := 21) 34 (v := .bool false) rfl rfl (by kernel_rfl) (by kernel_rfl) (by kernel_rfl) (fun _ _ _ h => h) (Or.inl ⟨by rfl, fun w' hw' => by go_simp⟩) hS ?_
    simp only [Act.put, List.setIfInBounds_toArray, List.set_cons_zero, List.set_cons_succ]
    refine take_at (i := 22) 35 (v := undef) rfl rfl (by kernel_rfl) (by kernel_rfl) (by kernel_rfl) (fun _ _ _ h => h) (Or.inr ⟨by rfl, rfl⟩) hS ?_
    simp only [Act.put, List.setIfInBounds_toArray, List.set_cons_zero, List.set_cons_succ]
    refine take_at (i := 23) 36 (v := undef) rfl rfl (by kernel_rfl) (by kernel_rfl) (by kernel_rfl) (fun _ _ _ h => h) (Or.inr ⟨by rfl, rfl⟩) hS ?_
    simp only [Act.put, List.setIfInBounds_toArray, List.set_cons_zero, List.set_cons_succ]
    refine take_at (i := 24) 37 (v := undef) rfl rfl (by kernel_rfl) (by kernel_rfl) (by kernel_rfl) (fun _ _ _ h => h) (Or.inr ⟨by rfl, rfl⟩) hS ?_
    simp only [Act.put, List.setIfInBounds_toArray, List.set_cons_zero, List.set_cons_succ]
    refine take_at (i := 25) 38 (v := .bool false) rfl rfl (by kernel_rfl) (by kernel_rfl) (by kernel_rfl) (fun _ _ _ h => h) (Or.inl ⟨by rfl, fun w' hw' => by go_simp⟩) hS ?_
    simp only [Act.put, List.setIfInBounds_toArray, List.set_cons_zero, List.set_cons_succ]
    refine take_at (i := 26) 39 (v := .bool false) rfl rfl (by kernel_rfl) (by kernel_rfl) (by kernel_rfl) (fun _ _ _ h => h) (Or.inl ⟨by rfl, fun w' hw' => by go_simp⟩) hS ?_
    simp only [Act.put, List.setIfInBounds_toArray, List.set_cons_zero, List.set_cons_succ]
    refine take_at (i := 27) 40 (v := undef) rfl rfl (by kernel_rfl) (by kernel_rfl) (by kernel_rfl) (fun _ _ _ h => h) (Or.inr ⟨by rfl, rfl⟩) hS ?_
    simp only [Act.put, List.setIfInBounds_toArray, List.set_cons_zero, List.set_cons_succ]
    refine take_at (i := 28) 41 (v := undef) rfl rfl (by kernel_rfl) (by kernel_rfl) (by kernel_rfl) (fun _ _ _ h => h) (Or.inr ⟨by rfl, rfl⟩) hS ?_
    simp only [Act.put, List.setIfInBounds_toArray, List.set_cons_zero, List.set_cons_succ]
    refine take_at (i := 29) 42 (v := undef) rfl rfl (by kernel_rfl) (by kernel_rfl) (by kernel_rfl) (fun _ _ _ h => h) (Or.inr ⟨by rfl, rfl⟩) hS ?_
    simp only [Act.put, List.setIfInBounds_toArray, List.set_cons_zero, List.set_cons_succ]
    refine take_at (i := 30) 43 (v := undef) rfl rfl (by kernel_rfl) (by kernel_rfl) (by kernel_rfl) (fun _ _ _ h => h) (Or.inr ⟨by rfl, rfl⟩) hS ?_
    simp only [Act.put, List.setIfInBounds_toArray, List.set_cons_zero, List.set_cons_succ]
    refine take_at (i := 31) 44 (v := .bool false) rfl rfl (by kernel_rfl) (by kernel_rfl) (by kernel_rfl) (fun _ _ _ h => h) (Or.inl ⟨by rfl, fun w' hw' => by go_simp⟩) hS ?_
    simp only [Act.put, List.setIfInBounds_toArray, List.set_cons_zero, List.set_cons_succ]
    refine take_at (i := 32) 45 (v := .bool false) rfl rfl (by kernel_rfl) (by kernel_rfl) (by kernel_rfl) (fun _ _ _ h => h) (Or.inl ⟨by rfl, fun w' hw' => by go_simp⟩) hS ?_
    simp only [Act.put, List.setIfInBounds_toArray, List.set_cons_zero, List.set_cons_succ]
    refine wpAnyH_done (by kernel_rfl) ?_ _
    exact HK.out _ _ _ _ _ _ _ _ _ _ _ _ _ _ _ _ _ _ _ _ _ _ _ _ _ _ _ _ _ _ _ _ _ hS
  · have lin := less_lin h1
    rw [show decide (d0 = f0 ∧ d1 = f1) = false from decide_eq_false h1] at e2
    clear h1
    by_cases h2 : lessB d0 d1 f0 f1 = true
    · have B2 : Hid _ := h2
      have B3 : Hid (lessB f0 f1 d0 d1 = false) := by
        show lessB f0 f1 d0 d1 = false
        rw [lin, h2]
        rfl
      clear h2 lin
      by_cases h4 : lessB f0 f1 g0 g1 = true
      · have B4 : Hid _ := h4
        clear h4
        refine take_at (i := 0) 13 (v := .agg #[.int .i64 d0, .int .i64 d1]) rfl rfl (by kernel_rfl) (by kernel_rfl) (by kernel_rfl) (fun _ _ _ h => h) (Or.inl ⟨by rfl, fun w' hw' => by have x0 := (H0.out.off hw' (fun h => h)).cell 0; have x1 := (H0.out.off hw' (fun h => h)).cell 1; simp at x0 x1; go_simp⟩) hS ?_
        simp only [Act.put, List.setIfInBounds_toArray, List.set_cons_zero, List.set_cons_succ]
        refine take_at (i := 1) 14 (v := .agg #[.int .i64 d0, .int .i64 d1]) rfl rfl (by kernel_rfl) (by kernel_rfl) (by kernel_rfl) (fun _ _ _ h => h) (Or.inl ⟨by rfl, fun w' hw' => by have x0 := (H0.out.off hw' (fun h => h)).cell 0; have x1 := (H0.out.off hw' (fun h => h)).cell 1; simp at x0 x1; go_simp⟩) hS ?_
        simp only [Act.put, List.setIfInBounds_toArray, List.set_cons_zero, List.set_cons_succ]
        refine wpAnyH_ready (rs := [2]) (by kernel_rfl) (by simp) ?_
        refine AllReadyH.cons rfl (fun K' hK' => ?_) AllReadyH.nil
        go_simp
        refine (less_any d0 d1 d0 d1 _).mono ?_
        rw [less_self]
        rintro e v1 ⟨rfl, o1⟩
        refine hK'.out _ _ (hS.trans o1 (fun _ _ h => h)) (fun hS => ?_)
        clear hK' K' o1
        refine take_at (i := 3) 16 (v := .bool false) rfl rfl (by kernel_rfl) (by kernel_rfl) (by kernel_rfl) (fun _ _ _ h => h) (Or.inl ⟨by rfl, fun w' hw' => by go_simp⟩) hS ?_
        simp only [Act.put, List.setIfInBounds_toArray, List.set_cons_zero, List.set_cons_succ]
        refine take_at (i := 4) 17 (v := .agg #[.int .i64 d0, .int .i64 d1]) rfl rfl (by kernel_rfl) (by kernel_rfl) (by kernel_rfl) (fun _ _ _ h => h) (Or.inl ⟨by rfl, fun w' hw' => by have x0 := (H0.out.off hw' (fun h => h)).cell 0; have x1 := (H0.out.off hw' (fun h => h)).cell 1; simp at x0 x1; go_simp⟩) hS ?_
        simp only [Act.put, List.setIfInBounds_toArray, List.set_cons_zero, List.set_cons_succ]
        refine take_at (i := 5) 18 (v := .agg #[.int .i64 f0, .int .i64 f1]) rfl rfl (by kernel_rfl) (by kernel_rfl) (by kernel_rfl) (fun _ _ _ h => h) (Or.inl ⟨by rfl, fun w' hw' => by have x0 := (H1.out.off hw' (fun h => h)).cell 0; have x1 := (H1.out.off hw' (fun h => h)).cell 1; simp at x0 x1; go_simp⟩) hS ?_
        simp only [Act.put, List.setIfInBounds_toArray, List.set_cons_zero, List.set_cons_succ]
        refine take_at (i := 6) 19 (v := .bool true) rfl rfl (by kernel_rfl) (by kernel_rfl) (by kernel_rfl) (fun _ _ _ h => h) (Or.inl ⟨by rfl, fun w' hw' => by go_simp⟩) hS ?_
        simp only [Act.put, List.setIfInBounds_toArray, List.set_cons_zero, List.set_cons_succ]
        refine take_at (i := 7) 20 (v := .bool true) rfl rfl (by kernel_rfl) (by kernel_rfl) (by kernel_rfl) (fun _ _ _ h => h) (Or.inl ⟨by rfl, fun w' hw' => by go_simp⟩) hS ?_
        simp only [Act.put, List.setIfInBounds_toArray, List.set_cons_zero, List.set_cons_succ]
        refine take_at (i := 8) 21 (v := .agg #[.int .i64 d0, .int .i64 d1]) rfl rfl (by kernel_rfl) (by kernel_rfl) (by kernel_rfl) (fun _ _ _ h => h) (Or.inl ⟨by rfl, fun w' hw' => by have x0 := (H0.out.off hw' (fun h => h)).cell 0; have x1 := (H0.out.off hw' (fun h => h)).cell 1; simp at x0 x1; go_simp⟩) hS ?_
        simp only [Act.put, List.setIfInBounds_toArray, List.set_cons_zero, List.set_cons_succ]
        refine take_at (i := 9) 22 (v := .agg #[.int .i64 f0, .int .i64 f1]) rfl rfl (by kernel_rfl) (by kernel_rfl) (by kernel_rfl) (fun _ _ _ h => h) (Or.inl ⟨by rfl, fun w' hw' => by have x0 := (H1.out.off hw' (fun h => h)).cell 0; have x1 := (H1.out.off hw' (fun h => h)).cell 1; simp at x0 x1; go_simp⟩) hS ?_
        simp only [Act.put, List.setIfInBounds_toArray, List.set_cons_zero, List.set_cons_succ]
        refine take_at (i := 11) 24 (v := .agg #[.int .i64 f0, .int .i64 f1]) rfl rfl (by kernel_rfl) (by kernel_rfl) (by kernel_rfl) (fun _ _ _ h => h) (Or.inl ⟨by rfl, fun w' hw' => by have x0 := (H1.out.off hw' (fun h => h)).cell 0; have x1 := (H1.out.off hw' (fun h => h)).cell 1; simp at x0 x1; go_simp⟩) hS ?_
        simp only [Act.put, List.setIfInBounds_toArray, List.set_cons_zero, List.set_cons_succ]
        refine take_at (i := 12) 25 (v := .agg #[.int .i64 d0, .int .i64 d1]) rfl rfl (by kernel_rfl) (by kernel_rfl) (by kernel_rfl) (fun _ _ _ h => h) (Or.inl ⟨by rfl, fun w' hw' => by have x0 := (H0.out.off hw' (fun h => h)).cell 0; have x1 := (H0.out.off hw' (fun h => h)).cell 1; simp at x0 x1; go_simp⟩) hS ?_
        simp only [Act.put, List.setIfInBounds_toArray, List.set_cons_zero, List.set_cons_succ]
        refine wpAnyH_ready (rs := [10]) (by kernel_rfl) (by simp) ?_
        refine AllReadyH.cons rfl (fun K' hK' => ?_) AllReadyH.nil
        go_simp
        refine (less_any d0 d1 f0 f1 _).mono ?_
        rw [B2.out]
        rintro e v1 ⟨rfl, o1⟩
        refine hK'.out _ _ (hS.trans o1 (fun _ _ h => h)) (fun hS => ?_)
        clear hK' K' o1
        refine wpAnyH_ready (rs := [13]) (by kernel_rfl) (by simp) ?_
        refine AllReadyH.cons rfl (fun K' hK' => ?_) AllReadyH.nil
        go_simp
        refine (less_any f0 f1 d0 d1 _).mono ?_
        rw [B3.out]
        rintro e v1 ⟨rfl, o1⟩
        refine hK'.out _ _ (hS.trans o1 (fun _ _ h => h)) (fun hS => ?_)
        clear hK' K' o1
        refine take_at (i := 14) 27 (v := .bool false) rfl rfl (by kernel_rfl) (by kernel_rfl) (by kernel_rfl) (fun _ _ _ h => h) (Or.inl ⟨by rfl, fun w' hw' => by go_simp⟩) hS ?_
        simp only [Act.put, List.setIfInBounds_toArray, List.set_cons_zero, List.set_cons_succ]
        refine take_at (i := 15) 28 (v := .bool false) rfl rfl (by kernel_rfl) (by kernel_rfl) (by kernel_rfl) (fun _ _ _ h => h) (Or.inl ⟨by rfl, fun w' hw' => by go_simp⟩) hS ?_
        simp only [Act.put, List.setIfInBounds_toArray, List.set_cons_zero, List.set_cons_succ]
        refine take_at (i := 16) 29 (v := .bool false) rfl rfl (by kernel_rfl) (by kernel_rfl) (by kernel_rfl) (fun _ _ _ h => h) (Or.inl ⟨by rfl, fun w' hw' => by go_simp⟩) hS ?_
        simp only [Act.put, List.setIfInBounds_toArray, List.set_cons_zero, List.set_cons_succ]
        refine take_at (i := 17) 30 (v := .bool false) rfl rfl (by kernel_rfl) (by kernel_rfl) (by kernel_rfl) (fun _ _ _ h => h) (Or.inl ⟨by rfl, fun w' hw' => by go_simp⟩) hS ?_
        simp only [Act.put, List.setIfInBounds_toArray, List.set_cons_zero, List.set_cons_succ]
        refine take_at (i := 18) 31 (v := .agg #[.int .i64 d0, .int .i64 d1]) rfl rfl (by kernel_rfl) (by kernel_rfl) (by kernel_rfl) (fun _ _ _ h => h) (Or.inl ⟨by rfl, fun w' hw' => by have x0 := (H0.out.off hw' (fun h => h)).cell 0; have x1 := (H0.out.off hw' (fun h => h)).cell 1; simp at x0 x1; go_simp⟩) hS ?_
        simp only [Act.put, List.setIfInBounds_toArray, List.set_cons_zero, List.set_cons_succ]
        refine take_at (i := 19) 32 (v := .agg #[.int .i64 f0, .int .i64 f1]) rfl rfl (by kernel_rfl) (by kernel_rfl) (by kernel_rfl) (fun _ _ _ h => h) (Or.inl ⟨by rfl, fun w' hw' => by have x0 := (H1.out.off hw' (fun h => h)).cell 0; have x1 := (H1.out.off hw' (fun h => h)).cell 1; simp at x0 x1; go_simp⟩) hS ?_
        simp only [Act.put, List.setIfInBounds_toArray, List.set_cons_zero, List.set_cons_succ]
        refine wpAnyH_ready (rs := [20]) (by kernel_rfl) (by simp) ?_
        refine AllReadyH.cons rfl (fun K' hK' => ?_) AllReadyH.nil
        go_simp
        refine (less_any d0 d1 f0 f1 _).mono ?_
        rw [B2.out]
        rintro e v1 ⟨rfl, o1⟩
        refine hK'.out _ _ (hS.trans o1 (fun _ _ h => h)) (fun hS => ?_)
        clear hK' K' o1
        refine take_at (i := 21) 34 (v := .bool true) rfl rfl (by kernel_rfl) (by kernel_rfl) (by kernel_rfl) (fun _ _ _ h => h) (Or.inl ⟨by rfl, fun w' hw' => by go_simp⟩) hS ?_
        simp only [Act.put, List.setIfInBounds_toArray, List.set_cons_zero, List.set_cons_succ]
        refine take_at (i := 22) 35 (v := .agg #[.int .i64 f0, .int .i64 f1]) rfl rfl (by kernel_rfl) (by kernel_rfl) (by kernel_rfl) (fun _ _ _ h => h) (Or.inl ⟨by rfl, fun w' hw' => by have x0 := (H1.out.off hw' (fun h => h)).cell 0; have x1 := (H1.out.off hw' (fun h => h)).cell 1; simp at x0 x1; go_simp⟩) hS ?_
        simp only [Act.put, List.setIfInBounds_toArray, List.set_cons_zero, List.set_cons_succ]
        refine take_at (i := 23) 36 (v := .agg #[.int .i64 g0, .int .i64 g1]) rfl rfl (by kernel_rfl) (by kernel_rfl) (by kernel_rfl) (fun _ _ _ h => h) (Or.inl ⟨by rfl, fun w' hw' => by have x0 := (H2.out.off hw' (fun h => h)).cell 0; have x1 := (H2.out.off hw' (fun h => h)).cell 1; simp at x0 x1; go_simp⟩) hS ?_
        simp only [Act.put, List.setIfInBounds_toArray, List.set_cons_zero, List.set_cons_succ]
        refine wpAnyH_ready (rs := [24]) (by kernel_rfl) (by simp) ?_
        refine AllReadyH.cons rfl (fun K' hK' => ?_) AllReadyH.nil
        go_simp
        refine (less_any f0 f1 g0 g1 _).mono ?_
        rw [B4.out]
        rintro e v1 ⟨rfl, o1⟩
        refine hK'.out _ _ (hS.trans o1 (fun _ _ h => h)) (fun hS => ?_)
        clear hK' K' o1
        refine take_at (i := 25) 38 (v := .bool true) rfl rfl (by kernel_rfl) (by kernel_rfl) (by kernel_rfl) (fun _ _ _ h => h) (Or.inl ⟨by rfl, fun w' hw' => by go_simp⟩) hS ?_
        simp only [Act.put, List.setIfInBounds_toArray, List.set_cons_zero, List.set_cons_succ]
        refine take_at (i := 26) 39 (v := .bool true) rfl rfl (by kernel_rfl) (by kernel_rfl) (by kernel_rfl) (fun _ _ _ h => h) (Or.inl ⟨by rfl, fun w' hw' => by go_simp⟩) hS ?_
        simp only [Act.put, List.setIfInBounds_toArray, List.set_cons_zero, List.set_cons_succ]
        refine take_at (i := 27) 40 (v := .agg #[.int .i64 d0, .int .i64 d1]) rfl rfl (by kernel_rfl) (by kernel_rfl) (by kernel_rfl) (fun _ _ _ h => h) (Or.inl ⟨by rfl, fun w' hw' => by have x0 := (H0.out.off hw' (fun h => h)).cell 0; have x1 := (H0.out.off hw' (fun h => h)).cell 1; simp at x0 x1; go_simp⟩) hS ?_
        simp only [Act.put, List.setIfInBounds_toArray, List.set_cons_zero, List.set_cons_succ]
        refine take_at (i := 28) 41 (v := .agg #[.int .i64 g0, .int .i64 g1]) rfl rfl (by kernel_rfl) (by kernel_rfl) (by kernel_rfl) (fun _ _ _ h => h) (Or.inl ⟨by rfl, fun w' hw' => by have x0 := (H2.out.off hw' (fun h => h)).cell 0; have x1 := (H2.out.off hw' (fun h => h)).cell 1; simp at x0 x1; go_simp⟩) hS ?_
        simp only [Act.put, List.setIfInBounds_toArray, List.set_cons_zero, List.set_cons_succ]
        refine wpAnyH_ready (rs := [29]) (by kernel_rfl) (by simp) ?_
        refine AllReadyH.cons rfl (fun K' hK' => ?_) AllReadyH.nil
        go_simp
        refine (less_any d0 d1 g0 g1 _).mono ?_
        rw [less_trans B2.out B4.out]
        rintro e v1 ⟨rfl, o1⟩
        refine hK'.out _ _ (hS.trans o1 (fun _ _ h => h)) (fun hS => ?_)
        clear hK' K' o1
        refine take_at (i := 30) 43 (v := .bool false) rfl rfl (by kernel_rfl) (by kernel_rfl) (by kernel_rfl) (fun _ _ _ h => h) (Or.inl ⟨by rfl, fun w' hw' => by go_simp⟩) hS ?_
        simp only [Act.put, List.setIfInBounds_toArray, List.set_cons_zero, List.set_cons_succ]
        refine take_at (i := 31) 44 (v := .bool false) rfl rfl (by kernel_rfl) (by kernel_rfl) (by kernel_rfl) (fun _ _ _ h => h) (Or.inl ⟨by rfl, fun w' hw' => by go_simp⟩) hS ?_
        simp only [Act.put, List.setIfInBounds_toArray, List.set_cons_zero, List.set_cons_succ]
        refine take_at (i := 32) 45 (v := .bool false) rfl rfl (by kernel_rfl) (by kernel_rfl) (by kernel_rfl) (fun _ _ _ h => h) (Or.inl ⟨by rfl, fun w' hw' => by go_simp⟩) hS ?_
        simp only [Act.put, List.setIfInBounds_toArray, List.set_cons_zero, List.set_cons_succ]
        refine wpAnyH_done (by kernel_rfl) ?_ _
        exact HK.out _ _ _ _ _ _ _ _ _ _ _ _ _ _ _ _ _ _ _ _ _ _ _ _ _ _ _ _ _ _ _ _ _ hS
      · have B4 : Hid (lessB f0 f1 g0 g1 = false) := (show lessB f0 f1 g0 g1 = false by simpa using h4)
        clear h4
        refine take_at (i := 0) 13 (v := .agg #[.int .i64 d0, .int .i64 d1]) rfl rfl (by kernel_rfl) (by kernel_rfl) (by kernel_rfl) (fun _ _ _ h => h) (Or.inl ⟨by rfl, fun w' hw' => by have x0 := (H0.out.off hw' (fun h => h)).cell 0; have x1 := (H0.out.off hw' (fun h => h)).cell 1; simp at x0 x1; go_simp⟩) hS ?_
        simp only [Act.put, List.setIfInBounds_toArray, List.set_cons_zero, List.set_cons_succ]
        refine take_at (i := 1) 14 (v := .agg #[.int .i64 d0, .int .i64 d1]) rfl rfl (by kernel_rfl) (by kernel_rfl) (by kernel_rfl) (fun _ _ _ h => h) (Or.inl ⟨by rfl, fun w' hw' => by have x0 := (H0.out.off hw' (fun h => h)).cell 0; have x1 := (H0.out.off hw' (fun h => h)).cell 1; simp at x0 x1; go_simp⟩) hS ?_
        simp only [Act.put, List.setIfInBounds_toArray, List.set_cons_zero, List.set_cons_succ]
        refine wpAnyH_ready (rs := [2]) (by kernel_rfl) (by simp) ?_
        refine AllReadyH.cons rfl (fun K' hK' => ?_) AllReadyH.nil
        go_simp
        refine (less_any d0 d1 d0 d1 _).mono ?_
        rw [less_self]
        rintro e v1 ⟨rfl, o1⟩
        refine hK'.out _ _ (hS.trans o1 (fun _ _ h => h)) (fun hS => ?_)
        clear hK' K' o1
        refine take_at (i := 3) 16 (v := .bool false) rfl rfl (by kernel_rfl) (by kernel_rfl) (by kernel_rfl) (fun _ _ _ h => h) (Or.inl ⟨by rfl, fun w' hw' => by go_simp⟩) hS ?_
        simp only [Act.put, List.setIfInBounds_toArray, List.set_cons_zero, List.set_cons_succ]
        refine take_at (i := 4) 17 (v := .agg #[.int .i64 d0, .int .i64 d1]) rfl rfl (by kernel_rfl) (by kernel_rfl) (by kernel_rfl) (fun _ _ _ h => h) (Or.inl ⟨by rfl, fun w' hw' => by have x0 := (H0.out.off hw' (fun h => h)).cell 0; have x1 := (H0.out.off hw' (fun h => h)).cell 1; simp at x0 x1; go_simp⟩) hS ?_
        simp only [Act.put, List.setIfInBounds_toArray, List.set_cons_zero, List.set_cons_succ]
        refine take_at (i := 5) 18 (v := .agg #[.int .i64 f0, .int .i64 f1]) rfl rfl (by kernel_rfl) (by kernel_rfl) (by kernel_rfl) (fun _ _ _ h => h) (Or.inl ⟨by rfl, fun w' hw' => by have x0 := (H1.out.off hw' (fun h => h)).cell 0; have x1 := (H1.out.off hw' (fun h => h)).cell 1; simp at x0 x1; go_simp⟩) hS ?_
        simp only [Act.put, List.setIfInBounds_toArray, List.set_cons_zero, List.set_cons_succ]
        refine take_at (i := 6) 19 (v := .bool true) rfl rfl (by kernel_rfl) (by kernel_rfl) (by kernel_rfl) (fun _ _ _ h => h) (Or.inl ⟨by rfl, fun w' hw' => by go_simp⟩) hS ?_
        simp only [Act.put, List.setIfInBounds_toArray, List.set_cons_zero, List.set_cons_succ]
        refine take_at (i := 7) 20 (v := .bool true) rfl rfl (by kernel_rfl) (by kernel_rfl) (by kernel_rfl) (fun _ _ _ h => h) (Or.inl ⟨by rfl, fun w' hw' => by go_simp⟩) hS ?_
        simp only [Act.put, List.setIfInBounds_toArray, List.set_cons_zero, List.set_cons_succ]
        refine take_at (i := 8) 21 (v := .agg #[.int .i64 d0, .int .i64 d1]) rfl rfl (by kernel_rfl) (by kernel_rfl) (by kernel_rfl) (fun _ _ _ h => h) (Or.inl ⟨by rfl, fun w' hw' => by have x0 := (H0.out.off hw' (fun h => h)).cell 0; have x1 := (H0.out.off hw' (fun h => h)).cell 1; simp at x0 x1; go_simp⟩) hS ?_
        simp only [Act.put, List.setIfInBounds_toArray, List.set_cons_zero, List.set_cons_succ]
        refine take_at (i := 9) 22 (v := .agg #[.int .i64 f0, .int .i64 f1]) rfl rfl (by kernel_rfl) (by kernel_rfl) (by kernel_rfl) (fun _ _ _ h => h) (Or.inl ⟨by rfl, fun w' hw' => by have x0 := (H1.out.off hw' (fun h => h)).cell 0; have x1 := (H1.out.off hw' (fun h => h)).cell 1; simp at x0 x1; go_simp⟩) hS ?_
        simp only [Act.put, List.setIfInBounds_toArray, List.set_cons_zero, List.set_cons_succ]
        refine take_at (i := 11) 24 (v := .agg #[.int .i64 f0, .int .i64 f1]) rfl rfl (by kernel_rfl) (by kernel_rfl) (by kernel_rfl) (fun _ _ _ h => h) (Or.inl ⟨by rfl, fun w' hw' => by have x0 := (H1.out.off hw' (fun h => h)).cell 0; have x1 := (H1.out.off hw' (fun h => h)).cell 1; simp at x0 x1; go_simp⟩) hS ?_
        simp only [Act.put, List.setIfInBounds_toArray, List.set_cons_zero, List.set_cons_succ]
        refine take_at (i := 12) 25 (v := .agg #[.int .i64 d0, .int .i64 d1]) rfl rfl (by kernel_rfl) (by kernel_rfl) (by kernel_rfl) (fun _ _ _ h => h) (Or.inl ⟨by rfl, fun w' hw' => by have x0 := (H0.out.off hw' (fun h => h)).cell 0; have x1 := (H0.out.off hw' (fun h => h)).cell 1; simp at x0 x1; go_simp⟩) hS ?_
        simp only [Act.put, List.setIfInBounds_toArray, List.set_cons_zero, List.set_cons_succ]
        refine wpAnyH_ready (rs := [10]) (by kernel_rfl) (by simp) ?_
        refine AllReadyH.cons rfl (fun K' hK' => ?_) AllReadyH.nil
        go_simp
        refine (less_any d0 d1 f0 f1 _).mono ?_
        rw [B2.out]
        rintro e v1 ⟨rfl, o1⟩
        refine hK'.out _ _ (hS.trans o1 (fun _ _ h => h)) (fun hS => ?_)
        clear hK' K' o1
        refine wpAnyH_ready (rs := [13]) (by kernel_rfl) (by simp) ?_
        refine AllReadyH.cons rfl (fun K' hK' => ?_) AllReadyH.nil
        go_simp
        refine (less_any f0 f1 d0 d1 _).mono ?_
        rw [B3.out]
        rintro e v1 ⟨rfl, o1⟩
        refine hK'.out _ _ (hS.trans o1 (fun _ _ h => h)) (fun hS => ?_)
        clear hK' K' o1
        refine take_at (i := 14) 27 (v := .bool false) rfl rfl (by kernel_rfl) (by kernel_rfl) (by kernel_rfl) (fun _ _ _ h => h) (Or.inl ⟨by rfl, fun w' hw' => by go_simp⟩) hS ?_
        simp only [Act.put, List.setIfInBounds_toArray, List.set_cons_zero, List.set_cons_succ]
        refine take_at (i := 15) 28 (v := .bool false) rfl rfl (by kernel_rfl) (by kernel_rfl) (by kernel_rfl) (fun _ _ _ h => h) (Or.inl ⟨by rfl, fun w' hw' => by go_simp⟩) hS ?_
        simp only [Act.put, List.setIfInBounds_toArray, List.set_cons_zero, List.set_cons_succ]
        refine take_at (i := 16) 29 (v := .bool false) rfl rfl (by kernel_rfl) (by kernel_rfl) (by kernel_rfl) (fun _ _ _ h => h) (Or.inl ⟨by rfl, fun w' hw' => by go_simp⟩) hS ?_
        simp only [Act.put, List.setIfInBounds_toArray, List.set_cons_zero, List.set_cons_succ]
        refine take_at (i := 17) 30 (v := .bool false) rfl rfl (by kernel_rfl) (by kernel_rfl) (by kernel_rfl) (fun _ _ _ h => h) (Or.inl ⟨by rfl, fun w' hw' => by go_simp⟩) hS ?_
        simp only [Act.put, List.setIfInBounds_toArray, List.set_cons_zero, List.set_cons_succ]
        refine take_at (i := 18) 31 (v := .agg #[.int .i64 d0, .int .i64 d1]) rfl rfl (by kernel_rfl) (by kernel_rfl) (by kernel_rfl) (fun _ _ _ h => h) (Or.inl ⟨by rfl, fun w' hw' => by have x0 := (H0.out.off hw' (fun h => h)).cell 0; have x1 := (H0.out.off hw' (fun h => h)).cell 1; simp at x0 x1; go_simp⟩) hS ?_
        simp only [Act.put, List.setIfInBounds_toArray, List.set_cons_zero, List.set_cons_succ]
        refine take_at (i := 19) 32 (v := .agg #[.int .i64 f0, .int .i64 f1]) rfl rfl (by kernel_rfl) (by kernel_rfl) (by kernel_rfl) (fun _ _ _ h => h) (Or.inl ⟨by rfl, fun w' hw' => by have x0 := (H1.out.off hw' (fun h => h)).cell 0; have x1 := (H1.out.off hw' (fun h => h)).cell 1; simp at x0 x1; go_simp⟩) hS ?_
        simp only [Act.put, List.setIfInBounds_toArray, List.set_cons_zero, List.set_cons_succ]
        refine wpAnyH_ready (rs := [20]) (by kernel_rfl) (by simp) ?_
        refine AllReadyH.cons rfl (fun K' hK' => ?_) AllReadyH.nil
        go_simp
        refine (less_any d0 d1 f0 f1 _).mono ?_
        rw [B2.out]
        rintro e v1 ⟨rfl, o1⟩
        refine hK'.out _ _ (hS.trans o1 (fun _ _ h => h)) (fun hS => ?_)
        clear hK' K' o1
        refine take_at (i := 21) 34 (v := .bool true) rfl rfl (by kernel_rfl) (by kernel_rfl) (by kernel_rfl) (fun _ _ _ h => h) (Or.inl ⟨by rfl, fun w' hw' => by go_simp⟩) hS ?_
        simp only [Act.put, List.setIfInBounds_toArray, List.set_cons_zero, List.set_cons_succ]
        refine take_at (i := 22) 35 (v := .agg #[.int .i64 f0, .int .i64 f1]) rfl rfl (by kernel_rfl) (by kernel_rfl) (by kernel_rfl) (fun _ _ _ h => h) (Or.inl ⟨by rfl, fun w' hw' => by have x0 := (H1.out.off hw' (fun h => h)).cell 0; have x1 := (H1.out.off hw' (fun h => h)).cell 1; simp at x0 x1; go_simp⟩) hS ?_
        simp only [Act.put, List.setIfInBounds_toArray, List.set_cons_zero, List.set_cons_succ]
        refine take_at (i := 23) 36 (v := .agg #[.int .i64 g0, .int .i64 g1]) rfl rfl (by kernel_rfl) (by kernel_rfl) (by kernel_rfl) (fun _ _ _ h => h) (Or.inl ⟨by rfl, fun w' hw' => by have x0 := (H2.out.off hw' (fun h => h)).cell 0; have x1 := (H2.out.off hw' (fun h => h)).cell 1; simp at x0 x1; go_simp⟩) hS ?_
        simp only [Act.put, List.setIfInBounds_toArray, List.set_cons_zero, List.set_cons_succ]
        refine wpAnyH_ready (rs := [24]) (by kernel_rfl) (by simp) ?_
        refine AllReadyH.cons rfl (fun K' hK' => ?_) AllReadyH.nil
        go_simp
        refine (less_any f0 f1 g0 g1 _).mono ?_
        rw [B4.out]
        rintro e v1 ⟨rfl, o1⟩
        refine hK'.out _ _ (hS.trans o1 (fun _ _ h => h)) (fun hS => ?_)
        clear hK' K' o1
        refine take_at (i := 25) 38 (v := .bool false) rfl rfl (by kernel_rfl) (by kernel_rfl) (by kernel_rfl) (fun _ _ _ h => h) (Or.inl ⟨by rfl, fun w' hw' => by go_simp⟩) hS ?_
        simp only [Act.put, List.setIfInBounds_toArray, List.set_cons_zero, List.set_cons_succ]
        refine take_at (i := 26) 39 (v := .bool false) rfl rfl (by kernel_rfl) (by kernel_rfl) (by kernel_rfl) (fun _ _ _ h => h) (Or.inl ⟨by rfl, fun w' hw' => by go_simp⟩) hS ?_
        simp only [Act.put, List.setIfInBounds_toArray, List.set_cons_zero, List.set_cons_succ]
        refine take_at (i := 27) 40 (v := undef) rfl rfl (by kernel_rfl) (by kernel_rfl) (by kernel_rfl) (fun _ _ _ h => h) (Or.inr ⟨by rfl, rfl⟩) hS ?_
        simp only [Act.put, List.setIfInBounds_toArray, List.set_cons_zero, List.set_cons_succ]
        refine take_at (i := 28) 41 (v := undef) rfl rfl (by kernel_rfl) (by kernel_rfl) (by kernel_rfl) (fun _ _ _ h => h) (Or.inr ⟨by rfl, rfl⟩) hS ?_
        simp only [Act.put, List.setIfInBounds_toArray, List.set_cons_zero, List.set_cons_succ]
        refine take_at (i := 29) 42 (v := undef) rfl rfl (by kernel_rfl) (by kernel_rfl) (by kernel_rfl) (fun _ _ _ h => h) (Or.inr ⟨by rfl, rfl⟩) hS ?_
        simp only [Act.put, List.setIfInBounds_toArray, List.set_cons_zero, List.set_cons_succ]
        refine take_at (i := 30) 43 (v := undef) rfl rfl (by kernel_rfl) (by kernel_rfl) (by kernel_rfl) (fun _ _ _ h => h) (Or.inr ⟨by rfl, rfl⟩) hS ?_
        simp only [Act.put, List.setIfInBounds_toArray, List.set_cons_zero, List.set_cons_succ]
        refine take_at (i := 31) 44 (v := .bool false) rfl rfl (by kernel_rfl) (by kernel_rfl) (by kernel_rfl) (fun _ _ _ h => h) (Or.inl ⟨by rfl, fun w' hw' => by go_simp⟩) hS ?_
        simp only [Act.put, List.setIfInBounds_toArray, List.set_cons_zero, List.set_cons_succ]
        refine take_at (i := 32) 45 (v := .bool false) rfl rfl (by kernel_rfl) (by kernel_rfl) (by kernel_rfl) (fun _ _ _ h => h) (Or.inl ⟨by rfl, fun w' hw' => by go_simp⟩) hS ?_
        simp only [Act.put, List.setIfInBounds_toArray, List.set_cons_zero, List.set_cons_succ]
        refine wpAnyH_done (by kernel_rfl) ?_ _
        exact HK.out _ _ _ _ _ _ _ _ _ _ _ _ _ _ _ _ _ _ _ _ _ _ _ _ _ _ _ _ _ _ _ _ _ hS
    · have h2 : lessB d0 d1 f0 f1 = false := by simpa using h2
      have B2 : Hid _ := h2
      have B3 : Hid (lessB f0 f1 d0 d1 = true) := by
        show lessB f0 f1 d0 d1 = true
        rw [lin, h2]
        rfl
      clear h2 lin
      refine take_at (i := 0) 13 (v := .agg #[.int .i64 d0, .int .i64 d1]) rfl rfl (by kernel_rfl) (by kernel_rfl) (by kernel_rfl) (fun _ _ _ h => h) (Or.inl ⟨by rfl, fun w' hw' => by have x0 := (H0.out.off hw' (fun h => h)).cell 0; have x1 := (H0.out.off hw' (fun h => h)).cell 1; simp at x0 x1; go_simp⟩) hS ?_
      simp only [Act.put, List.setIfInBounds_toArray, List.set_cons_zero, List.set_cons_succ]
      refine take_at (i := 1) 14 (v := .agg #[.int .i64 d0, .int .i64 d1]) rfl rfl (by kernel_rfl) (by kernel_rfl) (by kernel_rfl) (fun _ _ _ h => h) (Or.inl ⟨by rfl, fun w' hw' => by have x0 := (H0.out.off hw' (fun h => h)).cell 0; have x1 := (H0.out.off hw' (fun h => h)).cell 1; simp at x0 x1; go_simp⟩) hS ?_
      simp only [Act.put, List.setIfInBounds_toArray, List.set_cons_zero, List.set_cons_succ]
      refine wpAnyH_ready (rs := [2]) (by kernel_rfl) (by simp) ?_
      refine AllReadyH.cons rfl (fun K' hK' => ?_) AllReadyH.nil
      go_simp
      refine (less_any d0 d1 d0 d1 _).mono ?_
      rw [less_self]
      rintro e v1 ⟨rfl, o1⟩
      refine hK'.out _ _ (hS.trans o1 (fun _ _ h => h)) (fun hS => ?_)
      clear hK' K' o1
      refine take_at (i := 3) 16 (v := .bool false) rfl rfl (by kernel_rfl) (by kernel_rfl) (by kernel_rfl) (fun _ _ _ h => h) (Or.inl ⟨by rfl, fun w' hw' => by go_simp⟩) hS ?_
      simp only [Act.put, List.setIfInBounds_toArray, List.set_cons_zero, List.set_cons_succ]
      refine take_at (i := 4) 17 (v := .agg #[.int .i64 d0, .int .i64 d1]) rfl rfl (by kernel_rfl) (by kernel_rfl) (by kernel_rfl) (fun _ _ _ h => h) (Or.inl ⟨by rfl, fun w' hw' => by have x0 := (H0.out.off hw' (fun h => h)).cell 0; have x1 := (H0.out.off hw' (fun h => h)).cell 1; simp at x0 x1; go_simp⟩) hS ?_
      simp only [Act.put, List.setIfInBounds_toArray, List.set_cons_zero, List.set_cons_succ]
      refine take_at (i := 5) 18 (v := .agg #[.int .i64 f0, .int .i64 f1]) rfl rfl (by kernel_rfl) (by kernel_rfl) (by kernel_rfl) (fun _ _ _ h => h) (Or.inl ⟨by rfl, fun w' hw' => by have x0 := (H1.out.off hw' (fun h => h)).cell 0; have x1 := (H1.out.off hw' (fun h => h)).cell 1; simp at x0 x1; go_simp⟩) hS ?_
      simp only [Act.put, List.setIfInBounds_toArray, List.set_cons_zero, List.set_cons_succ]
      refine take_at (i := 6) 19 (v := .bool true) rfl rfl (by kernel_rfl) (by kernel_rfl) (by kernel_rfl) (fun _ _ _ h => h) (Or.inl ⟨by rfl, fun w' hw' => by go_simp⟩) hS ?_
      simp only [Act.put, List.setIfInBounds_toArray, List.set_cons_zero, List.set_cons_succ]
      refine take_at (i := 7) 20 (v := .bool true) rfl rfl (by kernel_rfl) (by kernel_rfl) (by kernel_rfl) (fun _ _ _ h => h) (Or.inl ⟨by rfl, fun w' hw' => by go_simp⟩) hS ?_
      simp only [Act.put, List.setIfInBounds_toArray, List.set_cons_zero, List.set_cons_succ]
      refine take_at (i := 8) 21 (v := .agg #[.int .i64 d0, .int .i64 d1]) rfl rfl (by kernel_rfl) (by kernel_rfl) (by kernel_rfl) (fun _ _ _ h => h) (Or.inl ⟨by rfl, fun w' hw' => by have x0 := (H0.out.off hw' (fun h => h)).cell 0; have x1 := (H0.out.off hw' (fun h => h)).cell 1; simp at x0 x1; go_simp⟩) hS ?_
      simp only [Act.put, List.setIfInBounds_toArray, List.set_cons_zero, List.set_cons_succ]
      refine take_at (i := 9) 22 (v := .agg #[.int .i64 f0, .int .i64 f1]) rfl rfl (by kernel_rfl) (by kernel_rfl) (by kernel_rfl) (fun _ _ _ h => h) (Or.inl ⟨by rfl, fun w' hw' => by have x0 := (H1.out.off hw' (fun h => h)).cell 0; have x1 := (H1.out.off hw' (fun h => h)).cell 1; simp at x0 x1; go_simp⟩) hS ?_
      simp only [Act.put, List.setIfInBounds_toArray, List.set_cons_zero, List.set_cons_succ]
      refine take_at (i := 11) 24 (v := .agg #[.int .i64 f0, .int .i64 f1]) rfl rfl (by kernel_rfl) (by kernel_rfl) (by kernel_rfl) (fun _ _ _ h => h) (Or.inl ⟨by rfl, fun w' hw' => by have x0 := (H1.out.off hw' (fun h => h)).cell 0; have x1 := (H1.out.off hw' (fun h => h)).cell 1; simp at x0 x1; go_simp⟩) hS ?_
      simp only [Act.put, List.setIfInBounds_toArray, List.set_cons_zero, List.set_cons_succ]
      refine take_at (i := 12) 25 (v := .agg #[.int .i64 d0, .int .i64 d1]) rfl rfl (by kernel_rfl) (by kernel_rfl) (by kernel_rfl) (fun _ _ _ h => h) (Or.inl ⟨by rfl, fun w' hw' => by have x0 := (H0.out.off hw' (fun h => h)).cell 0; have x1 := (H0.out.off hw' (fun h => h)).cell 1; simp at x0 x1; go_simp⟩) hS ?_
      simp only [Act.put, List.setIfInBounds_toArray, List.set_cons_zero, List.set_cons_succ]
      refine wpAnyH_ready (rs := [10]) (by kernel_rfl) (by simp) ?_
      refine AllReadyH.cons rfl (fun K' hK' => ?_) AllReadyH.nil
      go_simp
      refine (less_any d0 d1 f0 f1 _).mono ?_
      rw [B2.out]
      rintro e v1 ⟨rfl, o1⟩
      refine hK'.out _ _ (hS.trans o1 (fun _ _ h => h)) (fun hS => ?_)
      clear hK' K' o1
      refine wpAnyH_ready (rs := [13]) (by kernel_rfl) (by simp) ?_
      refine AllReadyH.cons rfl (fun K' hK' => ?_) AllReadyH.nil
      go_simp
      refine (less_any f0 f1 d0 d1 _).mono ?_
      rw [B3.out]
      rintro e v1 ⟨rfl, o1⟩
      refine hK'.out _ _ (hS.trans o1 (fun _ _ h => h)) (fun hS => ?_)
      clear hK' K' o1
      refine take_at (i := 14) 27 (v := .bool false) rfl rfl (by kernel_rfl) (by kernel_rfl) (by kernel_rfl) (fun _ _ _ h => h) (Or.inl ⟨by rfl, fun w' hw' => by go_simp⟩) hS ?_
      simp only [Act.put, List.setIfInBounds_toArray, List.set_cons_zero, List.set_cons_succ]
      refine take_at (i := 15) 28 (v := .bool false) rfl rfl (by kernel_rfl) (by kernel_rfl) (by kernel_rfl) (fun _ _ _ h => h) (Or.inl ⟨by rfl, fun w' hw' => by go_simp⟩) hS ?_
      simp only [Act.put, List.setIfInBounds_toArray, List.set_cons_zero, List.set_cons_succ]
      refine take_at (i := 16) 29 (v := .bool false) rfl rfl (by kernel_rfl) (by kernel_rfl) (by kernel_rfl) (fun _ _ _ h => h) (Or.inl ⟨by rfl, fun w' hw' => by go_simp⟩) hS ?_
      simp only [Act.put, List.setIfInBounds_toArray, List.set_cons_zero, List.set_cons_succ]
      refine take_at (i := 17) 30 (v := .bool false) rfl rfl (by kernel_rfl) (by kernel_rfl) (by kernel_rfl) (fun _ _ _ h => h) (Or.inl ⟨by rfl, fun w' hw' => by go_simp⟩) hS ?_
      simp only [Act.put, List.setIfInBounds_toArray, List.set_cons_zero, List.set_cons_succ]
      refine take_at (i := 18) 31 (v := .agg #[.int .i64 d0, .int .i64 d1]) rfl rfl (by kernel_rfl) (by kernel_rfl) (by kernel_rfl) (fun _ _ _ h => h) (Or.inl ⟨by rfl, fun w' hw' => by have x0 := (H0.out.off hw' (fun h => h)).cell 0; have x1 := (H0.out.off hw' (fun h => h)).cell 1; simp at x0 x1; go_simp⟩) hS ?_
      simp only [Act.put, List.setIfInBounds_toArray, List.set_cons_zero, List.set_cons_succ]
      refine take_at (i := 19) 32 (v := .agg #[.int .i64 f0, .int .i64 f1]) rfl rfl (by kernel_rfl) (by kernel_rfl) (by kernel_rfl) (fun _ _ _ h => h) (Or.inl ⟨by rfl, fun w' hw' => by have x0 := (H1.out.off hw' (fun h => h)).cell 0; have x1 := (H1.out.off hw' (fun h => h)).cell 1; simp at x0 x1; go_simp⟩) hS ?_
      simp only [Act.put, List.setIfInBounds_toArray, List.set_cons_zero, List.set_cons_succ]
      refine wpAnyH_ready (rs := [20]) (by kernel_rfl) (by simp) ?_
      refine AllReadyH.cons rfl (fun K' hK' => ?_) AllReadyH.nil
      go_simp
      refine (less_any d0 d1 f0 f1 _).mono ?_
      rw [B2.out]
      rintro e v1 ⟨rfl, o1⟩
      refine hK'.out _ _ (hS.trans o1 (fun _ _ h => h)) (fun hS => ?_)
      clear hK' K' o1
      refine take_at (i := 21) 34 (v := .bool false) rfl rfl (by kernel_rfl) (by kernel_rfl) (by kernel_rfl) (fun _ _ _ h => h) (Or.inl ⟨by rfl, fun w' hw' => by go_simp⟩) hS ?_
      simp only [Act.put, List.setIfInBounds_toArray, List.set_cons_zero, List.set_cons_succ]
      refine take_at (i := 22) 35 (v := undef) rfl rfl (by kernel_rfl) (by kernel_rfl) (by kernel_rfl) (fun _ _ _ h => h) (Or.inr ⟨by rfl, rfl⟩) hS ?_
      simp only [Act.put, List.setIfInBounds_toArray, List.set_cons_zero, List.set_cons_succ]
      refine take_at (i := 23) 36 (v := undef) rfl rfl (by kernel_rfl) (by kernel_rfl) (by kernel_rfl) (fun _ _ _ h => h) (Or.inr ⟨by rfl, rfl⟩) hS ?_
      simp only [Act.put, List.setIfInBounds_toArray, List.set_cons_zero, List.set_cons_succ]
      refine take_at (i := 24) 37 (v := undef) rfl rfl (by kernel_rfl) (by kernel_rfl) (by kernel_rfl) (fun _ _ _ h => h) (Or.inr ⟨by rfl, rfl⟩) hS ?_
      simp only [Act.put, List.setIfInBounds_toArray, List.set_cons_zero, List.set_cons_succ]
      refine take_at (i := 25) 38 (v := .bool false) rfl rfl (by kernel_rfl) (by kernel_rfl) (by kernel_rfl) (fun _ _ _ h => h) (Or.inl ⟨by rfl, fun w' hw' => by go_simp⟩) hS ?_
      simp only [Act.put, List.setIfInBounds_toArray, List.set_cons_zero, List.set_cons_succ]
      refine take_at (i := 26) 39 (v := .bool false) rfl rfl (by kernel_rfl) (by kernel_rfl) (by kernel_rfl) (fun _ _ _ h => h) (Or.inl ⟨by rfl, fun w' hw' => by go_simp⟩) hS ?_
      simp only [Act.put, List.setIfInBounds_toArray, List.set_cons_zero, List.set_cons_succ]
      refine take_at (i := 27) 40 (v := undef) rfl rfl (by kernel_rfl) (by kernel_rfl) (by kernel_rfl) (fun _ _ _ h => h) (Or.inr ⟨by rfl, rfl⟩) hS ?_
      simp only [Act.put, List.setIfInBounds_toArray, List.set_cons_zero, List.set_cons_succ]
      refine take_at (i := 28) 41 (v := undef) rfl rfl (by kernel_rfl) (by kernel_rfl) (by kernel_rfl) (fun _ _ _ h => h) (Or.inr ⟨by rfl, rfl⟩) hS ?_
      simp only [Act.put, List.setIfInBounds_toArray, List.set_cons_zero, List.set_cons_succ]
      refine take_at (i := 29) 42 (v := undef) rfl rfl (by kernel_rfl) (by kernel_rfl) (by kernel_rfl) (fun _ _ _ h => h) (Or.inr ⟨by rfl, rfl⟩) hS ?_
      simp only [Act.put, List.setIfInBounds_toArray, List.set_cons_zero, List.set_cons_succ]
      refine take_at (i := 30) 43 (v := undef) rfl rfl (by kernel_rfl) (by kernel_rfl) (by kernel_rfl) (fun _ _ _ h => h) (Or.inr ⟨by rfl, rfl⟩) hS ?_
      simp only [Act.put, List.setIfInBounds_toArray, List.set_cons_zero, List.set_cons_succ]
      refine take_at (i := 31) 44 (v := .bool false) rfl rfl (by kernel_rfl) (by kernel_rfl) (by kernel_rfl) (fun _ _ _ h => h) (Or.inl ⟨by rfl, fun w' hw' => by go_simp⟩) hS ?_
      simp only [Act.put, List.setIfInBounds_toArray, List.set_cons_zero, List.set_cons_succ]
      refine take_at (i := 32) 45 (v := .bool false) rfl rfl (by kernel_rfl) (by kernel_rfl) (by kernel_rfl) (fun _ _ _ h => h) (Or.inl ⟨by rfl, fun w' hw' => by go_simp⟩) hS ?_
      simp only [Act.put, List.setIfInBounds_toArray, List.set_cons_zero, List.set_cons_succ]
      refine wpAnyH_done (by kernel_rfl) ?_ _
      exact HK.out _ _ _ _ _ _ _ _ _ _ _ _ _ _ _ _ _ _ _ _ _ _ _ _ _ _ _ _ _ _ _ _ _ hS
end Go.Proofs.YtalcfkdmlebkbabDoor
