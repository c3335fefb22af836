/- MemberOrder. -/
import Derived.Test.YtgnchloclkjalaaMc
namespace Go.Proofs.Ytgnchloclkjalaa
set_option maxRecDepth 100000
open Go.RowKit

theorem j_comm (s i t j : Int) : jS t j s i = jS s i t j ∧ jI t j s i = jI s i t j := by
  unfold jS jI
  constructor <;> (repeat split) <;> omega
theorem j_self (s i : Int) : jS s i s i = s ∧ jI s i s i = i := by
  unfold jS jI
  constructor <;> (repeat split) <;> omega
theorem jI_max (s i t j : Int) : jI s i t j = max i j := by
  unfold jI
  (repeat split) <;> omega
theorem j_assoc (s i t j u k : Int) : jS (jS s i t j) (jI s i t j) u k = jS s i (jS t j u k) (jI t j u k) ∧ jI (jS s i t j) (jI s i t j) u k = jI s i (jS t j u k) (jI t j u k) := by
  constructor
  · rw [jI_max, jI_max]
    unfold jS
    (repeat split) <;> omega
  · simp only [jI_max]
    omega
theorem j_above (s i t j : Int) : leqM s i (jS s i t j) (jI s i t j) = true := by
  simp only [leqM, eqM, decide_eq_true_eq]
  have h := j_assoc s i s i t j
  rw [(j_self s i).1, (j_self s i).2] at h
  exact ⟨h.1.symm, h.2.symm⟩
theorem j_above2 (s i t j : Int) : leqM t j (jS s i t j) (jI s i t j) = true := by
  have := j_above t j s i
  rwa [(j_comm s i t j).1, (j_comm s i t j).2] at this
theorem leq_iff (s i t j : Int) : leqM s i t j = true ↔ jS s i t j = t ∧ jI s i t j = j := by simp [leqM, eqM]
theorem leq_tot {s i t j : Int} (h : leqM s i t j = false) : leqM t j s i = true := by
  have h : ¬ leqM s i t j = true := by simp [h]
  rw [leq_iff] at h ⊢
  revert h
  unfold jS jI
  (repeat split) <;> omega
theorem j_least {s i t j u k : Int} (h1 : leqM s i u k = true) (h2 : leqM t j u k = true) : leqM (jS s i t j) (jI s i t j) u k = true := by
  rw [leq_iff] at h1 h2 ⊢
  have h := j_assoc s i t j u k
  rw [h2.1, h2.2, h1.1, h1.2] at h
  exact h
theorem j_may {s i t j : Int} (h1 : mayB s i = true) (h2 : mayB t j = true) : mayB (jS s i t j) (jI s i t j) = true := by
  have k1 := may_of h1
  have k2 := may_of h2
  simp only [mayB, decide_eq_true_eq, jI_max]
  unfold jS
  (repeat split) <;> omega

set_option maxHeartbeats 4000000 in
theorem order_walk (s i t j u k : Int) (w : World) : Calls Try.prog 5 #[.agg #[.int .i64 s, .int .i64 i], .agg #[.int .i64 t, .int .i64 j], .agg #[.int .i64 u, .int .i64 k]] w fun e w' => e = .returned (.bool true) ∧ Off (fun _ => False) w w' := by
  have HK : Hid (∀ W, Calls Try.prog 15 #[] W fun e w' => e = .returned (.bool true) ∧ Off (fun _ => False) W w') := fun W => awake_any W
  have HM : Hid (∀ W, Calls Try.prog 10 #[.agg #[.int .i64 s, .int .i64 i]] W fun e w' => e = .returned (.bool (mayB s i)) ∧ Off (fun _ => False) W w') := fun W => may_any _ _ W
  have HN : Hid (∀ W, Calls Try.prog 10 #[.agg #[.int .i64 t, .int .i64 j]] W fun e w' => e = .returned (.bool (mayB t j)) ∧ Off (fun _ => False) W w') := fun W => may_any _ _ W
  have HP : Hid (∀ W, Calls Try.prog 10 #[.agg #[.int .i64 u, .int .i64 k]] W fun e w' => e = .returned (.bool (mayB u k)) ∧ Off (fun _ => False) W w') := fun W => may_any _ _ W
  cases h1 : mayB s i with
  | false =>
    rw [h1] at HM
    clear h1
    go_enter Try.func5, Try.ntmps5
    go_wp2_with fail
    generalize hW : ((w.alloc (.cells #[.int .i64 s, .int .i64 i] 23)).alloc (.cells #[.int .i64 t, .int .i64 j] 23)).alloc (.cells #[.int .i64 u, .int .i64 k] 23) = W
    have HO : Hid (Off (fun _ => False) w W) := by show Off _ _ _; rw [← hW]; exact (((Off.refl _ w).alloc _).alloc _).alloc _
    have HA : Hid (Cel w.heap.size 23 #[.int .i64 s, .int .i64 i] W) := by show Cel _ _ _ _; rw [← hW]; exact ((Cel.new w _ _).alloc _).alloc _
    have HB : Hid (Cel (w.heap.size + 1) 23 #[.int .i64 t, .int .i64 j] W) := by show Cel _ _ _ _; rw [← hW]; exact (Cel.new1 w _ _ _).alloc _
    have HD : Hid (Cel (w.heap.size + 2) 23 #[.int .i64 u, .int .i64 k] W) := by show Cel _ _ _ _; rw [← hW]; exact Cel.new2 w _ _ _ _
    clear hW
    refine (HM.out _).mono ?_
    rintro e w1 ⟨rfl, o9⟩
    have P1 : Hid (Off (fun _ => False) W w1) := o9
    clear o9
    have c00 : w1.cell? ⟨w.heap.size, 0, none⟩ = some (.int .i64 s) := (HA.out.off P1.out (fun h => h)).cell 0
    have c01 : w1.cell? ⟨w.heap.size, 1, none⟩ = some (.int .i64 i) := (HA.out.off P1.out (fun h => h)).cell 1
    have c10 : w1.cell? ⟨w.heap.size + 1, 0, none⟩ = some (.int .i64 t) := (HB.out.off P1.out (fun h => h)).cell 0
    have c11 : w1.cell? ⟨w.heap.size + 1, 1, none⟩ = some (.int .i64 j) := (HB.out.off P1.out (fun h => h)).cell 1
    have c20 : w1.cell? ⟨w.heap.size + 2, 0, none⟩ = some (.int .i64 u) := (HD.out.off P1.out (fun h => h)).cell 0
    have c21 : w1.cell? ⟨w.heap.size + 2, 1, none⟩ = some (.int .i64 k) := (HD.out.off P1.out (fun h => h)).cell 1
    go_wp2_with fail
    clear c00 c01 c10 c11 c20 c21
    refine (HK.out _).mono ?_
    rintro e w9 ⟨rfl, o9⟩
    go_wp2_with fail
    go_ret
    exact ⟨rfl, HO.out.trans (P1.out.trans o9 (fun _ _ h => h)) (fun _ _ h => h)⟩
  | true =>
    have K1 : Hid (mayB s i = true) := h1
    rw [h1] at HM
    clear h1
    cases h2 : mayB t j with
    | false =>
      rw [h2] at HN
      clear h2
      go_enter Try.func5, Try.ntmps5
      go_wp2_with fail
      generalize hW : ((w.alloc (.cells #[.int .i64 s, .int .i64 i] 23)).alloc (.cells #[.int .i64 t, .int .i64 j] 23)).alloc (.cells #[.int .i64 u, .int .i64 k] 23) = W
      have HO : Hid (Off (fun _ => False) w W) := by show Off _ _ _; rw [← hW]; exact (((Off.refl _ w).alloc _).alloc _).alloc _
      have HA : Hid (Cel w.heap.size 23 #[.int .i64 s, .int .i64 i] W) := by show Cel _ _ _ _; rw [← hW]; exact ((Cel.new w _ _).alloc _).alloc _
      have HB : Hid (Cel (w.heap.size + 1) 23 #[.int .i64 t, .int .i64 j] W) := by show Cel _ _ _ _; rw [← hW]; exact (Cel.new1 w _ _ _).alloc _
      have HD : Hid (Cel (w.heap.size + 2) 23 #[.int .i64 u, .int .i64 k] W) := by show Cel _ _ _ _; rw [← hW]; exact Cel.new2 w _ _ _ _
      clear hW
      refine (HM.out _).mono ?_
      rintro e w1 ⟨rfl, o9⟩
      have P1 : Hid (Off (fun _ => False) W w1) := o9
      clear o9
      have c00 : w1.cell? ⟨w.heap.size, 0, none⟩ = some (.int .i64 s) := (HA.out.off P1.out (fun h => h)).cell 0
      have c01 : w1.cell? ⟨w.heap.size, 1, none⟩ = some (.int .i64 i) := (HA.out.off P1.out (fun h => h)).cell 1
      have c10 : w1.cell? ⟨w.heap.size + 1, 0, none⟩ = some (.int .i64 t) := (HB.out.off P1.out (fun h => h)).cell 0
      have c11 : w1.cell? ⟨w.heap.size + 1, 1, none⟩ = some (.int .i64 j) := (HB.out.off P1.out (fun h => h)).cell 1
      have c20 : w1.cell? ⟨w.heap.size + 2, 0, none⟩ = some (.int .i64 u) := (HD.out.off P1.out (fun h => h)).cell 0
      have c21 : w1.cell? ⟨w.heap.size + 2, 1, none⟩ = some (.int .i64 k) := (HD.out.off P1.out (fun h => h)).cell 1
      go_wp2_with fail
      clear c00 c01 c10 c11 c20 c21
      refine (HN.out _).mono ?_
      rintro e w2 ⟨rfl, o9⟩
      have P2 : Hid (Off (fun _ => False) W w2) := P1.out.trans o9 (fun _ _ h => h)
      clear o9
      have c00 : w2.cell? ⟨w.heap.size, 0, none⟩ = some (.int .i64 s) := (HA.out.off P2.out (fun h => h)).cell 0
      have c01 : w2.cell? ⟨w.heap.size, 1, none⟩ = some (.int .i64 i) := (HA.out.off P2.out (fun h => h)).cell 1
      have c10 : w2.cell? ⟨w.heap.size + 1, 0, none⟩ = some (.int .i64 t) := (HB.out.off P2.out (fun h => h)).cell 0
      have c11 : w2.cell? ⟨w.heap.size + 1, 1, none⟩ = some (.int .i64 j) := (HB.out.off P2.out (fun h => h)).cell 1
      have c20 : w2.cell? ⟨w.heap.size + 2, 0, none⟩ = some (.int .i64 u) := (HD.out.off P2.out (fun h => h)).cell 0
      have c21 : w2.cell? ⟨w.heap.size + 2, 1, none⟩ = some (.int .i64 k) := (HD.out.off P2.out (fun h => h)).cell 1
      go_wp2_with fail
      clear c00 c01 c10 c11 c20 c21
      refine (HK.out _).mono ?_
      rintro e w9 ⟨rfl, o9⟩
      go_wp2_with fail
      go_ret
      exact ⟨rfl, HO.out.trans (P2.out.trans o9 (fun _ _ h => h)) (fun _ _ h => h)⟩
    | true =>
      have K2 : Hid (mayB t j = true) := h2
      rw [h2] at HN
      clear h2
      cases h3 : mayB u k with
      | false =>
        rw [h3] at HP
        clear h3
        go_enter Try.func5, Try.ntmps5
        go_wp2_with fail
        generalize hW : ((w.alloc (.cells #[.int .i64 s, .int .i64 i] 23)).alloc (.cells #[.int .i64 t, .int .i64 j] 23)).alloc (.cells #[.int .i64 u, .int .i64 k] 23) = W
        have HO : Hid (Off (fun _ => False) w W) := by show Off _ _ _; rw [← hW]; exact (((Off.refl _ w).alloc _).alloc _).alloc _
        have HA : Hid (Cel w.heap.size 23 #[.int .i64 s, .int .i64 i] W) := by show Cel _ _ _ _; rw [← hW]; exact ((Cel.new w _ _).alloc _).alloc _
        have HB : Hid (Cel (w.heap.size + 1) 23 #[.int .i64 t, .int .i64 j] W) := by show Cel _ _ _ _; rw [← hW]; exact (Cel.new1 w _ _ _).alloc _
        have HD : Hid (Cel (w.heap.size + 2) 23 #[.int .i64 u, .int .i64 k] W) := by show Cel _ _ _ _; rw [← hW]; exact Cel.new2 w _ _ _ _
        clear hW
        refine (HM.out _).mono ?_
        rintro e w1 ⟨rfl, o9⟩
        have P1 : Hid (Off (fun _ => False) W w1) := o9
        clear o9
        have c00 : w1.cell? ⟨w.heap.size, 0, none⟩ = some (.int .i64 s) := (HA.out.off P1.out (fun h => h)).cell 0
        have c01 : w1.cell? ⟨w.heap.size, 1, none⟩ = some (.int .i64 i) := (HA.out.off P1.out (fun h => h)).cell 1
        have c10 : w1.cell? ⟨w.heap.size + 1, 0, none⟩ = some (.int .i64 t) := (HB.out.off P1.out (fun h => h)).cell 0
        have c11 : w1.cell? ⟨w.heap.size + 1, 1, none⟩ = some (.int .i64 j) := (HB.out.off P1.out (fun h => h)).cell 1
        have c20 : w1.cell? ⟨w.heap.size + 2, 0, none⟩ = some (.int .i64 u) := (HD.out.off P1.out (fun h => h)).cell 0
        have c21 : w1.cell? ⟨w.heap.size + 2, 1, none⟩ = some (.int .i64 k) := (HD.out.off P1.out (fun h => h)).cell 1
        go_wp2_with fail
        clear c00 c01 c10 c11 c20 c21
        refine (HN.out _).mono ?_
        rintro e w2 ⟨rfl, o9⟩
        have P2 : Hid (Off (fun _ => False) W w2) := P1.out.trans o9 (fun _ _ h => h)
        clear o9
        have c00 : w2.cell? ⟨w.heap.size, 0, none⟩ = some (.int .i64 s) := (HA.out.off P2.out (fun h => h)).cell 0
        have c01 : w2.cell? ⟨w.heap.size, 1, none⟩ = some (.int .i64 i) := (HA.out.off P2.out (fun h => h)).cell 1
        have c10 : w2.cell? ⟨w.heap.size + 1, 0, none⟩ = some (.int .i64 t) := (HB.out.off P2.out (fun h => h)).cell 0
        have c11 : w2.cell? ⟨w.heap.size + 1, 1, none⟩ = some (.int .i64 j) := (HB.out.off P2.out (fun h => h)).cell 1
        have c20 : w2.cell? ⟨w.heap.size + 2, 0, none⟩ = some (.int .i64 u) := (HD.out.off P2.out (fun h => h)).cell 0
        have c21 : w2.cell? ⟨w.heap.size + 2, 1, none⟩ = some (.int .i64 k) := (HD.out.off P2.out (fun h => h)).cell 1
        go_wp2_with fail
        clear c00 c01 c10 c11 c20 c21
        refine (HP.out _).mono ?_
        rintro e w3 ⟨rfl, o9⟩
        have P3 : Hid (Off (fun _ => False) W w3) := P2.out.trans o9 (fun _ _ h => h)
        clear o9
        have c00 : w3.cell? ⟨w.heap.size, 0, none⟩ = some (.int .i64 s) := (HA.out.off P3.out (fun h => h)).cell 0
        have c01 : w3.cell? ⟨w.heap.size, 1, none⟩ = some (.int .i64 i) := (HA.out.off P3.out (fun h => h)).cell 1
        have c10 : w3.cell? ⟨w.heap.size + 1, 0, none⟩ = some (.int .i64 t) := (HB.out.off P3.out (fun h => h)).cell 0
        have c11 : w3.cell? ⟨w.heap.size + 1, 1, none⟩ = some (.int .i64 j) := (HB.out.off P3.out (fun h => h)).cell 1
        have c20 : w3.cell? ⟨w.heap.size + 2, 0, none⟩ = some (.int .i64 u) := (HD.out.off P3.out (fun h => h)).cell 0
        have c21 : w3.cell? ⟨w.heap.size + 2, 1, none⟩ = some (.int .i64 k) := (HD.out.off P3.out (fun h => h)).cell 1
        go_wp2_with fail
        clear c00 c01 c10 c11 c20 c21
        refine (HK.out _).mono ?_
        rintro e w9 ⟨rfl, o9⟩
        go_wp2_with fail
        go_ret
        exact ⟨rfl, HO.out.trans (P3.out.trans o9 (fun _ _ h => h)) (fun _ _ h => h)⟩
      | true =>
        rw [h3] at HP
        clear h3
        obtain ⟨x, y, p, q, f, g, ab, ba, ac, bc, jc, J1, J2, J3, J4, J5, J6, L1, L2, L3, L4, L5, L6, L7, MJ, F1, F2⟩ : ∃ (x y p q f g : Int) (ab ba ac bc jc : Bool), Hid (∀ W, Calls Try.prog 12 #[.agg #[.int .i64 s, .int .i64 i], .agg #[.int .i64 t, .int .i64 j]] W fun e w' => e = .returned (.agg #[.int .i64 x, .int .i64 y]) ∧ Off (fun _ => False) W w') ∧ Hid (∀ W, Calls Try.prog 12 #[.agg #[.int .i64 t, .int .i64 j], .agg #[.int .i64 s, .int .i64 i]] W fun e w' => e = .returned (.agg #[.int .i64 x, .int .i64 y]) ∧ Off (fun _ => False) W w') ∧ Hid (∀ W, Calls Try.prog 12 #[.agg #[.int .i64 s, .int .i64 i], .agg #[.int .i64 s, .int .i64 i]] W fun e w' => e = .returned (.agg #[.int .i64 s, .int .i64 i]) ∧ Off (fun _ => False) W w') ∧ Hid (∀ W, Calls Try.prog 12 #[.agg #[.int .i64 x, .int .i64 y], .agg #[.int .i64 u, .int .i64 k]] W fun e w' => e = .returned (.agg #[.int .i64 p, .int .i64 q]) ∧ Off (fun _ => False) W w') ∧ Hid (∀ W, Calls Try.prog 12 #[.agg #[.int .i64 t, .int .i64 j], .agg #[.int .i64 u, .int .i64 k]] W fun e w' => e = .returned (.agg #[.int .i64 f, .int .i64 g]) ∧ Off (fun _ => False) W w') ∧ Hid (∀ W, Calls Try.prog 12 #[.agg #[.int .i64 s, .int .i64 i], .agg #[.int .i64 f, .int .i64 g]] W fun e w' => e = .returned (.agg #[.int .i64 p, .int .i64 q]) ∧ Off (fun _ => False) W w')
            ∧ Hid (∀ W, Calls Try.prog 14 #[.agg #[.int .i64 s, .int .i64 i], .agg #[.int .i64 x, .int .i64 y]] W fun e w' => e = .returned (.bool true) ∧ Off (fun _ => False) W w') ∧ Hid (∀ W, Calls Try.prog 14 #[.agg #[.int .i64 t, .int .i64 j], .agg #[.int .i64 x, .int .i64 y]] W fun e w' => e = .returned (.bool true) ∧ Off (fun _ => False) W w') ∧ Hid (∀ W, Calls Try.prog 14 #[.agg #[.int .i64 s, .int .i64 i], .agg #[.int .i64 t, .int .i64 j]] W fun e w' => e = .returned (.bool ab) ∧ Off (fun _ => False) W w') ∧ Hid (∀ W, Calls Try.prog 14 #[.agg #[.int .i64 t, .int .i64 j], .agg #[.int .i64 s, .int .i64 i]] W fun e w' => e = .returned (.bool ba) ∧ Off (fun _ => False) W w') ∧ Hid (∀ W, Calls Try.prog 14 #[.agg #[.int .i64 s, .int .i64 i], .agg #[.int .i64 u, .int .i64 k]] W fun e w' => e = .returned (.bool ac) ∧ Off (fun _ => False) W w') ∧ Hid (∀ W, Calls Try.prog 14 #[.agg #[.int .i64 t, .int .i64 j], .agg #[.int .i64 u, .int .i64 k]] W fun e w' => e = .returned (.bool bc) ∧ Off (fun _ => False) W w') ∧ Hid (∀ W, Calls Try.prog 14 #[.agg #[.int .i64 x, .int .i64 y], .agg #[.int .i64 u, .int .i64 k]] W fun e w' => e = .returned (.bool jc) ∧ Off (fun _ => False) W w') ∧ Hid (∀ W, Calls Try.prog 10 #[.agg #[.int .i64 x, .int .i64 y]] W fun e w' => e = .returned (.bool true) ∧ Off (fun _ => False) W w') ∧ (ab = false → ba = true) ∧ (ac = true → bc = true → jc = true) := by
          refine ⟨jS s i t j, jI s i t j, jS (jS s i t j) (jI s i t j) u k, jI (jS s i t j) (jI s i t j) u k, jS t j u k, jI t j u k, leqM s i t j, leqM t j s i, leqM s i u k, leqM t j u k, leqM (jS s i t j) (jI s i t j) u k, fun W => join_any _ _ _ _ W, fun W => ?_, fun W => ?_, fun W => join_any _ _ _ _ W, fun W => join_any _ _ _ _ W, fun W => ?_, fun W => ?_, fun W => ?_, fun W => leq_any _ _ _ _ W, fun W => leq_any _ _ _ _ W, fun W => leq_any _ _ _ _ W, fun W => leq_any _ _ _ _ W, fun W => leq_any _ _ _ _ W, fun W => ?_, leq_tot, j_least⟩
          · have := join_any t j s i W
            rwa [(j_comm s i t j).1, (j_comm s i t j).2] at this
          · have := join_any s i s i W
            rwa [(j_self s i).1, (j_self s i).2] at this
          · have := join_any s i (jS t j u k) (jI t j u k) W
            rwa [← (j_assoc s i t j u k).1, ← (j_assoc s i t j u k).2] at this
          · have := leq_any s i (jS s i t j) (jI s i t j) W
            rwa [j_above] at this
          · have := leq_any t j (jS s i t j) (jI s i t j) W
            rwa [j_above2] at this
          · have := may_any (jS s i t j) (jI s i t j) W
            rwa [j_may K1.out K2.out] at this
        have G1 : Hid (ab = false → ba = true) := F1
        have G2 : Hid (ac = true → bc = true → jc = true) := F2
        clear F1 F2
        go_enter Try.func5, Try.ntmps5
        go_wp2_with fail
        generalize hW : ((w.alloc (.cells #[.int .i64 s, .int .i64 i] 23)).alloc (.cells #[.int .i64 t, .int .i64 j] 23)).alloc (.cells #[.int .i64 u, .int .i64 k] 23) = W
        have HO : Hid (Off (fun _ => False) w W) := by show Off _ _ _; rw [← hW]; exact (((Off.refl _ w).alloc _).alloc _).alloc _
        have HA : Hid (Cel w.heap.size 23 #[.int .i64 s, .int .i64 i] W) := by show Cel _ _ _ _; rw [← hW]; exact ((Cel.new w _ _).alloc _).alloc _
        have HB : Hid (Cel (w.heap.size + 1) 23 #[.int .i64 t, .int .i64 j] W) := by show Cel _ _ _ _; rw [← hW]; exact (Cel.new1 w _ _ _).alloc _
        have HD : Hid (Cel (w.heap.size + 2) 23 #[.int .i64 u, .int .i64 k] W) := by show Cel _ _ _ _; rw [← hW]; exact Cel.new2 w _ _ _ _
        clear hW
        refine (HM.out _).mono ?_
        rintro e w1 ⟨rfl, o9⟩
        have P1 : Hid (Off (fun _ => False) W w1) := o9
        clear o9
        have c00 : w1.cell? ⟨w.heap.size, 0, none⟩ = some (.int .i64 s) := (HA.out.off P1.out (fun h => h)).cell 0
        have c01 : w1.cell? ⟨w.heap.size, 1, none⟩ = some (.int .i64 i) := (HA.out.off P1.out (fun h => h)).cell 1
        have c10 : w1.cell? ⟨w.heap.size + 1, 0, none⟩ = some (.int .i64 t) := (HB.out.off P1.out (fun h => h)).cell 0
        have c11 : w1.cell? ⟨w.heap.size + 1, 1, none⟩ = some (.int .i64 j) := (HB.out.off P1.out (fun h => h)).cell 1
        have c20 : w1.cell? ⟨w.heap.size + 2, 0, none⟩ = some (.int .i64 u) := (HD.out.off P1.out (fun h => h)).cell 0
        have c21 : w1.cell? ⟨w.heap.size + 2, 1, none⟩ = some (.int .i64 k) := (HD.out.off P1.out (fun h => h)).cell 1
        go_wp2_with fail
        clear c00 c01 c10 c11 c20 c21
        refine (HN.out _).mono ?_
        rintro e w2 ⟨rfl, o9⟩
        have P2 : Hid (Off (fun _ => False) W w2) := P1.out.trans o9 (fun _ _ h => h)
        clear o9
        have c00 : w2.cell? ⟨w.heap.size, 0, none⟩ = some (.int .i64 s) := (HA.out.off P2.out (fun h => h)).cell 0
        have c01 : w2.cell? ⟨w.heap.size, 1, none⟩ = some (.int .i64 i) := (HA.out.off P2.out (fun h => h)).cell 1
        have c10 : w2.cell? ⟨w.heap.size + 1, 0, none⟩ = some (.int .i64 t) := (HB.out.off P2.out (fun h => h)).cell 0
        have c11 : w2.cell? ⟨w.heap.size + 1, 1, none⟩ = some (.int .i64 j) := (HB.out.off P2.out (fun h => h)).cell 1
        have c20 : w2.cell? ⟨w.heap.size + 2, 0, none⟩ = some (.int .i64 u) := (HD.out.off P2.out (fun h => h)).cell 0
        have c21 : w2.cell? ⟨w.heap.size + 2, 1, none⟩ = some (.int .i64 k) := (HD.out.off P2.out (fun h => h)).cell 1
        go_wp2_with fail
        clear c00 c01 c10 c11 c20 c21
        refine (HP.out _).mono ?_
        rintro e w3 ⟨rfl, o9⟩
        have P3 : Hid (Off (fun _ => False) W w3) := P2.out.trans o9 (fun _ _ h => h)
        clear o9
        have c00 : w3.cell? ⟨w.heap.size, 0, none⟩ = some (.int .i64 s) := (HA.out.off P3.out (fun h => h)).cell 0
        have c01 : w3.cell? ⟨w.heap.size, 1, none⟩ = some (.int .i64 i) := (HA.out.off P3.out (fun h => h)).cell 1
        have c10 : w3.cell? ⟨w.heap.size + 1, 0, none⟩ = some (.int .i64 t) := (HB.out.off P3.out (fun h => h)).cell 0
        have c11 : w3.cell? ⟨w.heap.size + 1, 1, none⟩ = some (.int .i64 j) := (HB.out.off P3.out (fun h => h)).cell 1
        have c20 : w3.cell? ⟨w.heap.size + 2, 0, none⟩ = some (.int .i64 u) := (HD.out.off P3.out (fun h => h)).cell 0
        have c21 : w3.cell? ⟨w.heap.size + 2, 1, none⟩ = some (.int .i64 k) := (HD.out.off P3.out (fun h => h)).cell 1
        go_wp2_with fail
        clear c00 c01 c10 c11 c20 c21
        refine (J1.out _).mono ?_
        rintro e w4 ⟨rfl, o9⟩
        have P4 : Hid (Off (fun _ => False) W w4) := P3.out.trans o9 (fun _ _ h => h)
        clear o9
        go_wp2_with fail
        generalize hU : w4.alloc (.cells #[.int .i64 x, .int .i64 y] 23) = U
        have P5 : Hid (Off (fun _ => False) W U) := by show Off _ _ _; rw [← hU]; exact P4.out.alloc _
        have XJ : Hid (Cel (w4.heap.size) 23 #[.int .i64 x, .int .i64 y] U) := by show Cel _ _ _ _; rw [← hU]; exact Cel.new w4 _ _
        have XA : Hid (Cel (w.heap.size) 23 #[.int .i64 s, .int .i64 i] U) := HA.out.off P5.out (fun h => h)
        have XB : Hid (Cel (w.heap.size + 1) 23 #[.int .i64 t, .int .i64 j] U) := HB.out.off P5.out (fun h => h)
        have XD : Hid (Cel (w.heap.size + 2) 23 #[.int .i64 u, .int .i64 k] U) := HD.out.off P5.out (fun h => h)
        have P6 : Hid (Off (fun _ => False) w U) := HO.out.trans P5.out (fun _ _ h => h)
        clear hU HM HN HP
        refine wp_region_held_drew (S := Off (fun _ => False) U) (by kernel_rfl) (Off.refl _ U).drew (fun hS => ?_)
        refine take_at (i := 0) 25 (v := .agg #[.int .i64 x, .int .i64 y]) rfl rfl (by kernel_rfl) (by kernel_rfl) (by kernel_rfl) (fun _ _ _ h => h) (Or.inl ⟨by rfl, fun w' hw' => by have x0 := (XJ.out.off hw' (fun h => h)).cell 0; have x1 := (XJ.out.off hw' (fun h => h)).cell 1; simp at x0 x1; go_simp⟩) hS ?_
        simp only [Act.put, List.setIfInBounds_toArray, List.set_cons_zero, List.set_cons_succ]
        refine take_at (i := 1) 26 (v := .agg #[.int .i64 t, .int .i64 j]) rfl rfl (by kernel_rfl) (by kernel_rfl) (by kernel_rfl) (fun _ _ _ h => h) (Or.inl ⟨by rfl, fun w' hw' => by have x0 := (XB.out.off hw' (fun h => h)).cell 0; have x1 := (XB.out.off hw' (fun h => h)).cell 1; simp at x0 x1; go_simp⟩) hS ?_
        simp only [Act.put, List.setIfInBounds_toArray, List.set_cons_zero, List.set_cons_succ]
        refine take_at (i := 2) 27 (v := .agg #[.int .i64 s, .int .i64 i]) rfl rfl (by kernel_rfl) (by kernel_rfl) (by kernel_rfl) (fun _ _ _ h => h) (Or.inl ⟨by rfl, fun w' hw' => by have x0 := (XA.out.off hw' (fun h => h)).cell 0; have x1 := (XA.out.off hw' (fun h => h)).cell 1; simp at x0 x1; go_simp⟩) hS ?_
        simp only [Act.put, List.setIfInBounds_toArray, List.set_cons_zero, List.set_cons_succ]
        refine wpAnyH_ready (rs := [3]) (by kernel_rfl) (by simp) ?_
        refine AllReadyH.cons rfl (fun K' hK' => ?_) AllReadyH.nil
        go_simp
        refine (J2.out _).mono ?_
        rintro e v ⟨rfl, o⟩
        refine hK'.out _ _ (hS.trans o (fun _ _ h => h)) (fun hS => ?_)
        clear hK' K' o
        refine take_at (i := 4) 29 (v := .bool false) rfl rfl (by kernel_rfl) (by kernel_rfl) (by kernel_rfl) (fun _ _ _ h => h) (Or.inl ⟨by rfl, fun w' hw' => by go_simp⟩) hS ?_
        simp only [Act.put, List.setIfInBounds_toArray, List.set_cons_zero, List.set_cons_succ]
        refine take_at (i := 5) 30 (v := .bool false) rfl rfl (by kernel_rfl) (by kernel_rfl) (by kernel_rfl) (fun _ _ _ h => h) (Or.inl ⟨by rfl, fun w' hw' => by go_simp⟩) hS ?_
        simp only [Act.put, List.setIfInBounds_toArray, List.set_cons_zero, List.set_cons_succ]
        refine take_at (i := 6) 31 (v := .agg #[.int .i64 s, .int .i64 i]) rfl rfl (by kernel_rfl) (by kernel_rfl) (by kernel_rfl) (fun _ _ _ h => h) (Or.inl ⟨by rfl, fun w' hw' => by have x0 := (XA.out.off hw' (fun h => h)).cell 0; have x1 := (XA.out.off hw' (fun h => h)).cell 1; simp at x0 x1; go_simp⟩) hS ?_
        simp only [Act.put, List.setIfInBounds_toArray, List.set_cons_zero, List.set_cons_succ]
        refine take_at (i := 7) 32 (v := .agg #[.int .i64 s, .int .i64 i]) rfl rfl (by kernel_rfl) (by kernel_rfl) (by kernel_rfl) (fun _ _ _ h => h) (Or.inl ⟨by rfl, fun w' hw' => by have x0 := (XA.out.off hw' (fun h => h)).cell 0; have x1 := (XA.out.off hw' (fun h => h)).cell 1; simp at x0 x1; go_simp⟩) hS ?_
        simp only [Act.put, List.setIfInBounds_toArray, List.set_cons_zero, List.set_cons_succ]
        refine take_at (i := 9) 34 (v := .agg #[.int .i64 s, .int .i64 i]) rfl rfl (by kernel_rfl) (by kernel_rfl) (by kernel_rfl) (fun _ _ _ h => h) (Or.inl ⟨by rfl, fun w' hw' => by have x0 := (XA.out.off hw' (fun h => h)).cell 0; have x1 := (XA.out.off hw' (fun h => h)).cell 1; simp at x0 x1; go_simp⟩) hS ?_
        simp only [Act.put, List.setIfInBounds_toArray, List.set_cons_zero, List.set_cons_succ]
        refine wpAnyH_ready (rs := [8]) (by kernel_rfl) (by simp) ?_
        refine AllReadyH.cons rfl (fun K' hK' => ?_) AllReadyH.nil
        go_simp
        refine (J3.out _).mono ?_
        rintro e v ⟨rfl, o⟩
        refine hK'.out _ _ (hS.trans o (fun _ _ h => h)) (fun hS => ?_)
        clear hK' K' o
        refine take_at (i := 10) 35 (v := .bool false) rfl rfl (by kernel_rfl) (by kernel_rfl) (by kernel_rfl) (fun _ _ _ h => h) (Or.inl ⟨by rfl, fun w' hw' => by go_simp⟩) hS ?_
        simp only [Act.put, List.setIfInBounds_toArray, List.set_cons_zero, List.set_cons_succ]
        refine take_at (i := 11) 36 (v := .bool false) rfl rfl (by kernel_rfl) (by kernel_rfl) (by kernel_rfl) (fun _ _ _ h => h) (Or.inl ⟨by rfl, fun w' hw' => by go_simp⟩) hS ?_
        simp only [Act.put, List.setIfInBounds_toArray, List.set_cons_zero, List.set_cons_succ]
        refine take_at (i := 12) 37 (v := .bool false) rfl rfl (by kernel_rfl) (by kernel_rfl) (by kernel_rfl) (fun _ _ _ h => h) (Or.inl ⟨by rfl, fun w' hw' => by go_simp⟩) hS ?_
        simp only [Act.put, List.setIfInBounds_toArray, List.set_cons_zero, List.set_cons_succ]
        refine take_at (i := 13) 38 (v := .agg #[.int .i64 x, .int .i64 y]) rfl rfl (by kernel_rfl) (by kernel_rfl) (by kernel_rfl) (fun _ _ _ h => h) (Or.inl ⟨by rfl, fun w' hw' => by have x0 := (XJ.out.off hw' (fun h => h)).cell 0; have x1 := (XJ.out.off hw' (fun h => h)).cell 1; simp at x0 x1; go_simp⟩) hS ?_
        simp only [Act.put, List.setIfInBounds_toArray, List.set_cons_zero, List.set_cons_succ]
        refine take_at (i := 14) 39 (v := .agg #[.int .i64 u, .int .i64 k]) rfl rfl (by kernel_rfl) (by kernel_rfl) (by kernel_rfl) (fun _ _ _ h => h) (Or.inl ⟨by rfl, fun w' hw' => by have x0 := (XD.out.off hw' (fun h => h)).cell 0; have x1 := (XD.out.off hw' (fun h => h)).cell 1; simp at x0 x1; go_simp⟩) hS ?_
        simp only [Act.put, List.setIfInBounds_toArray, List.set_cons_zero, List.set_cons_succ]
        refine take_at (i := 16) 41 (v := .agg #[.int .i64 s, .int .i64 i]) rfl rfl (by kernel_rfl) (by kernel_rfl) (by kernel_rfl) (fun _ _ _ h => h) (Or.inl ⟨by rfl, fun w' hw' => by have x0 := (XA.out.off hw' (fun h => h)).cell 0; have x1 := (XA.out.off hw' (fun h => h)).cell 1; simp at x0 x1; go_simp⟩) hS ?_
        simp only [Act.put, List.setIfInBounds_toArray, List.set_cons_zero, List.set_cons_succ]
        refine take_at (i := 17) 42 (v := .agg #[.int .i64 t, .int .i64 j]) rfl rfl (by kernel_rfl) (by kernel_rfl) (by kernel_rfl) (fun _ _ _ h => h) (Or.inl ⟨by rfl, fun w' hw' => by have x0 := (XB.out.off hw' (fun h => h)).cell 0; have x1 := (XB.out.off hw' (fun h => h)).cell 1; simp at x0 x1; go_simp⟩) hS ?_
        simp only [Act.put, List.setIfInBounds_toArray, List.set_cons_zero, List.set_cons_succ]
        refine take_at (i := 18) 43 (v := .agg #[.int .i64 u, .int .i64 k]) rfl rfl (by kernel_rfl) (by kernel_rfl) (by kernel_rfl) (fun _ _ _ h => h) (Or.inl ⟨by rfl, fun w' hw' => by have x0 := (XD.out.off hw' (fun h => h)).cell 0; have x1 := (XD.out.off hw' (fun h => h)).cell 1; simp at x0 x1; go_simp⟩) hS ?_
        simp only [Act.put, List.setIfInBounds_toArray, List.set_cons_zero, List.set_cons_succ]
        refine wpAnyH_ready (rs := [15]) (by kernel_rfl) (by simp) ?_
        refine AllReadyH.cons rfl (fun K' hK' => ?_) AllReadyH.nil
        go_simp
        refine (J4.out _).mono ?_
        rintro e v ⟨rfl, o⟩
        refine hK'.out _ _ (hS.trans o (fun _ _ h => h)) (fun hS => ?_)
        clear hK' K' o
        refine wpAnyH_ready (rs := [19]) (by kernel_rfl) (by simp) ?_
        refine AllReadyH.cons rfl (fun K' hK' => ?_) AllReadyH.nil
        go_simp
        refine (J5.out _).mono ?_
        rintro e v ⟨rfl, o⟩
        refine hK'.out _ _ (hS.trans o (fun _ _ h => h)) (fun hS => ?_)
        clear hK' K' o
        refine wpAnyH_ready (rs := [20]) (by kernel_rfl) (by simp) ?_
        refine AllReadyH.cons rfl (fun K' hK' => ?_) AllReadyH.nil
        go_simp
        refine (J6.out _).mono ?_
        rintro e v ⟨rfl, o⟩
        refine hK'.out _ _ (hS.trans o (fun _ _ h => h)) (fun hS => ?_)
        clear hK' K' o
        refine take_at (i := 21) 46 (v := .bool false) rfl rfl (by kernel_rfl) (by kernel_rfl) (by kernel_rfl) (fun _ _ _ h => h) (Or.inl ⟨by rfl, fun w' hw' => by go_simp⟩) hS ?_
        simp only [Act.put, List.setIfInBounds_toArray, List.set_cons_zero, List.set_cons_succ]
        refine take_at (i := 22) 47 (v := .bool false) rfl rfl (by kernel_rfl) (by kernel_rfl) (by kernel_rfl) (fun _ _ _ h => h) (Or.inl ⟨by rfl, fun w' hw' => by go_simp⟩) hS ?_
        simp only [Act.put, List.setIfInBounds_toArray, List.set_cons_zero, List.set_cons_succ]
        refine take_at (i := 23) 48 (v := .bool false) rfl rfl (by kernel_rfl) (by kernel_rfl) (by kernel_rfl) (fun _ _ _ h => h) (Or.inl ⟨by rfl, fun w' hw' => by go_simp⟩) hS ?_
        simp only [Act.put, List.setIfInBounds_toArray, List.set_cons_zero, List.set_cons_succ]
        refine take_at (i := 24) 49 (v := .agg #[.int .i64 s, .int .i64 i]) rfl rfl (by kernel_rfl) (by kernel_rfl) (by kernel_rfl) (fun _ _ _ h => h) (Or.inl ⟨by rfl, fun w' hw' => by have x0 := (XA.out.off hw' (fun h => h)).cell 0; have x1 := (XA.out.off hw' (fun h => h)).cell 1; simp at x0 x1; go_simp⟩) hS ?_
        simp only [Act.put, List.setIfInBounds_toArray, List.set_cons_zero, List.set_cons_succ]
        refine take_at (i := 25) 50 (v := .agg #[.int .i64 x, .int .i64 y]) rfl rfl (by kernel_rfl) (by kernel_rfl) (by kernel_rfl) (fun _ _ _ h => h) (Or.inl ⟨by rfl, fun w' hw' => by have x0 := (XJ.out.off hw' (fun h => h)).cell 0; have x1 := (XJ.out.off hw' (fun h => h)).cell 1; simp at x0 x1; go_simp⟩) hS ?_
        simp only [Act.put, List.setIfInBounds_toArray, List.set_cons_zero, List.set_cons_succ]
        refine wpAnyH_ready (rs := [26]) (by kernel_rfl) (by simp) ?_
        refine AllReadyH.cons rfl (fun K' hK' => ?_) AllReadyH.nil
        go_simp
        refine (L1.out _).mono ?_
        rintro e v ⟨rfl, o⟩
        refine hK'.out _ _ (hS.trans o (fun _ _ h => h)) (fun hS => ?_)
        clear hK' K' o
        refine take_at (i := 27) 52 (v := .bool false) rfl rfl (by kernel_rfl) (by kernel_rfl) (by kernel_rfl) (fun _ _ _ h => h) (Or.inl ⟨by rfl, fun w' hw' => by go_simp⟩) hS ?_
        simp only [Act.put, List.setIfInBounds_toArray, List.set_cons_zero, List.set_cons_succ]
        refine take_at (i := 28) 53 (v := .bool false) rfl rfl (by kernel_rfl) (by kernel_rfl) (by kernel_rfl) (fun _ _ _ h => h) (Or.inl ⟨by rfl, fun w' hw' => by go_simp⟩) hS ?_
        simp only [Act.put, List.setIfInBounds_toArray, List.set_cons_zero, List.set_cons_succ]
        refine take_at (i := 29) 54 (v := .bool false) rfl rfl (by kernel_rfl) (by kernel_rfl) (by kernel_rfl) (fun _ _ _ h => h) (Or.inl ⟨by rfl, fun w' hw' => by go_simp⟩) hS ?_
        simp only [Act.put, List.setIfInBounds_toArray, List.set_cons_zero, List.set_cons_succ]
        refine take_at (i := 30) 55 (v := .agg #[.int .i64 t, .int .i64 j]) rfl rfl (by kernel_rfl) (by kernel_rfl) (by kernel_rfl) (fun _ _ _ h => h) (Or.inl ⟨by rfl, fun w' hw' => by have x0 := (XB.out.off hw' (fun h => h)).cell 0; have x1 := (XB.out.off hw' (fun h => h)).cell 1; simp at x0 x1; go_simp⟩) hS ?_
        simp only [Act.put, List.setIfInBounds_toArray, List.set_cons_zero, List.set_cons_succ]
        refine take_at (i := 31) 56 (v := .agg #[.int .i64 x, .int .i64 y]) rfl rfl (by kernel_rfl) (by kernel_rfl) (by kernel_rfl) (fun _ _ _ h => h) (Or.inl ⟨by rfl, fun w' hw' => by have x0 := (XJ.out.off hw' (fun h => h)).cell 0; have x1 := (XJ.out.off hw' (fun h => h)).cell 1; simp at x0 x1; go_simp⟩) hS ?_
        simp only [Act.put, List.setIfInBounds_toArray, List.set_cons_zero, List.set_cons_succ]
        refine wpAnyH_ready (rs := [32]) (by kernel_rfl) (by simp) ?_
        refine AllReadyH.cons rfl (fun K' hK' => ?_) AllReadyH.nil
        go_simp
        refine (L2.out _).mono ?_
        rintro e v ⟨rfl, o⟩
        refine hK'.out _ _ (hS.trans o (fun _ _ h => h)) (fun hS => ?_)
        clear hK' K' o
        refine take_at (i := 33) 58 (v := .bool false) rfl rfl (by kernel_rfl) (by kernel_rfl) (by kernel_rfl) (fun _ _ _ h => h) (Or.inl ⟨by rfl, fun w' hw' => by go_simp⟩) hS ?_
        simp only [Act.put, List.setIfInBounds_toArray, List.set_cons_zero, List.set_cons_succ]
        refine take_at (i := 34) 59 (v := .bool false) rfl rfl (by kernel_rfl) (by kernel_rfl) (by kernel_rfl) (fun _ _ _ h => h) (Or.inl ⟨by rfl, fun w' hw' => by go_simp⟩) hS ?_
        simp only [Act.put, List.setIfInBounds_toArray, List.set_cons_zero, List.set_cons_succ]
        refine wpAnyH_done (by kernel_rfl) ?_ _
        have R0 : Hid (Off (fun _ => False) U v) := hS
        clear hS
        have c00 : v.cell? ⟨w.heap.size, 0, none⟩ = some (.int .i64 s) := (XA.out.off R0.out (fun h => h)).cell 0
        have c01 : v.cell? ⟨w.heap.size, 1, none⟩ = some (.int .i64 i) := (XA.out.off R0.out (fun h => h)).cell 1
        have c10 : v.cell? ⟨w.heap.size + 1, 0, none⟩ = some (.int .i64 t) := (XB.out.off R0.out (fun h => h)).cell 0
        have c11 : v.cell? ⟨w.heap.size + 1, 1, none⟩ = some (.int .i64 j) := (XB.out.off R0.out (fun h => h)).cell 1
        have c20 : v.cell? ⟨w.heap.size + 2, 0, none⟩ = some (.int .i64 u) := (XD.out.off R0.out (fun h => h)).cell 0
        have c21 : v.cell? ⟨w.heap.size + 2, 1, none⟩ = some (.int .i64 k) := (XD.out.off R0.out (fun h => h)).cell 1
        have c30 : v.cell? ⟨w4.heap.size, 0, none⟩ = some (.int .i64 x) := (XJ.out.off R0.out (fun h => h)).cell 0
        have c31 : v.cell? ⟨w4.heap.size, 1, none⟩ = some (.int .i64 y) := (XJ.out.off R0.out (fun h => h)).cell 1
        cases ab with
        | true =>
          cases ac with
          | false =>
            go_wp2_with fail
            clear c00 c01 c10 c11 c20 c21 c30 c31
            refine (L3.out _).mono ?_
            rintro e z1 ⟨rfl, o9⟩
            have R1 : Hid (Off (fun _ => False) U z1) := R0.out.trans o9 (fun _ _ h => h)
            clear o9
            have c00 : z1.cell? ⟨w.heap.size, 0, none⟩ = some (.int .i64 s) := (XA.out.off R1.out (fun h => h)).cell 0
            have c01 : z1.cell? ⟨w.heap.size, 1, none⟩ = some (.int .i64 i) := (XA.out.off R1.out (fun h => h)).cell 1
            have c10 : z1.cell? ⟨w.heap.size + 1, 0, none⟩ = some (.int .i64 t) := (XB.out.off R1.out (fun h => h)).cell 0
            have c11 : z1.cell? ⟨w.heap.size + 1, 1, none⟩ = some (.int .i64 j) := (XB.out.off R1.out (fun h => h)).cell 1
            have c20 : z1.cell? ⟨w.heap.size + 2, 0, none⟩ = some (.int .i64 u) := (XD.out.off R1.out (fun h => h)).cell 0
            have c21 : z1.cell? ⟨w.heap.size + 2, 1, none⟩ = some (.int .i64 k) := (XD.out.off R1.out (fun h => h)).cell 1
            have c30 : z1.cell? ⟨w4.heap.size, 0, none⟩ = some (.int .i64 x) := (XJ.out.off R1.out (fun h => h)).cell 0
            have c31 : z1.cell? ⟨w4.heap.size, 1, none⟩ = some (.int .i64 y) := (XJ.out.off R1.out (fun h => h)).cell 1
            go_wp2_with fail
            clear c00 c01 c10 c11 c20 c21 c30 c31
            refine (L5.out _).mono ?_
            rintro e z2 ⟨rfl, o9⟩
            have R2 : Hid (Off (fun _ => False) U z2) := R1.out.trans o9 (fun _ _ h => h)
            clear o9
            have c00 : z2.cell? ⟨w.heap.size, 0, none⟩ = some (.int .i64 s) := (XA.out.off R2.out (fun h => h)).cell 0
            have c01 : z2.cell? ⟨w.heap.size, 1, none⟩ = some (.int .i64 i) := (XA.out.off R2.out (fun h => h)).cell 1
            have c10 : z2.cell? ⟨w.heap.size + 1, 0, none⟩ = some (.int .i64 t) := (XB.out.off R2.out (fun h => h)).cell 0
            have c11 : z2.cell? ⟨w.heap.size + 1, 1, none⟩ = some (.int .i64 j) := (XB.out.off R2.out (fun h => h)).cell 1
            have c20 : z2.cell? ⟨w.heap.size + 2, 0, none⟩ = some (.int .i64 u) := (XD.out.off R2.out (fun h => h)).cell 0
            have c21 : z2.cell? ⟨w.heap.size + 2, 1, none⟩ = some (.int .i64 k) := (XD.out.off R2.out (fun h => h)).cell 1
            have c30 : z2.cell? ⟨w4.heap.size, 0, none⟩ = some (.int .i64 x) := (XJ.out.off R2.out (fun h => h)).cell 0
            have c31 : z2.cell? ⟨w4.heap.size, 1, none⟩ = some (.int .i64 y) := (XJ.out.off R2.out (fun h => h)).cell 1
            go_wp2_with fail
            clear c00 c01 c10 c11 c20 c21 c30 c31
            refine (MJ.out _).mono ?_
            rintro e z3 ⟨rfl, o9⟩
            have R3 : Hid (Off (fun _ => False) U z3) := R2.out.trans o9 (fun _ _ h => h)
            clear o9
            have c00 : z3.cell? ⟨w.heap.size, 0, none⟩ = some (.int .i64 s) := (XA.out.off R3.out (fun h => h)).cell 0
            have c01 : z3.cell? ⟨w.heap.size, 1, none⟩ = some (.int .i64 i) := (XA.out.off R3.out (fun h => h)).cell 1
            have c10 : z3.cell? ⟨w.heap.size + 1, 0, none⟩ = some (.int .i64 t) := (XB.out.off R3.out (fun h => h)).cell 0
            have c11 : z3.cell? ⟨w.heap.size + 1, 1, none⟩ = some (.int .i64 j) := (XB.out.off R3.out (fun h => h)).cell 1
            have c20 : z3.cell? ⟨w.heap.size + 2, 0, none⟩ = some (.int .i64 u) := (XD.out.off R3.out (fun h => h)).cell 0
            have c21 : z3.cell? ⟨w.heap.size + 2, 1, none⟩ = some (.int .i64 k) := (XD.out.off R3.out (fun h => h)).cell 1
            have c30 : z3.cell? ⟨w4.heap.size, 0, none⟩ = some (.int .i64 x) := (XJ.out.off R3.out (fun h => h)).cell 0
            have c31 : z3.cell? ⟨w4.heap.size, 1, none⟩ = some (.int .i64 y) := (XJ.out.off R3.out (fun h => h)).cell 1
            go_wp2_with fail
            clear c00 c01 c10 c11 c20 c21 c30 c31
            refine (HK.out _).mono ?_
            rintro e z9 ⟨rfl, o9⟩
            go_wp2_with fail
            go_ret
            exact ⟨rfl, P6.out.trans (R3.out.trans o9 (fun _ _ h => h)) (fun _ _ h => h)⟩
          | true =>
            cases bc with
            | false =>
              go_wp2_with fail
              clear c00 c01 c10 c11 c20 c21 c30 c31
              refine (L3.out _).mono ?_
              rintro e z1 ⟨rfl, o9⟩
              have R1 : Hid (Off (fun _ => False) U z1) := R0.out.trans o9 (fun _ _ h => h)
              clear o9
              have c00 : z1.cell? ⟨w.heap.size, 0, none⟩ = some (.int .i64 s) := (XA.out.off R1.out (fun h => h)).cell 0
              have c01 : z1.cell? ⟨w.heap.size, 1, none⟩ = some (.int .i64 i) := (XA.out.off R1.out (fun h => h)).cell 1
              have c10 : z1.cell? ⟨w.heap.size + 1, 0, none⟩ = some (.int .i64 t) := (XB.out.off R1.out (fun h => h)).cell 0
              have c11 : z1.cell? ⟨w.heap.size + 1, 1, none⟩ = some (.int .i64 j) := (XB.out.off R1.out (fun h => h)).cell 1
              have c20 : z1.cell? ⟨w.heap.size + 2, 0, none⟩ = some (.int .i64 u) := (XD.out.off R1.out (fun h => h)).cell 0
              have c21 : z1.cell? ⟨w.heap.size + 2, 1, none⟩ = some (.int .i64 k) := (XD.out.off R1.out (fun h => h)).cell 1
              have c30 : z1.cell? ⟨w4.heap.size, 0, none⟩ = some (.int .i64 x) := (XJ.out.off R1.out (fun h => h)).cell 0
              have c31 : z1.cell? ⟨w4.heap.size, 1, none⟩ = some (.int .i64 y) := (XJ.out.off R1.out (fun h => h)).cell 1
              go_wp2_with fail
              clear c00 c01 c10 c11 c20 c21 c30 c31
              refine (L5.out _).mono ?_
              rintro e z2 ⟨rfl, o9⟩
              have R2 : Hid (Off (fun _ => False) U z2) := R1.out.trans o9 (fun _ _ h => h)
              clear o9
              have c00 : z2.cell? ⟨w.heap.size, 0, none⟩ = some (.int .i64 s) := (XA.out.off R2.out (fun h => h)).cell 0
              have c01 : z2.cell? ⟨w.heap.size, 1, none⟩ = some (.int .i64 i) := (XA.out.off R2.out (fun h => h)).cell 1
              have c10 : z2.cell? ⟨w.heap.size + 1, 0, none⟩ = some (.int .i64 t) := (XB.out.off R2.out (fun h => h)).cell 0
              have c11 : z2.cell? ⟨w.heap.size + 1, 1, none⟩ = some (.int .i64 j) := (XB.out.off R2.out (fun h => h)).cell 1
              have c20 : z2.cell? ⟨w.heap.size + 2, 0, none⟩ = some (.int .i64 u) := (XD.out.off R2.out (fun h => h)).cell 0
              have c21 : z2.cell? ⟨w.heap.size + 2, 1, none⟩ = some (.int .i64 k) := (XD.out.off R2.out (fun h => h)).cell 1
              have c30 : z2.cell? ⟨w4.heap.size, 0, none⟩ = some (.int .i64 x) := (XJ.out.off R2.out (fun h => h)).cell 0
              have c31 : z2.cell? ⟨w4.heap.size, 1, none⟩ = some (.int .i64 y) := (XJ.out.off R2.out (fun h => h)).cell 1
              go_wp2_with fail
              clear c00 c01 c10 c11 c20 c21 c30 c31
              refine (L6.out _).mono ?_
              rintro e z3 ⟨rfl, o9⟩
              have R3 : Hid (Off (fun _ => False) U z3) := R2.out.trans o9 (fun _ _ h => h)
              clear o9
              have c00 : z3.cell? ⟨w.heap.size, 0, none⟩ = some (.int .i64 s) := (XA.out.off R3.out (fun h => h)).cell 0
              have c01 : z3.cell? ⟨w.heap.size, 1, none⟩ = some (.int .i64 i) := (XA.out.off R3.out (fun h => h)).cell 1
              have c10 : z3.cell? ⟨w.heap.size + 1, 0, none⟩ = some (.int .i64 t) := (XB.out.off R3.out (fun h => h)).cell 0
              have c11 : z3.cell? ⟨w.heap.size + 1, 1, none⟩ = some (.int .i64 j) := (XB.out.off R3.out (fun h => h)).cell 1
              have c20 : z3.cell? ⟨w.heap.size + 2, 0, none⟩ = some (.int .i64 u) := (XD.out.off R3.out (fun h => h)).cell 0
              have c21 : z3.cell? ⟨w.heap.size + 2, 1, none⟩ = some (.int .i64 k) := (XD.out.off R3.out (fun h => h)).cell 1
              have c30 : z3.cell? ⟨w4.heap.size, 0, none⟩ = some (.int .i64 x) := (XJ.out.off R3.out (fun h => h)).cell 0
              have c31 : z3.cell? ⟨w4.heap.size, 1, none⟩ = some (.int .i64 y) := (XJ.out.off R3.out (fun h => h)).cell 1
              go_wp2_with fail
              clear c00 c01 c10 c11 c20 c21 c30 c31
              refine (MJ.out _).mono ?_
              rintro e z4 ⟨rfl, o9⟩
              have R4 : Hid (Off (fun _ => False) U z4) := R3.out.trans o9 (fun _ _ h => h)
              clear o9
              have c00 : z4.cell? ⟨w.heap.size, 0, none⟩ = some (.int .i64 s) := (XA.out.off R4.out (fun h => h)).cell 0
              have c01 : z4.cell? ⟨w.heap.size, 1, none⟩ = some (.int .i64 i) := (XA.out.off R4.out (fun h => h)).cell 1
              have c10 : z4.cell? ⟨w.heap.size + 1, 0, none⟩ = some (.int .i64 t) := (XB.out.off R4.out (fun h => h)).cell 0
              have c11 : z4.cell? ⟨w.heap.size + 1, 1, none⟩ = some (.int .i64 j) := (XB.out.off R4.out (fun h => h)).cell 1
              have c20 : z4.cell? ⟨w.heap.size + 2, 0, none⟩ = some (.int .i64 u) := (XD.out.off R4.out (fun h => h)).cell 0
              have c21 : z4.cell? ⟨w.heap.size + 2, 1, none⟩ = some (.int .i64 k) := (XD.out.off R4.out (fun h => h)).cell 1
              have c30 : z4.cell? ⟨w4.heap.size, 0, none⟩ = some (.int .i64 x) := (XJ.out.off R4.out (fun h => h)).cell 0
              have c31 : z4.cell? ⟨w4.heap.size, 1, none⟩ = some (.int .i64 y) := (XJ.out.off R4.out (fun h => h)).cell 1
              go_wp2_with fail
              clear c00 c01 c10 c11 c20 c21 c30 c31
              refine (HK.out _).mono ?_
              rintro e z9 ⟨rfl, o9⟩
              go_wp2_with fail
              go_ret
              exact ⟨rfl, P6.out.trans (R4.out.trans o9 (fun _ _ h => h)) (fun _ _ h => h)⟩
            | true =>
              obtain rfl := G2.out rfl rfl
              go_wp2_with fail
              clear c00 c01 c10 c11 c20 c21 c30 c31
              refine (L3.out _).mono ?_
              rintro e z1 ⟨rfl, o9⟩
              have R1 : Hid (Off (fun _ => False) U z1) := R0.out.trans o9 (fun _ _ h => h)
              clear o9
              have c00 : z1.cell? ⟨w.heap.size, 0, none⟩ = some (.int .i64 s) := (XA.out.off R1.out (fun h => h)).cell 0
              have c01 : z1.cell? ⟨w.heap.size, 1, none⟩ = some (.int .i64 i) := (XA.out.off R1.out (fun h => h)).cell 1
              have c10 : z1.cell? ⟨w.heap.size + 1, 0, none⟩ = some (.int .i64 t) := (XB.out.off R1.out (fun h => h)).cell 0
              have c11 : z1.cell? ⟨w.heap.size + 1, 1, none⟩ = some (.int .i64 j) := (XB.out.off R1.out (fun h => h)).cell 1
              have c20 : z1.cell? ⟨w.heap.size + 2, 0, none⟩ = some (.int .i64 u) := (XD.out.off R1.out (fun h => h)).cell 0
              have c21 : z1.cell? ⟨w.heap.size + 2, 1, none⟩ = some (.int .i64 k) := (XD.out.off R1.out (fun h => h)).cell 1
              have c30 : z1.cell? ⟨w4.heap.size, 0, none⟩ = some (.int .i64 x) := (XJ.out.off R1.out (fun h => h)).cell 0
              have c31 : z1.cell? ⟨w4.heap.size, 1, none⟩ = some (.int .i64 y) := (XJ.out.off R1.out (fun h => h)).cell 1
              go_wp2_with fail
              clear c00 c01 c10 c11 c20 c21 c30 c31
              refine (L5.out _).mono ?_
              rintro e z2 ⟨rfl, o9⟩
              have R2 : Hid (Off (fun _ => False) U z2) := R1.out.trans o9 (fun _ _ h => h)
              clear o9
              have c00 : z2.cell? ⟨w.heap.size, 0, none⟩ = some (.int .i64 s) := (XA.out.off R2.out (fun h => h)).cell 0
              have c01 : z2.cell? ⟨w.heap.size, 1, none⟩ = some (.int .i64 i) := (XA.out.off R2.out (fun h => h)).cell 1
              have c10 : z2.cell? ⟨w.heap.size + 1, 0, none⟩ = some (.int .i64 t) := (XB.out.off R2.out (fun h => h)).cell 0
              have c11 : z2.cell? ⟨w.heap.size + 1, 1, none⟩ = some (.int .i64 j) := (XB.out.off R2.out (fun h => h)).cell 1
              have c20 : z2.cell? ⟨w.heap.size + 2, 0, none⟩ = some (.int .i64 u) := (XD.out.off R2.out (fun h => h)).cell 0
              have c21 : z2.cell? ⟨w.heap.size + 2, 1, none⟩ = some (.int .i64 k) := (XD.out.off R2.out (fun h => h)).cell 1
              have c30 : z2.cell? ⟨w4.heap.size, 0, none⟩ = some (.int .i64 x) := (XJ.out.off R2.out (fun h => h)).cell 0
              have c31 : z2.cell? ⟨w4.heap.size, 1, none⟩ = some (.int .i64 y) := (XJ.out.off R2.out (fun h => h)).cell 1
              go_wp2_with fail
              clear c00 c01 c10 c11 c20 c21 c30 c31
              refine (L6.out _).mono ?_
              rintro e z3 ⟨rfl, o9⟩
              have R3 : Hid (Off (fun _ => False) U z3) := R2.out.trans o9 (fun _ _ h => h)
              clear o9
              have c00 : z3.cell? ⟨w.heap.size, 0, none⟩ = some (.int .i64 s) := (XA.out.off R3.out (fun h => h)).cell 0
              have c01 : z3.cell? ⟨w.heap.size, 1, none⟩ = some (.int .i64 i) := (XA.out.off R3.out (fun h => h)).cell 1
              have c10 : z3.cell? ⟨w.heap.size + 1, 0, none⟩ = some (.int .i64 t) := (XB.out.off R3.out (fun h => h)).cell 0
              have c11 : z3.cell? ⟨w.heap.size + 1, 1, none⟩ = some (.int .i64 j) := (XB.out.off R3.out (fun h => h)).cell 1
              have c20 : z3.cell? ⟨w.heap.size + 2, 0, none⟩ = some (.int .i64 u) := (XD.out.off R3.out (fun h => h)).cell 0
              have c21 : z3.cell? ⟨w.heap.size + 2, 1, none⟩ = some (.int .i64 k) := (XD.out.off R3.out (fun h => h)).cell 1
              have c30 : z3.cell? ⟨w4.heap.size, 0, none⟩ = some (.int .i64 x) := (XJ.out.off R3.out (fun h => h)).cell 0
              have c31 : z3.cell? ⟨w4.heap.size, 1, none⟩ = some (.int .i64 y) := (XJ.out.off R3.out (fun h => h)).cell 1
              go_wp2_with fail
              clear c00 c01 c10 c11 c20 c21 c30 c31
              refine (L7.out _).mono ?_
              rintro e z4 ⟨rfl, o9⟩
              have R4 : Hid (Off (fun _ => False) U z4) := R3.out.trans o9 (fun _ _ h => h)
              clear o9
              have c00 : z4.cell? ⟨w.heap.size, 0, none⟩ = some (.int .i64 s) := (XA.out.off R4.out (fun h => h)).cell 0
              have c01 : z4.cell? ⟨w.heap.size, 1, none⟩ = some (.int .i64 i) := (XA.out.off R4.out (fun h => h)).cell 1
              have c10 : z4.cell? ⟨w.heap.size + 1, 0, none⟩ = some (.int .i64 t) := (XB.out.off R4.out (fun h => h)).cell 0
              have c11 : z4.cell? ⟨w.heap.size + 1, 1, none⟩ = some (.int .i64 j) := (XB.out.off R4.out (fun h => h)).cell 1
              have c20 : z4.cell? ⟨w.heap.size + 2, 0, none⟩ = some (.int .i64 u) := (XD.out.off R4.out (fun h => h)).cell 0
              have c21 : z4.cell? ⟨w.heap.size + 2, 1, none⟩ = some (.int .i64 k) := (XD.out.off R4.out (fun h => h)).cell 1
              have c30 : z4.cell? ⟨w4.heap.size, 0, none⟩ = some (.int .i64 x) := (XJ.out.off R4.out (fun h => h)).cell 0
              have c31 : z4.cell? ⟨w4.heap.size, 1, none⟩ = some (.int .i64 y) := (XJ.out.off R4.out (fun h => h)).cell 1
              go_wp2_with fail
              clear c00 c01 c10 c11 c20 c21 c30 c31
              refine (MJ.out _).mono ?_
              rintro e z5 ⟨rfl, o9⟩
              have R5 : Hid (Off (fun _ => False) U z5) := R4.out.trans o9 (fun _ _ h => h)
              clear o9
              have c00 : z5.cell? ⟨w.heap.size, 0, none⟩ = some (.int .i64 s) := (XA.out.off R5.out (fun h => h)).cell 0
              have c01 : z5.cell? ⟨w.heap.size, 1, none⟩ = some (.int .i64 i) := (XA.out.off R5.out (fun h => h)).cell 1
              have c10 : z5.cell? ⟨w.heap.size + 1, 0, none⟩ = some (.int .i64 t) := (XB.out.off R5.out (fun h => h)).cell 0
              have c11 : z5.cell? ⟨w.heap.size + 1, 1, none⟩ = some (.int .i64 j) := (XB.out.off R5.out (fun h => h)).cell 1
              have c20 : z5.cell? ⟨w.heap.size + 2, 0, none⟩ = some (.int .i64 u) := (XD.out.off R5.out (fun h => h)).cell 0
              have c21 : z5.cell? ⟨w.heap.size + 2, 1, none⟩ = some (.int .i64 k) := (XD.out.off R5.out (fun h => h)).cell 1
              have c30 : z5.cell? ⟨w4.heap.size, 0, none⟩ = some (.int .i64 x) := (XJ.out.off R5.out (fun h => h)).cell 0
              have c31 : z5.cell? ⟨w4.heap.size, 1, none⟩ = some (.int .i64 y) := (XJ.out.off R5.out (fun h => h)).cell 1
              go_wp2_with fail
              clear c00 c01 c10 c11 c20 c21 c30 c31
              refine (HK.out _).mono ?_
              rintro e z9 ⟨rfl, o9⟩
              go_wp2_with fail
              go_ret
              exact ⟨rfl, P6.out.trans (R5.out.trans o9 (fun _ _ h => h)) (fun _ _ h => h)⟩
        | false =>
          obtain rfl := G1.out rfl
          cases ac with
          | false =>
            go_wp2_with fail
            clear c00 c01 c10 c11 c20 c21 c30 c31
            refine (L3.out _).mono ?_
            rintro e z1 ⟨rfl, o9⟩
            have R1 : Hid (Off (fun _ => False) U z1) := R0.out.trans o9 (fun _ _ h => h)
            clear o9
            have c00 : z1.cell? ⟨w.heap.size, 0, none⟩ = some (.int .i64 s) := (XA.out.off R1.out (fun h => h)).cell 0
            have c01 : z1.cell? ⟨w.heap.size, 1, none⟩ = some (.int .i64 i) := (XA.out.off R1.out (fun h => h)).cell 1
            have c10 : z1.cell? ⟨w.heap.size + 1, 0, none⟩ = some (.int .i64 t) := (XB.out.off R1.out (fun h => h)).cell 0
            have c11 : z1.cell? ⟨w.heap.size + 1, 1, none⟩ = some (.int .i64 j) := (XB.out.off R1.out (fun h => h)).cell 1
            have c20 : z1.cell? ⟨w.heap.size + 2, 0, none⟩ = some (.int .i64 u) := (XD.out.off R1.out (fun h => h)).cell 0
            have c21 : z1.cell? ⟨w.heap.size + 2, 1, none⟩ = some (.int .i64 k) := (XD.out.off R1.out (fun h => h)).cell 1
            have c30 : z1.cell? ⟨w4.heap.size, 0, none⟩ = some (.int .i64 x) := (XJ.out.off R1.out (fun h => h)).cell 0
            have c31 : z1.cell? ⟨w4.heap.size, 1, none⟩ = some (.int .i64 y) := (XJ.out.off R1.out (fun h => h)).cell 1
            go_wp2_with fail
            clear c00 c01 c10 c11 c20 c21 c30 c31
            refine (L4.out _).mono ?_
            rintro e z2 ⟨rfl, o9⟩
            have R2 : Hid (Off (fun _ => False) U z2) := R1.out.trans o9 (fun _ _ h => h)
            clear o9
            have c00 : z2.cell? ⟨w.heap.size, 0, none⟩ = some (.int .i64 s) := (XA.out.off R2.out (fun h => h)).cell 0
            have c01 : z2.cell? ⟨w.heap.size, 1, none⟩ = some (.int .i64 i) := (XA.out.off R2.out (fun h => h)).cell 1
            have c10 : z2.cell? ⟨w.heap.size + 1, 0, none⟩ = some (.int .i64 t) := (XB.out.off R2.out (fun h => h)).cell 0
            have c11 : z2.cell? ⟨w.heap.size + 1, 1, none⟩ = some (.int .i64 j) := (XB.out.off R2.out (fun h => h)).cell 1
            have c20 : z2.cell? ⟨w.heap.size + 2, 0, none⟩ = some (.int .i64 u) := (XD.out.off R2.out (fun h => h)).cell 0
            have c21 : z2.cell? ⟨w.heap.size + 2, 1, none⟩ = some (.int .i64 k) := (XD.out.off R2.out (fun h => h)).cell 1
            have c30 : z2.cell? ⟨w4.heap.size, 0, none⟩ = some (.int .i64 x) := (XJ.out.off R2.out (fun h => h)).cell 0
            have c31 : z2.cell? ⟨w4.heap.size, 1, none⟩ = some (.int .i64 y) := (XJ.out.off R2.out (fun h => h)).cell 1
            go_wp2_with fail
            clear c00 c01 c10 c11 c20 c21 c30 c31
            refine (L5.out _).mono ?_
            rintro e z3 ⟨rfl, o9⟩
            have R3 : Hid (Off (fun _ => False) U z3) := R2.out.trans o9 (fun _ _ h => h)
            clear o9
            have c00 : z3.cell? ⟨w.heap.size, 0, none⟩ = some (.int .i64 s) := (XA.out.off R3.out (fun h => h)).cell 0
            have c01 : z3.cell? ⟨w.heap.size, 1, none⟩ = some (.int .i64 i) := (XA.out.off R3.out (fun h => h)).cell 1
            have c10 : z3.cell? ⟨w.heap.size + 1, 0, none⟩ = some (.int .i64 t) := (XB.out.off R3.out (fun h => h)).cell 0
            have c11 : z3.cell? ⟨w.heap.size + 1, 1, none⟩ = some (.int .i64 j) := (XB.out.off R3.out (fun h => h)).cell 1
            have c20 : z3.cell? ⟨w.heap.size + 2, 0, none⟩ = some (.int .i64 u) := (XD.out.off R3.out (fun h => h)).cell 0
            have c21 : z3.cell? ⟨w.heap.size + 2, 1, none⟩ = some (.int .i64 k) := (XD.out.off R3.out (fun h => h)).cell 1
            have c30 : z3.cell? ⟨w4.heap.size, 0, none⟩ = some (.int .i64 x) := (XJ.out.off R3.out (fun h => h)).cell 0
            have c31 : z3.cell? ⟨w4.heap.size, 1, none⟩ = some (.int .i64 y) := (XJ.out.off R3.out (fun h => h)).cell 1
            go_wp2_with fail
            clear c00 c01 c10 c11 c20 c21 c30 c31
            refine (MJ.out _).mono ?_
            rintro e z4 ⟨rfl, o9⟩
            have R4 : Hid (Off (fun _ => False) U z4) := R3.out.trans o9 (fun _ _ h => h)
            clear o9
            have c00 : z4.cell? ⟨w.heap.size, 0, none⟩ = some (.int .i64 s) := (XA.out.off R4.out (fun h => h)).cell 0
            have c01 : z4.cell? ⟨w.heap.size, 1, none⟩ = some (.int .i64 i) := (XA.out.off R4.out (fun h => h)).cell 1
            have c10 : z4.cell? ⟨w.heap.size + 1, 0, none⟩ = some (.int .i64 t) := (XB.out.off R4.out (fun h => h)).cell 0
            have c11 : z4.cell? ⟨w.heap.size + 1, 1, none⟩ = some (.int .i64 j) := (XB.out.off R4.out (fun h => h)).cell 1
            have c20 : z4.cell? ⟨w.heap.size + 2, 0, none⟩ = some (.int .i64 u) := (XD.out.off R4.out (fun h => h)).cell 0
            have c21 : z4.cell? ⟨w.heap.size + 2, 1, none⟩ = some (.int .i64 k) := (XD.out.off R4.out (fun h => h)).cell 1
            have c30 : z4.cell? ⟨w4.heap.size, 0, none⟩ = some (.int .i64 x) := (XJ.out.off R4.out (fun h => h)).cell 0
            have c31 : z4.cell? ⟨w4.heap.size, 1, none⟩ = some (.int .i64 y) := (XJ.out.off R4.out (fun h => h)).cell 1
            go_wp2_with fail
            clear c00 c01 c10 c11 c20 c21 c30 c31
            refine (HK.out _).mono ?_
            rintro e z9 ⟨rfl, o9⟩
            go_wp2_with fail
            go_ret
            exact ⟨rfl, P6.out.trans (R4.out.trans o9 (fun _ _ h => h)) (fun _ _ h => h)⟩
          | true =>
            cases bc with
            | false =>
              go_wp2_with fail
              clear c00 c01 c10 c11 c20 c21 c30 c31
              refine (L3.out _).mono ?_
              rintro e z1 ⟨rfl, o9⟩
              have R1 : Hid (Off (fun _ => False) U z1) := R0.out.trans o9 (fun _ _ h => h)
              clear o9
              have c00 : z1.cell? ⟨w.heap.size, 0, none⟩ = some (.int .i64 s) := (XA.out.off R1.out (fun h => h)).cell 0
              have c01 : z1.cell? ⟨w.heap.size, 1, none⟩ = some (.int .i64 i) := (XA.out.off R1.out (fun h => h)).cell 1
              have c10 : z1.cell? ⟨w.heap.size + 1, 0, none⟩ = some (.int .i64 t) := (XB.out.off R1.out (fun h => h)).cell 0
              have c11 : z1.cell? ⟨w.heap.size + 1, 1, none⟩ = some (.int .i64 j) := (XB.out.off R1.out (fun h => h)).cell 1
              have c20 : z1.cell? ⟨w.heap.size + 2, 0, none⟩ = some (.int .i64 u) := (XD.out.off R1.out (fun h => h)).cell 0
              have c21 : z1.cell? ⟨w.heap.size + 2, 1, none⟩ = some (.int .i64 k) := (XD.out.off R1.out (fun h => h)).cell 1
              have c30 : z1.cell? ⟨w4.heap.size, 0, none⟩ = some (.int .i64 x) := (XJ.out.off R1.out (fun h => h)).cell 0
              have c31 : z1.cell? ⟨w4.heap.size, 1, none⟩ = some (.int .i64 y) := (XJ.out.off R1.out (fun h => h)).cell 1
              go_wp2_with fail
              clear c00 c01 c10 c11 c20 c21 c30 c31
              refine (L4.out _).mono ?_
              rintro e z2 ⟨rfl, o9⟩
              have R2 : Hid (Off (fun _ => False) U z2) := R1.out.trans o9 (fun _ _ h => h)
              clear o9
              have c00 : z2.cell? ⟨w.heap.size, 0, none⟩ = some (.int .i64 s) := (XA.out.off R2.out (fun h => h)).cell 0
              have c01 : z2.cell? ⟨w.heap.size, 1, none⟩ = some (.int .i64 i) := (XA.out.off R2.out (fun h => h)).cell 1
              have c10 : z2.cell? ⟨w.heap.size + 1, 0, none⟩ = some (.int .i64 t) := (XB.out.off R2.out (fun h => h)).cell 0
              have c11 : z2.cell? ⟨w.heap.size + 1, 1, none⟩ = some (.int .i64 j) := (XB.out.off R2.out (fun h => h)).cell 1
              have c20 : z2.cell? ⟨w.heap.size + 2, 0, none⟩ = some (.int .i64 u) := (XD.out.off R2.out (fun h => h)).cell 0
              have c21 : z2.cell? ⟨w.heap.size + 2, 1, none⟩ = some (.int .i64 k) := (XD.out.off R2.out (fun h => h)).cell 1
              have c30 : z2.cell? ⟨w4.heap.size, 0, none⟩ = some (.int .i64 x) := (XJ.out.off R2.out (fun h => h)).cell 0
              have c31 : z2.cell? ⟨w4.heap.size, 1, none⟩ = some (.int .i64 y) := (XJ.out.off R2.out (fun h => h)).cell 1
              go_wp2_with fail
              clear c00 c01 c10 c11 c20 c21 c30 c31
              refine (L5.out _).mono ?_
              rintro e z3 ⟨rfl, o9⟩
              have R3 : Hid (Off (fun _ => False) U z3) := R2.out.trans o9 (fun _ _ h => h)
              clear o9
              have c00 : z3.cell? ⟨w.heap.size, 0, none⟩ = some (.int .i64 s) := (XA.out.off R3.out (fun h => h)).cell 0
              have c01 : z3.cell? ⟨w.heap.size, 1, none⟩ = some (.int .i64 i) := (XA.out.off R3.out (fun h => h)).cell 1
              have c10 : z3.cell? ⟨w.heap.size + 1, 0, none⟩ = some (.int .i64 t) := (XB.out.off R3.out (fun h => h)).cell 0
              have c11 : z3.cell? ⟨w.heap.size + 1, 1, none⟩ = some (.int .i64 j) := (XB.out.off R3.out (fun h => h)).cell 1
              have c20 : z3.cell? ⟨w.heap.size + 2, 0, none⟩ = some (.int .i64 u) := (XD.out.off R3.out (fun h => h)).cell 0
              have c21 : z3.cell? ⟨w.heap.size + 2, 1, none⟩ = some (.int .i64 k) := (XD.out.off R3.out (fun h => h)).cell 1
              have c30 : z3.cell? ⟨w4.heap.size, 0, none⟩ = some (.int .i64 x) := (XJ.out.off R3.out (fun h => h)).cell 0
              have c31 : z3.cell? ⟨w4.heap.size, 1, none⟩ = some (.int .i64 y) := (XJ.out.off R3.out (fun h => h)).cell 1
              go_wp2_with fail
              clear c00 c01 c10 c11 c20 c21 c30 c31
              refine (L6.out _).mono ?_
              rintro e z4 ⟨rfl, o9⟩
              have R4 : Hid (Off (fun _ => False) U z4) := R3.out.trans o9 (fun _ _ h => h)
              clear o9
              have c00 : z4.cell? ⟨w.heap.size, 0, none⟩ = some (.int .i64 s) := (XA.out.off R4.out (fun h => h)).cell 0
              have c01 : z4.cell? ⟨w.heap.size, 1, none⟩ = some (.int .i64 i) := (XA.out.off R4.out (fun h => h)).cell 1
              have c10 : z4.cell? ⟨w.heap.size + 1, 0, none⟩ = some (.int .i64 t) := (XB.out.off R4.out (fun h => h)).cell 0
              have c11 : z4.cell? ⟨w.heap.size + 1, 1, none⟩ = some (.int .i64 j) := (XB.out.off R4.out (fun h => h)).cell 1
              have c20 : z4.cell? ⟨w.heap.size + 2, 0, none⟩ = some (.int .i64 u) := (XD.out.off R4.out (fun h => h)).cell 0
              have c21 : z4.cell? ⟨w.heap.size + 2, 1, none⟩ = some (.int .i64 k) := (XD.out.off R4.out (fun h => h)).cell 1
              have c30 : z4.cell? ⟨w4.heap.size, 0, none⟩ = some (.int .i64 x) := (XJ.out.off R4.out (fun h => h)).cell 0
              have c31 : z4.cell? ⟨w4.heap.size, 1, none⟩ = some (.int .i64 y) := (XJ.out.off R4.out (fun h => h)).cell 1
              go_wp2_with fail
              clear c00 c01 c10 c11 c20 c21 c30 c31
              refine (MJ.out _).mono ?_
              rintro e z5 ⟨rfl, o9⟩
              have R5 : Hid (Off (fun _ => False) U z5) := R4.out.trans o9 (fun _ _ h => h)
              clear o9
              have c00 : z5.cell? ⟨w.heap.size, 0, none⟩ = some (.int .i64 s) := (XA.out.off R5.out (fun h => h)).cell 0
              have c01 : z5.cell? ⟨w.heap.size, 1, none⟩ = some (.int .i64 i) := (XA.out.off R5.out (fun h => h)).cell 1
              have c10 : z5.cell? ⟨w.heap.size + 1, 0, none⟩ = some (.int .i64 t) := (XB.out.off R5.out (fun h => h)).cell 0
              have c11 : z5.cell? ⟨w.heap.size + 1, 1, none⟩ = some (.int .i64 j) := (XB.out.off R5.out (fun h => h)).cell 1
              have c20 : z5.cell? ⟨w.heap.size + 2, 0, none⟩ = some (.int .i64 u) := (XD.out.off R5.out (fun h => h)).cell 0
              have c21 : z5.cell? ⟨w.heap.size + 2, 1, none⟩ = some (.int .i64 k) := (XD.out.off R5.out (fun h => h)).cell 1
              have c30 : z5.cell? ⟨w4.heap.size, 0, none⟩ = some (.int .i64 x) := (XJ.out.off R5.out (fun h => h)).cell 0
              have c31 : z5.cell? ⟨w4.heap.size, 1, none⟩ = some (.int .i64 y) := (XJ.out.off R5.out (fun h => h)).cell 1
              go_wp2_with fail
              clear c00 c01 c10 c11 c20 c21 c30 c31
              refine (HK.out _).mono ?_
              rintro e z9 ⟨rfl, o9⟩
              go_wp2_with fail
              go_ret
              exact ⟨rfl, P6.out.trans (R5.out.trans o9 (fun _ _ h => h)) (fun _ _ h => h)⟩
            | true =>
              obtain rfl := G2.out rfl rfl
              go_wp2_with fail
              clear c00 c01 c10 c11 c20 c21 c30 c31
              refine (L3.out _).mono ?_
              rintro e z1 ⟨rfl, o9⟩
              have R1 : Hid (Off (fun _ => False) U z1) := R0.out.trans o9 (fun _ _ h => h)
              clear o9
              have c00 : z1.cell? ⟨w.heap.size, 0, none⟩ = some (.int .i64 s) := (XA.out.off R1.out (fun h => h)).cell 0
              have c01 : z1.cell? ⟨w.heap.size, 1, none⟩ = some (.int .i64 i) := (XA.out.off R1.out (fun h => h)).cell 1
              have c10 : z1.cell? ⟨w.heap.size + 1, 0, none⟩ = some (.int .i64 t) := (XB.out.off R1.out (fun h => h)).cell 0
              have c11 : z1.cell? ⟨w.heap.size + 1, 1, none⟩ = some (.int .i64 j) := (XB.out.off R1.out (fun h => h)).cell 1
              have c20 : z1.cell? ⟨w.heap.size + 2, 0, none⟩ = some (.int .i64 u) := (XD.out.off R1.out (fun h => h)).cell 0
              have c21 : z1.cell? ⟨w.heap.size + 2, 1, none⟩ = some (.int .i64 k) := (XD.out.off R1.out (fun h => h)).cell 1
              have c30 : z1.cell? ⟨w4.heap.size, 0, none⟩ = some (.int .i64 x) := (XJ.out.off R1.out (fun h => h)).cell 0
              have c31 : z1.cell? ⟨w4.heap.size, 1, none⟩ = some (.int .i64 y) := (XJ.out.off R1.out (fun h => h)).cell 1
              go_wp2_with fail
              clear c00 c01 c10 c11 c20 c21 c30 c31
              refine (L4.out _).mono ?_
              rintro e z2 ⟨rfl, o9⟩
              have R2 : Hid (Off (fun _ => False) U z2) := R1.out.trans o9 (fun _ _ h => h)
              clear o9
              have c00 : z2.cell? ⟨w.heap.size, 0, none⟩ = some (.int .i64 s) := (XA.out.off R2.out (fun h => h)).cell 0
              have c01 : z2.cell? ⟨w.heap.size, 1, none⟩ = some (.int .i64 i) := (XA.out.off R2.out (fun h => h)).cell 1
              have c10 : z2.cell? ⟨w.heap.size + 1, 0, none⟩ = some (.int .i64 t) := (XB.out.off R2.out (fun h => h)).cell 0
              have c11 : z2.cell? ⟨w.heap.size + 1, 1, none⟩ = some (.int .i64 j) := (XB.out.off R2.out (fun h => h)).cell 1
              have c20 : z2.cell? ⟨w.heap.size + 2, 0, none⟩ = some (.int .i64 u) := (XD.out.off R2.out (fun h => h)).cell 0
              have c21 : z2.cell? ⟨w.heap.size + 2, 1, none⟩ = some (.int .i64 k) := (XD.out.off R2.out (fun h => h)).cell 1
              have c30 : z2.cell? ⟨w4.heap.size, 0, none⟩ = some (.int .i64 x) := (XJ.out.off R2.out (fun h => h)).cell 0
              have c31 : z2.cell? ⟨w4.heap.size, 1, none⟩ = some (.int .i64 y) := (XJ.out.off R2.out (fun h => h)).cell 1
              go_wp2_with fail
              clear c00 c01 c10 c11 c20 c21 c30 c31
              refine (L5.out _).mono ?_
              rintro e z3 ⟨rfl, o9⟩
              have R3 : Hid (Off (fun _ => False) U z3) := R2.out.trans o9 (fun _ _ h => h)
              clear o9
              have c00 : z3.cell? ⟨w.heap.size, 0, none⟩ = some (.int .i64 s) := (XA.out.off R3.out (fun h => h)).cell 0
              have c01 : z3.cell? ⟨w.heap.size, 1, none⟩ = some (.int .i64 i) := (XA.out.off R3.out (fun h => h)).cell 1
              have c10 : z3.cell? ⟨w.heap.size + 1, 0, none⟩ = some (.int .i64 t) := (XB.out.off R3.out (fun h => h)).cell 0
              have c11 : z3.cell? ⟨w.heap.size + 1, 1, none⟩ = some (.int .i64 j) := (XB.out.off R3.out (fun h => h)).cell 1
              have c20 : z3.cell? ⟨w.heap.size + 2, 0, none⟩ = some (.int .i64 u) := (XD.out.off R3.out (fun h => h)).cell 0
              have c21 : z3.cell? ⟨w.heap.size + 2, 1, none⟩ = some (.int .i64 k) := (XD.out.off R3.out (fun h => h)).cell 1
              have c30 : z3.cell? ⟨w4.heap.size, 0, none⟩ = some (.int .i64 x) := (XJ.out.off R3.out (fun h => h)).cell 0
              have c31 : z3.cell? ⟨w4.heap.size, 1, none⟩ = some (.int .i64 y) := (XJ.out.off R3.out (fun h => h)).cell 1
              go_wp2_with fail
              clear c00 c01 c10 c11 c20 c21 c30 c31
              refine (L6.out _).mono ?_
              rintro e z4 ⟨rfl, o9⟩
              have R4 : Hid (Off (fun _ => False) U z4) := R3.out.trans o9 (fun _ _ h => h)
              clear o9
              have c00 : z4.cell? ⟨w.heap.size, 0, none⟩ = some (.int .i64 s) := (XA.out.off R4.out (fun h => h)).cell 0
              have c01 : z4.cell? ⟨w.heap.size, 1, none⟩ = some (.int .i64 i) := (XA.out.off R4.out (fun h => h)).cell 1
              have c10 : z4.cell? ⟨w.heap.size + 1, 0, none⟩ = some (.int .i64 t) := (XB.out.off R4.out (fun h => h)).cell 0
              have c11 : z4.cell? ⟨w.heap.size + 1, 1, none⟩ = some (.int .i64 j) := (XB.out.off R4.out (fun h => h)).cell 1
              have c20 : z4.cell? ⟨w.heap.size + 2, 0, none⟩ = some (.int .i64 u) := (XD.out.off R4.out (fun h => h)).cell 0
              have c21 : z4.cell? ⟨w.heap.size + 2, 1, none⟩ = some (.int .i64 k) := (XD.out.off R4.out (fun h => h)).cell 1
              have c30 : z4.cell? ⟨w4.heap.size, 0, none⟩ = some (.int .i64 x) := (XJ.out.off R4.out (fun h => h)).cell 0
              have c31 : z4.cell? ⟨w4.heap.size, 1, none⟩ = some (.int .i64 y) := (XJ.out.off R4.out (fun h => h)).cell 1
              go_wp2_with fail
              clear c00 c01 c10 c11 c20 c21 c30 c31
              refine (L7.out _).mono ?_
              rintro e z5 ⟨rfl, o9⟩
              have R5 : Hid (Off (fun _ => False) U z5) := R4.out.trans o9 (fun _ _ h => h)
              clear o9
              have c00 : z5.cell? ⟨w.heap.size, 0, none⟩ = some (.int .i64 s) := (XA.out.off R5.out (fun h => h)).cell 0
              have c01 : z5.cell? ⟨w.heap.size, 1, none⟩ = some (.int .i64 i) := (XA.out.off R5.out (fun h => h)).cell 1
              have c10 : z5.cell? ⟨w.heap.size + 1, 0, none⟩ = some (.int .i64 t) := (XB.out.off R5.out (fun h => h)).cell 0
              have c11 : z5.cell? ⟨w.heap.size + 1, 1, none⟩ = some (.int .i64 j) := (XB.out.off R5.out (fun h => h)).cell 1
              have c20 : z5.cell? ⟨w.heap.size + 2, 0, none⟩ = some (.int .i64 u) := (XD.out.off R5.out (fun h => h)).cell 0
              have c21 : z5.cell? ⟨w.heap.size + 2, 1, none⟩ = some (.int .i64 k) := (XD.out.off R5.out (fun h => h)).cell 1
              have c30 : z5.cell? ⟨w4.heap.size, 0, none⟩ = some (.int .i64 x) := (XJ.out.off R5.out (fun h => h)).cell 0
              have c31 : z5.cell? ⟨w4.heap.size, 1, none⟩ = some (.int .i64 y) := (XJ.out.off R5.out (fun h => h)).cell 1
              go_wp2_with fail
              clear c00 c01 c10 c11 c20 c21 c30 c31
              refine (MJ.out _).mono ?_
              rintro e z6 ⟨rfl, o9⟩
              have R6 : Hid (Off (fun _ => False) U z6) := R5.out.trans o9 (fun _ _ h => h)
              clear o9
              have c00 : z6.cell? ⟨w.heap.size, 0, none⟩ = some (.int .i64 s) := (XA.out.off R6.out (fun h => h)).cell 0
              have c01 : z6.cell? ⟨w.heap.size, 1, none⟩ = some (.int .i64 i) := (XA.out.off R6.out (fun h => h)).cell 1
              have c10 : z6.cell? ⟨w.heap.size + 1, 0, none⟩ = some (.int .i64 t) := (XB.out.off R6.out (fun h => h)).cell 0
              have c11 : z6.cell? ⟨w.heap.size + 1, 1, none⟩ = some (.int .i64 j) := (XB.out.off R6.out (fun h => h)).cell 1
              have c20 : z6.cell? ⟨w.heap.size + 2, 0, none⟩ = some (.int .i64 u) := (XD.out.off R6.out (fun h => h)).cell 0
              have c21 : z6.cell? ⟨w.heap.size + 2, 1, none⟩ = some (.int .i64 k) := (XD.out.off R6.out (fun h => h)).cell 1
              have c30 : z6.cell? ⟨w4.heap.size, 0, none⟩ = some (.int .i64 x) := (XJ.out.off R6.out (fun h => h)).cell 0
              have c31 : z6.cell? ⟨w4.heap.size, 1, none⟩ = some (.int .i64 y) := (XJ.out.off R6.out (fun h => h)).cell 1
              go_wp2_with fail
              clear c00 c01 c10 c11 c20 c21 c30 c31
              refine (HK.out _).mono ?_
              rintro e z9 ⟨rfl, o9⟩
              go_wp2_with fail
              go_ret
              exact ⟨rfl, P6.out.trans (R6.out.trans o9 (fun _ _ h => h)) (fun _ _ h => h)⟩
end Go.Proofs.Ytgnchloclkjalaa
