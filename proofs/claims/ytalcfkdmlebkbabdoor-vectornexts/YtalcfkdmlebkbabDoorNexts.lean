/- VectorNexts. -/
import Derived.Test.YtalcfkdmlebkbabDoorAwake
namespace Go.Proofs.YtalcfkdmlebkbabDoor
open Go.RowKit

theorem leq_upd (f g : Nat → Int) (m i : Nat) (h : ∀ j, j < 8 → g j = if j = m then f m + i else f j) : leqB f g = true := by
  simp only [leqB, decide_eq_true_eq]
  intro j hj
  rw [h j hj]
  split
  · subst j
    omega
  · omega
set_option maxRecDepth 100000 in
set_option maxHeartbeats 2000000 in
theorem nexts_walk (f : Nat → Int) (x y : Int) (w : World) (ht : Tab w) :
    Calls Tryd.prog 4 #[.agg #[.int .i64 (f 0), .int .i64 (f 1), .int .i64 (f 2), .int .i64 (f 3), .int .i64 (f 4), .int .i64 (f 5), .int .i64 (f 6), .int .i64 (f 7)], .int .i64 x, .int .i64 y] w fun e w' => e = .returned (.bool true) ∧ Off (fun _ => False) w w' := by
  have hnot := not_any
  have HT : Hid (∀ w', Off (fun _ => False) w w' → Tab w') := fun w' h => ht.off h (fun _ _ h => h)
  clear ht
  obtain ⟨m, hm, em⟩ : ∃ m : Nat, m < 8 ∧ (IntKind.u64.wrap x).tmod 8 = (m : Int) := by
    have h0 : 0 ≤ IntKind.u64.wrap x := by rw [IntKind.wrap_u64]; omega
    refine ⟨((IntKind.u64.wrap x).tmod 8).toNat, ?_, ?_⟩
    · rw [Int.tmod_eq_emod_of_nonneg h0]; omega
    · rw [Int.tmod_eq_emod_of_nonneg h0]; omega
  obtain ⟨n, hn, en⟩ : ∃ m : Nat, m < 20 ∧ (IntKind.u64.wrap y).tmod 20 = (m : Int) := by
    have h0 : 0 ≤ IntKind.u64.wrap y := by rw [IntKind.wrap_u64]; omega
    refine ⟨((IntKind.u64.wrap y).tmod 20).toNat, ?_, ?_⟩
    · rw [Int.tmod_eq_emod_of_nonneg h0]; omega
    · rw [Int.tmod_eq_emod_of_nonneg h0]; omega
  have wm : IntKind.i64.wrap (m : Int) = (m : Int) := wrap64 (by omega) (by omega)
  have wn : IntKind.i64.wrap (n : Int) = (n : Int) := wrap64 (by omega) (by omega)
  go_enter Tryd.func4, Tryd.ntmps4
  go_wp2_with fail
  refine (may_any f _).mono ?_
  rintro e w1 ⟨rfl, o1⟩
  have C0 : Cel w.heap.size 25 #[.int .i64 (f 0), .int .i64 (f 1), .int .i64 (f 2), .int .i64 (f 3), .int .i64 (f 4), .int .i64 (f 5), .int .i64 (f 6), .int .i64 (f 7)] w1 := (Cel.new w _ _).off o1 (fun h => h)
  have O1 : Off (fun _ => False) w w1 := ((Off.refl _ w).alloc _).trans o1 (fun _ _ h => h)
  have hq0 := C0.lt
  generalize hq : w.heap.size = q0 at C0 hq0 ⊢
  have ha := at_vec q0 hm
  have hc : w1.cell? ⟨q0, m, none⟩ = some (.int .i64 (f m)) := (C0.cell m).trans (vec_get f hm)
  clear o1
  by_cases h0 : mayB f = true
  · rw [h0]
    have hmay : ∀ j, j < 8 → 0 ≤ f j ∧ f j ≤ 1099511627776 := by simpa [mayB] using h0
    clear h0
    by_cases h1 : 1099511627746 < f m
    · have e1 : decide (1099511627746 < f m) = true := by simp; omega
      go_wp2_with fail
      refine (awake_any _ (HT.out _ O1)).mono ?_
      rintro e w2 ⟨rfl, o2⟩
      go_wp2_with fail
      go_ret
      exact ⟨rfl, O1.trans o2 (fun _ _ h => h)⟩
    · have e1 : decide (1099511627746 < f m) = false := by simp; omega
      obtain ⟨c0, c1, c2, c3, c4, c5, c6, c7⟩ := cel8 C0
      go_wp2_with fail
      clear c0 c1 c2 c3 c4 c5 c6 c7
      have D0 : Cel q0 25 #[.int .i64 (f 0), .int .i64 (f 1), .int .i64 (f 2), .int .i64 (f 3), .int .i64 (f 4), .int .i64 (f 5), .int .i64 (f 6), .int .i64 (f 7)] (w1.alloc (.cells #[.int .i64 (f 0), .int .i64 (f 1), .int .i64 (f 2), .int .i64 (f 3), .int .i64 (f 4), .int .i64 (f 5), .int .i64 (f 6), .int .i64 (f 7)] 25)) := C0.alloc _
      have D7 := Cel.new w1 25 #[.int .i64 (f 0), .int .i64 (f 1), .int .i64 (f 2), .int .i64 (f 3), .int .i64 (f 4), .int .i64 (f 5), .int .i64 (f 6), .int .i64 (f 7)]
      have O2 : Off (fun _ => False) w (w1.alloc (.cells #[.int .i64 (f 0), .int .i64 (f 1), .int .i64 (f 2), .int .i64 (f 3), .int .i64 (f 4), .int .i64 (f 5), .int .i64 (f 6), .int .i64 (f 7)] 25)) := O1.alloc _
      have hs0 : w.heap.size ≤ q0 := by omega
      have hs7 : q0 < w1.heap.size := hq0
      generalize w1.heap.size = q7 at D7 hs7 ⊢
      go_loopw [33] (fun y wr => ∃ (i : Nat) (g : Nat → Int), y = .int .i64 (i : Int) ∧ i ≤ n ∧ (∀ j, j < 8 → g j = if j = m then f m + i else f j) ∧ Cel q0 25 #[.int .i64 (f 0), .int .i64 (f 1), .int .i64 (f 2), .int .i64 (f 3), .int .i64 (f 4), .int .i64 (f 5), .int .i64 (f 6), .int .i64 (f 7)] wr ∧ Cel q7 25 #[.int .i64 (g 0), .int .i64 (g 1), .int .i64 (g 2), .int .i64 (g 3), .int .i64 (g 4), .int .i64 (g 5), .int .i64 (g 6), .int .i64 (g 7)] wr ∧ Off (fun _ => False) w wr) (fun y _ => (20 - intOf y).toNat)
      case atStart =>
        refine ⟨0, f, rfl, by omega, fun j hj => ?_, D0, D7, O2⟩
        split
        · subst j; omega
        · rfl
      case round =>
        clear D0 D7 O2 C0 O1 hc
        obtain ⟨i, g, rfl, hi, hg, cf, cg, O⟩ := hrel
        have HG : Hid _ := hg
        have CF : Hid _ := cf
        have CG : Hid _ := cg
        clear hg cf cg
        by_cases h : i < n
        · have hd : decide ((i : Int) < (n : Int)) = true := by simp; omega
          have hgm : g m = f m + i := by have := HG.out m hm; simpa using this
          have hfm := hmay m hm
          have nv : nextV g m = ((m : Int), g m + 1, 0) := by
            have hb : nodeB m = true := by simp [nodeB]; omega
            simp only [nextV, hb, Int.toNat_natCast]
            simp
            omega
          have grange : ∀ j, j < 8 → -9223372036854775808 ≤ g j := by
            intro j hj
            rw [HG.out j hj]
            have := hmay j hj
            split <;> omega
          have NX := next_any g grange m
          rw [nv] at NX
          obtain ⟨N, hN⟩ : ∃ N, N = g m + 1 := ⟨_, rfl⟩
          rw [← hN] at NX
          have WT := with_any g m N
          have ew : withV g m N = upd g m N := by
            have hb : nodeB m = true := by simp [nodeB]; omega
            simp only [withV, hb, Int.toNat_natCast, if_true]
            rw [show max (g m) N = N by omega]
          rw [ew] at WT
          have HNX : Hid _ := NX
          have HWT : Hid _ := WT
          have HN : Hid (N = f m + i + 1) := (show N = f m + i + 1 by omega)
          clear NX WT ew nv hN hgm
          obtain ⟨c0, c1, c2, c3, c4, c5, c6, c7⟩ := cel8 CG.out
          go_wp2_with fail
          clear c0 c1 c2 c3 c4 c5 c6 c7
          refine (HNX.out _).mono ?_
          rintro e v1 ⟨rfl, o1⟩
          have F1 := CF.out.off o1 (fun h => h)
          have G1 := CG.out.off o1 (fun h => h)
          replace O := O.trans o1 (fun _ _ h => h)
          clear o1
          go_wp2_with fail
          obtain ⟨V, hV⟩ : ∃ V, V = v1.alloc (.cells #[.int .i64 (m : Int), .int .i64 N] 23) := ⟨_, rfl⟩
          have G9 : Cel v1.heap.size 23 #[.int .i64 (m : Int), .int .i64 N] V := by rw [hV]; exact Cel.new v1 _ _
          replace F1 : Cel q0 25 #[.int .i64 (f 0), .int .i64 (f 1), .int .i64 (f 2), .int .i64 (f 3), .int .i64 (f 4), .int .i64 (f 5), .int .i64 (f 6), .int .i64 (f 7)] V := by rw [hV]; exact F1.alloc _
          replace G1 : Cel q7 25 #[.int .i64 (g 0), .int .i64 (g 1), .int .i64 (g 2), .int .i64 (g 3), .int .i64 (g 4), .int .i64 (g 5), .int .i64 (g 6), .int .i64 (g 7)] V := by rw [hV]; exact G1.alloc _
          replace O : Off (fun _ => False) w V := by rw [hV]; exact O.alloc _
          rw [← hV]
          clear hV
          generalize v1.heap.size = q9 at G9 ⊢
          have xd0 : V.cell? ⟨q9, 0, none⟩ = some (.int .i64 (m : Int)) := G9.cell 0
          have xd1 : V.cell? ⟨q9, 1, none⟩ = some (.int .i64 N) := G9.cell 1
          have xf : V.cell? ⟨q0, m, none⟩ = some (.int .i64 (f m)) := (F1.cell m).trans (vec_get f hm)
          have ew1 : IntKind.i64.wrap (f m + (i : Int)) = f m + i := wrap64 (by omega) (by omega)
          have ew2 : IntKind.i64.wrap (f m + (i : Int) + 1) = N := by rw [HN.out]; exact wrap64 (by omega) (by omega)
          refine wp_region_held_drew (S := fun w' => w' = V.drew) (by kernel_rfl) rfl (fun hS => ?_)
          refine take_at (i := 0) 42 (v := .int .i64 0) rfl rfl (by kernel_rfl) (by kernel_rfl) (by kernel_rfl) (fun _ _ _ h => h) (Or.inl ⟨by rfl, fun w' hw' => by subst hw'; go_simp⟩) hS ?_
          simp only [Act.put, List.setIfInBounds_toArray, List.set_cons_zero, List.set_cons_succ]
          refine take_at (i := 1) 43 (v := .bool false) rfl rfl (by kernel_rfl) (by kernel_rfl) (by kernel_rfl) (fun _ _ _ h => h) (Or.inl ⟨by rfl, fun w' hw' => by subst hw'; go_simp⟩) hS ?_
          simp only [Act.put, List.setIfInBounds_toArray, List.set_cons_zero, List.set_cons_succ]
          refine take_at (i := 2) 44 (v := .bool false) rfl rfl (by kernel_rfl) (by kernel_rfl) (by kernel_rfl) (fun _ _ _ h => h) (Or.inl ⟨by rfl, fun w' hw' => by subst hw'; go_simp⟩) hS ?_
          simp only [Act.put, List.setIfInBounds_toArray, List.set_cons_zero, List.set_cons_succ]
          refine take_at (i := 3) 45 (v := .pointer (some ⟨q9, 0, none⟩)) rfl rfl (by kernel_rfl) (by kernel_rfl) (by kernel_rfl) (fun _ _ _ h => h) (Or.inl ⟨by rfl, fun w' hw' => by subst hw'; go_simp⟩) hS ?_
          simp only [Act.put, List.setIfInBounds_toArray, List.set_cons_zero, List.set_cons_succ]
          refine take_at (i := 4) 46 (v := .int .i64 (m : Int)) rfl rfl (by kernel_rfl) (by kernel_rfl) (by kernel_rfl) (fun _ _ _ h => h) (Or.inl ⟨by rfl, fun w' hw' => by subst hw'; have x := xd0; go_simp⟩) hS ?_
          simp only [Act.put, List.setIfInBounds_toArray, List.set_cons_zero, List.set_cons_succ]
          refine take_at (i := 5) 47 (v := .int .i64 (m : Int)) rfl rfl (by kernel_rfl) (by kernel_rfl) (by kernel_rfl) (fun _ _ _ h => h) (Or.inl ⟨by rfl, fun w' hw' => by subst hw'; go_simp⟩) hS ?_
          simp only [Act.put, List.setIfInBounds_toArray, List.set_cons_zero, List.set_cons_succ]
          refine take_at (i := 6) 48 (v := .bool false) rfl rfl (by kernel_rfl) (by kernel_rfl) (by kernel_rfl) (fun _ _ _ h => h) (Or.inl ⟨by rfl, fun w' hw' => by subst hw'; go_simp⟩) hS ?_
          simp only [Act.put, List.setIfInBounds_toArray, List.set_cons_zero, List.set_cons_succ]
          refine take_at (i := 7) 49 (v := .bool false) rfl rfl (by kernel_rfl) (by kernel_rfl) (by kernel_rfl) (fun _ _ _ h => h) (Or.inl ⟨by rfl, fun w' hw' => by subst hw'; go_simp⟩) hS ?_
          simp only [Act.put, List.setIfInBounds_toArray, List.set_cons_zero, List.set_cons_succ]
          refine take_at (i := 8) 50 (v := .bool false) rfl rfl (by kernel_rfl) (by kernel_rfl) (by kernel_rfl) (fun _ _ _ h => h) (Or.inl ⟨by rfl, fun w' hw' => by subst hw'; go_simp⟩) hS ?_
          simp only [Act.put, List.setIfInBounds_toArray, List.set_cons_zero, List.set_cons_succ]
          refine take_at (i := 9) 51 (v := .pointer (some ⟨q9, 1, none⟩)) rfl rfl (by kernel_rfl) (by kernel_rfl) (by kernel_rfl) (fun _ _ _ h => h) (Or.inl ⟨by rfl, fun w' hw' => by subst hw'; go_simp⟩) hS ?_
          simp only [Act.put, List.setIfInBounds_toArray, List.set_cons_zero, List.set_cons_succ]
          refine take_at (i := 10) 52 (v := .int .i64 N) rfl rfl (by kernel_rfl) (by kernel_rfl) (by kernel_rfl) (fun _ _ _ h => h) (Or.inl ⟨by rfl, fun w' hw' => by subst hw'; have x := xd1; go_simp⟩) hS ?_
          simp only [Act.put, List.setIfInBounds_toArray, List.set_cons_zero, List.set_cons_succ]
          refine take_at (i := 11) 53 (v := .int .i64 (m : Int)) rfl rfl (by kernel_rfl) (by kernel_rfl) (by kernel_rfl) (fun _ _ _ h => h) (Or.inl ⟨by rfl, fun w' hw' => by subst hw'; go_simp⟩) hS ?_
          simp only [Act.put, List.setIfInBounds_toArray, List.set_cons_zero, List.set_cons_succ]
          refine take_at (i := 12) 54 (v := .pointer (some ⟨q0, m, none⟩)) rfl rfl (by kernel_rfl) (by kernel_rfl) (by kernel_rfl) (fun _ _ _ h => h) (Or.inl ⟨by rfl, fun w' hw' => by subst hw'; go_simp⟩) hS ?_
          simp only [Act.put, List.setIfInBounds_toArray, List.set_cons_zero, List.set_cons_succ]
          refine take_at (i := 13) 55 (v := .int .i64 (f m)) rfl rfl (by kernel_rfl) (by kernel_rfl) (by kernel_rfl) (fun _ _ _ h => h) (Or.inl ⟨by rfl, fun w' hw' => by subst hw'; have x := xf; go_simp⟩) hS ?_
          simp only [Act.put, List.setIfInBounds_toArray, List.set_cons_zero, List.set_cons_succ]
          refine take_at (i := 14) 56 (v := .int .i64 (i : Int)) rfl rfl (by kernel_rfl) (by kernel_rfl) (by kernel_rfl) (fun _ _ _ h => h) (Or.inl ⟨by rfl, fun w' hw' => by subst hw'; go_simp⟩) hS ?_
          simp only [Act.put, List.setIfInBounds_toArray, List.set_cons_zero, List.set_cons_succ]
          refine take_at (i := 15) 57 (v := .int .i64 (f m + i)) rfl rfl (by kernel_rfl) (by kernel_rfl) (by kernel_rfl) (fun _ _ _ h => h) (Or.inl ⟨by rfl, fun w' hw' => by subst hw'; have x := ew1; go_simp⟩) hS ?_
          simp only [Act.put, List.setIfInBounds_toArray, List.set_cons_zero, List.set_cons_succ]
          refine take_at (i := 16) 58 (v := .int .i64 N) rfl rfl (by kernel_rfl) (by kernel_rfl) (by kernel_rfl) (fun _ _ _ h => h) (Or.inl ⟨by rfl, fun w' hw' => by subst hw'; have x := ew2; go_simp⟩) hS ?_
          simp only [Act.put, List.setIfInBounds_toArray, List.set_cons_zero, List.set_cons_succ]
          refine take_at (i := 17) 59 (v := .bool false) rfl rfl (by kernel_rfl) (by kernel_rfl) (by kernel_rfl) (fun _ _ _ h => h) (Or.inl ⟨by rfl, fun w' hw' => by subst hw'; go_simp⟩) hS ?_
          simp only [Act.put, List.setIfInBounds_toArray, List.set_cons_zero, List.set_cons_succ]
          refine take_at (i := 18) 60 (v := .bool false) rfl rfl (by kernel_rfl) (by kernel_rfl) (by kernel_rfl) (fun _ _ _ h => h) (Or.inl ⟨by rfl, fun w' hw' => by subst hw'; go_simp⟩) hS ?_
          simp only [Act.put, List.setIfInBounds_toArray, List.set_cons_zero, List.set_cons_succ]
          refine wpAnyH_done (by kernel_rfl) ?_ _
          clear ew1 ew2
          have G1' := G1.drew
          obtain ⟨c0, c1, c2, c3, c4, c5, c6, c7⟩ := cel8 G1
          have fr := G1.free
          go_wp2_with fail
          clear c0 c1 c2 c3 c4 c5 c6 c7
          refine (HWT.out _).mono ?_
          rintro e v2 ⟨rfl, o2⟩
          have F2 := F1.drew.off o2 (fun h => h)
          have G2 := G1'.off o2 (fun h => h)
          have P2 : Off (fun _ => False) w v2 := O.drew.trans o2 (fun _ _ h => h)
          clear xd0 xd1 xf fr G1' F1 G1 G9 O o2 hS
          obtain ⟨c0, c1, c2, c3, c4, c5, c6, c7⟩ := cel8 G2
          have fr := G2.free
          go_wp2_with fail
          go_roundw
          case rel =>
            refine ⟨i + 1, upd g m N, by go_num, by omega, fun j hj => ?_, F2.st8o (by omega) _, G2.st8 _, P2.st8 (.inr (by omega)) _⟩
            simp only [upd]
            split
            · rw [HN.out]; push_cast; omega
            · rename_i h2
              have := HG.out j hj
              simpa [h2] using this
          case measure => simp [intOf]; omega
        · obtain rfl : i = n := by omega
          go_wp2_with fail
          obtain ⟨Z, hZ⟩ : ∃ Z, Z = wr := ⟨wr, rfl⟩
          rw [← hZ] at CF CG O ⊢
          clear hZ
          go_loopw [65] (fun y wv => ∃ (j : Nat), y = .int .i64 (j : Int) ∧ j ≤ 8 ∧ wv = Z) (fun y _ => (8 - intOf y).toNat)
          case atStart => exact ⟨0, rfl, by omega, rfl⟩
          case round =>
            obtain ⟨j, rfl, hj, hwv⟩ := hrel
            rw [hwv]
            clear hwv
            by_cases h8 : j < 8
            · have hd : decide ((j : Int) < 8) = true := by simp; omega
              have a1 := at_vec q0 h8
              have a2 := at_vec q7 h8
              have b1 : Z.cell? ⟨q0, j, none⟩ = some (.int .i64 (f j)) := (CF.out.cell j).trans (vec_get f h8)
              have b2 : Z.cell? ⟨q7, j, none⟩ = some (.int .i64 (g j)) := (CG.out.cell j).trans (vec_get g h8)
              have hfj := hmay j h8
              have hgj := HG.out j h8
              have HGJ : Hid _ := hgj
              clear hgj
              by_cases hjm : j = m
              · subst hjm
                have e1 : ((j : Int) == (j : Int)) = true := by simp
                have e2 : IntKind.i64.wrap (f j + (i : Int)) = f j + i := wrap64 (by omega) (by omega)
                have e3 : (g j != f j + (i : Int)) = false := by
                  have := HGJ.out
                  simp at this
                  simp [this]
                go_wp2_with fail
                go_roundw
                case rel => exact ⟨j + 1, by go_num, by omega, by simp⟩
                case measure => simp [intOf]; omega
              · have e1 : ((j : Int) == (m : Int)) = false := by rw [beq_eq_false_iff_ne]; omega
                have e3 : (g j != f j) = false := by
                  have := HGJ.out
                  simp [hjm] at this
                  simp [this]
                go_wp2_with fail
                go_roundw
                case rel => exact ⟨j + 1, by go_num, by omega, by simp⟩
                case measure => simp [intOf]; omega
            · obtain rfl : j = 8 := by omega
              obtain ⟨c0, c1, c2, c3, c4, c5, c6, c7⟩ := cel8 CG.out
              obtain ⟨d0, d1, d2, d3, d4, d5, d6, d7⟩ := cel8 CF.out
              go_wp2_with fail
              refine (leq_any f g _).mono ?_
              rw [leq_upd f g m i HG.out]
              rintro e v1 ⟨rfl, o1⟩
              replace O := O.trans o1 (fun _ _ h => h)
              go_wp2_with fail
              refine (awake_any _ (HT.out _ O)).mono ?_
              rintro e v2 ⟨rfl, o2⟩
              go_wp2_with fail
              go_ret
              exact ⟨rfl, O.trans o2 (fun _ _ h => h)⟩
  · have h0 : mayB f = false := by simpa using h0
    rw [h0]
    go_wp2_with fail
    refine (awake_any _ (HT.out _ O1)).mono ?_
    rintro e w2 ⟨rfl, o2⟩
    go_wp2_with fail
    go_ret
    exact ⟨rfl, O1.trans o2 (fun _ _ h => h)⟩
end Go.Proofs.YtalcfkdmlebkbabDoor
