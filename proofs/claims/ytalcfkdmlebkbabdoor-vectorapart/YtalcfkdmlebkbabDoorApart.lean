/- VectorApart. -/
import Derived.Test.YtalcfkdmlebkbabDoorTextP
namespace Go.Proofs.YtalcfkdmlebkbabDoor
open Go.RowKit

theorem idx_str (l : List UInt8) {i : Nat} (h : i < l.length) (W : World) : (Instr.index 9 (.string ⟨l.toArray⟩) (.int .i64 (i : Int))).run Tryd.prog W = .ok (.int .u8 ((l.getD i 0).toNat : Int)) W := by
  rw [run_index_string (h := Tryd.underlying9)]
  have hs : (⟨l.toArray⟩ : ByteArray).size = l.length := by simp [ByteArray.size]
  rw [dif_pos ⟨by omega, by rw [hs]; omega⟩]
  have e : (⟨l.toArray⟩ : ByteArray)[(i : Int).toNat]'(by simp [ByteArray.size, h]) = l.getD i 0 := by
    simp [List.getD_eq_getElem?_getD, h]
    rfl
  rw [e]
theorem eql_bool (x : Bool) (W : World) : (binOp .eql 4 (.bool x) (.bool x)).run Tryd.prog W = .ok (.bool true) W := by cases x <;> go_simp
theorem take_count (l : List UInt8) {i : Nat} (h : i < l.length) : (l.take (i + 1)).count 44 = (l.take i).count 44 + (if l.getD i 0 = 44 then 1 else 0) := by
  rw [List.take_add_one, List.count_append]
  simp [h, List.getD_eq_getElem?_getD, List.count_singleton]
set_option maxRecDepth 100000 in
set_option maxHeartbeats 2000000 in
theorem apart_walk (a b : Nat → Int) (w : World) (ht : Tab w) (ra : ∀ j, j < 8 → -9223372036854775808 ≤ a j ∧ a j ≤ 9223372036854775807) (rb : ∀ j, j < 8 → -9223372036854775808 ≤ b j ∧ b j ≤ 9223372036854775807) :
    Calls Tryd.prog 5 #[.agg #[.int .i64 (a 0), .int .i64 (a 1), .int .i64 (a 2), .int .i64 (a 3), .int .i64 (a 4), .int .i64 (a 5), .int .i64 (a 6), .int .i64 (a 7)], .agg #[.int .i64 (b 0), .int .i64 (b 1), .int .i64 (b 2), .int .i64 (b 3), .int .i64 (b 4), .int .i64 (b 5), .int .i64 (b 6), .int .i64 (b 7)]] w fun e w' => e = .returned (.bool true) ∧ Off (fun _ => False) w w' := by
  have hnot := not_any
  have HT : Hid (∀ w', Off (fun _ => False) w w' → Tab w') := fun w' h => ht.off h (fun _ _ h => h)
  have RA : Hid _ := ra
  have RB : Hid _ := rb
  clear ht ra rb
  go_enter Tryd.func5, Tryd.ntmps5
  go_wp2_with fail
  obtain ⟨W, hW⟩ : ∃ W, W = ((w.alloc (.cells #[.int .i64 (a 0), .int .i64 (a 1), .int .i64 (a 2), .int .i64 (a 3), .int .i64 (a 4), .int .i64 (a 5), .int .i64 (a 6), .int .i64 (a 7)] 25)).alloc (.cells #[.int .i64 (b 0), .int .i64 (b 1), .int .i64 (b 2), .int .i64 (b 3), .int .i64 (b 4), .int .i64 (b 5), .int .i64 (b 6), .int .i64 (b 7)] 25)) := ⟨_, rfl⟩
  have O : Off (fun _ => False) w W := by rw [hW]; exact ((Off.refl _ w).alloc _).alloc _
  have C0 : Cel (w.heap.size) 25 #[.int .i64 (a 0), .int .i64 (a 1), .int .i64 (a 2), .int .i64 (a 3), .int .i64 (a 4), .int .i64 (a 5), .int .i64 (a 6), .int .i64 (a 7)] W := by
    rw [hW]
    have h := Cel.new w 25 #[.int .i64 (a 0), .int .i64 (a 1), .int .i64 (a 2), .int .i64 (a 3), .int .i64 (a 4), .int .i64 (a 5), .int .i64 (a 6), .int .i64 (a 7)]
    exact h.alloc _
  have C1 : Cel (w.heap.size + 1) 25 #[.int .i64 (b 0), .int .i64 (b 1), .int .i64 (b 2), .int .i64 (b 3), .int .i64 (b 4), .int .i64 (b 5), .int .i64 (b 6), .int .i64 (b 7)] W := by
    rw [hW]
    have h := Cel.new (w.alloc (.cells #[.int .i64 (a 0), .int .i64 (a 1), .int .i64 (a 2), .int .i64 (a 3), .int .i64 (a 4), .int .i64 (a 5), .int .i64 (a 6), .int .i64 (a 7)] 25)) 25 #[.int .i64 (b 0), .int .i64 (b 1), .int .i64 (b 2), .int .i64 (b 3), .int .i64 (b 4), .int .i64 (b 5), .int .i64 (b 6), .int .i64 (b 7)]
    simp only [World.size_alloc] at h
    exact h
  rw [← hW]
  clear hW
  generalize hq1 : w.heap.size + 1 = q1 at C1 ⊢
  generalize hq0 : w.heap.size = q0 at C0 ⊢
  clear hq0 hq1
  have H0 : Hid _ := C0
  have H1 : Hid _ := C1
  clear C0 C1
  refine (may_any a _).mono ?_
  rintro e v1 ⟨rfl, o1⟩
  have A1 := H0.out.off o1 (fun h => h)
  have B1 := H1.out.off o1 (fun h => h)
  have O1 := O.trans o1 (fun _ _ h => h)
  clear o1 H0 H1 O
  by_cases ha : mayB a = true
  · rw [ha]
    have na : ∀ j, j < 8 → 0 ≤ a j ∧ a j ≤ 1099511627776 := by simpa [mayB] using ha
    have NA : Hid (NN a) := (show NN a from fun j hj => (na j hj).1)
    clear ha na
    obtain ⟨c0, c1, c2, c3, c4, c5, c6, c7⟩ := cel8 B1
    go_wp2_with fail
    clear c0 c1 c2 c3 c4 c5 c6 c7
    refine (may_any b _).mono ?_
    rintro e v2 ⟨rfl, o2⟩
    have A2 := A1.off o2 (fun h => h)
    have B2 := B1.off o2 (fun h => h)
    have O2 := O1.trans o2 (fun _ _ h => h)
    clear o2 A1 B1 O1
    by_cases hb : mayB b = true
    · rw [hb]
      have nb : ∀ j, j < 8 → 0 ≤ b j ∧ b j ≤ 1099511627776 := by simpa [mayB] using hb
      have NB : Hid (NN b) := (show NN b from fun j hj => (nb j hj).1)
      clear hb nb
      obtain ⟨c0, c1, c2, c3, c4, c5, c6, c7⟩ := cel8 A2
      go_wp2_with fail
      clear c0 c1 c2 c3 c4 c5 c6 c7
      refine (text_any a RA.out _ (HT.out _ O2)).mono ?_
      rintro e V ⟨rfl, o3⟩
      have H0 : Hid (Cel q0 25 #[.int .i64 (a 0), .int .i64 (a 1), .int .i64 (a 2), .int .i64 (a 3), .int .i64 (a 4), .int .i64 (a 5), .int .i64 (a 6), .int .i64 (a 7)] V) := A2.off o3 (fun h => h)
      have H1 : Hid (Cel q1 25 #[.int .i64 (b 0), .int .i64 (b 1), .int .i64 (b 2), .int .i64 (b 3), .int .i64 (b 4), .int .i64 (b 5), .int .i64 (b 6), .int .i64 (b 7)] V) := B2.off o3 (fun h => h)
      have O := O2.trans o3 (fun _ _ h => h)
      clear o3 A2 B2 O2
      have CT := count_textV NA.out
      have TL := topV_le a
      have tz := topV_zero a
      have tl := topV_last a
      have TI : Hid ((textV a == textV b) = eqB a b) := by
        show (textV a == textV b) = eqB a b
        rw [Bool.eq_iff_iff]
        simp only [eqB, decide_eq_true_eq, beq_iff_eq]
        exact ⟨fun h => textV_inj NA.out NB.out h, fun h => textV_congr h⟩
      have TL8 : (textV a).length ≤ 200 := by
        rw [textV_top]
        have := textL_len a RA.out (topV a) TL.2
        omega
      obtain ⟨T, hT⟩ : ∃ T, T = topV a := ⟨_, rfl⟩
      obtain ⟨l, hl⟩ : ∃ l, l = textV a := ⟨_, rfl⟩
      rw [← hT] at CT TL tz tl
      rw [← hl] at CT TI TL8 ⊢
      have hsz : (⟨l.toArray⟩ : ByteArray).size = l.length := by simp [ByteArray.size]
      have HCT : Hid _ := CT
      have TZ : Hid _ := tz
      have TLA : Hid _ := tl
      obtain ⟨T1, T8⟩ := TL
      clear CT tz tl hT hl
      go_wp2_with fail
      go_loopw [6, 22] (fun x y wr => ∃ i : Nat, x = .int .i64 (((l.take i).count 44 + 1 : Nat) : Int) ∧ y = .int .i64 (i : Int) ∧ i ≤ l.length ∧ wr = V) (fun _ y _ => (200 - intOf y).toNat)
      case atStart => exact ⟨0, by simp, rfl, by omega, rfl⟩
      case round =>
        obtain ⟨i, rfl, rfl, hi, hwr⟩ := hrel
        rw [hwr]
        clear hwr
        by_cases h : i < l.length
        · have hd : decide ((i : Int) < (l.length : Int)) = true := by simp; omega
          have ix := idx_str l h
          have tc := take_count l h
          have hc0 : (l.take i).count 44 ≤ 200 := by have := List.count_le_length (a := (44 : UInt8)) (l := l.take i); simp at this; omega
          obtain ⟨k, hk⟩ : ∃ k, k = (l.take i).count 44 := ⟨_, rfl⟩
          rw [← hk] at tc hc0 ⊢
          obtain ⟨c, hc⟩ : ∃ c, c = l.getD i 0 := ⟨_, rfl⟩
          rw [← hc] at tc ix
          have HTC : Hid _ := tc
          clear hk tc hc
          by_cases e44 : c = 44
          · have e0 : (((c.toNat : Nat) : Int) == 44) = true := by rw [e44]; rfl
            have htc : (l.take (i + 1)).count 44 = k + 1 := by rw [HTC.out, if_pos e44]
            have HTC2 : Hid _ := htc
            clear htc e44
            go_wp2_with fail
            go_roundw
            case rel => exact ⟨i + 1, by rw [HTC2.out]; go_num, by go_num, by omega, by simp⟩
            case measure => simp [intOf]; omega
          · have e0 : (((c.toNat : Nat) : Int) == 44) = false := by
              rw [beq_eq_false_iff_ne]
              intro h44
              refine e44 (UInt8.toNat_inj.1 ?_)
              have e : (44 : UInt8).toNat = 44 := rfl
              omega
            have htc : (l.take (i + 1)).count 44 = k := by rw [HTC.out, if_neg e44]; rfl
            have HTC2 : Hid _ := htc
            clear htc e44
            go_wp2_with fail
            go_roundw
            case rel => exact ⟨i + 1, by rw [HTC2.out], by go_num, by omega, by simp⟩
            case measure => simp [intOf]; omega
        · obtain rfl : i = l.length := by omega
          rw [List.take_length, HCT.out]
          go_wp2_with fail
          go_loopw [8] (fun y wv => ∃ j : Nat, y = .int .i64 (j : Int) ∧ T ≤ j ∧ j ≤ 8 ∧ wv = V) (fun y _ => (8 - intOf y).toNat)
          case atStart => exact ⟨T, rfl, by omega, by omega, rfl⟩
          case round =>
            obtain ⟨j, rfl, hj0, hj8, hwv⟩ := hrel
            rw [hwv]
            clear hwv
            by_cases h8 : j < 8
            · have hd : decide ((j : Int) < 8) = true := by simp; omega
              have a1 := at_vec q0 h8
              have b1 : V.cell? ⟨q0, j, none⟩ = some (.int .i64 0) := by rw [← TZ.out j hj0 h8]; exact (H0.out.cell j).trans (vec_get a h8)
              go_wp2_with fail
              go_roundw
              case rel => exact ⟨j + 1, by go_num, by omega, by omega, by simp⟩
              case measure => simp [intOf]; omega
            · obtain rfl : j = 8 := by omega
              clear TZ HCT
              go_wp2_with fail
              refine wp_region_held_drew (S := fun w' => Off (fun _ => False) V w') (by kernel_rfl) ((Off.refl _ V).drew) (fun hS => ?_)
              have TX := text_any b RB.out
              by_cases t1 : T = 1
              · subst t1
                clear TLA
                refine take_at (i := 0) 41 (v := .string ⟨l.toArray⟩) rfl rfl (by kernel_rfl) (by kernel_rfl) (by kernel_rfl) (fun _ _ _ h => h) (Or.inl ⟨by rfl, fun w' hw' => by go_simp⟩) hS ?_
                simp only [Act.put, List.setIfInBounds_toArray, List.set_cons_zero, List.set_cons_succ]
                refine take_at (i := 1) 42 (v := .agg #[.int .i64 (b 0), .int .i64 (b 1), .int .i64 (b 2), .int .i64 (b 3), .int .i64 (b 4), .int .i64 (b 5), .int .i64 (b 6), .int .i64 (b 7)]) rfl rfl (by kernel_rfl) (by kernel_rfl) (by kernel_rfl) (fun _ _ _ h => h) (Or.inl ⟨by rfl, fun w' hw' => by obtain ⟨x0, x1, x2, x3, x4, x5, x6, x7⟩ := cel8 (H1.out.off hw' (fun h => h)); go_simp⟩) hS ?_
                simp only [Act.put, List.setIfInBounds_toArray, List.set_cons_zero, List.set_cons_succ]
                refine take_at (i := 4) 45 (v := .agg #[.int .i64 (a 0), .int .i64 (a 1), .int .i64 (a 2), .int .i64 (a 3), .int .i64 (a 4), .int .i64 (a 5), .int .i64 (a 6), .int .i64 (a 7)]) rfl rfl (by kernel_rfl) (by kernel_rfl) (by kernel_rfl) (fun _ _ _ h => h) (Or.inl ⟨by rfl, fun w' hw' => by obtain ⟨x0, x1, x2, x3, x4, x5, x6, x7⟩ := cel8 (H0.out.off hw' (fun h => h)); go_simp⟩) hS ?_
                simp only [Act.put, List.setIfInBounds_toArray, List.set_cons_zero, List.set_cons_succ]
                refine take_at (i := 5) 46 (v := .agg #[.int .i64 (b 0), .int .i64 (b 1), .int .i64 (b 2), .int .i64 (b 3), .int .i64 (b 4), .int .i64 (b 5), .int .i64 (b 6), .int .i64 (b 7)]) rfl rfl (by kernel_rfl) (by kernel_rfl) (by kernel_rfl) (fun _ _ _ h => h) (Or.inl ⟨by rfl, fun w' hw' => by obtain ⟨x0, x1, x2, x3, x4, x5, x6, x7⟩ := cel8 (H1.out.off hw' (fun h => h)); go_simp⟩) hS ?_
                simp only [Act.put, List.setIfInBounds_toArray, List.set_cons_zero, List.set_cons_succ]
                refine take_at (i := 6) 47 (v := .bool (eqB a b)) rfl rfl (by kernel_rfl) (by kernel_rfl) (by kernel_rfl) (fun _ _ _ h => h) (Or.inl ⟨by rfl, fun w' hw' => by have e := eql_vec a b; go_simp⟩) hS ?_
                simp only [Act.put, List.setIfInBounds_toArray, List.set_cons_zero, List.set_cons_succ]
                refine wpAnyH_ready (rs := [2]) (by kernel_rfl) (by simp) ?_
                refine AllReadyH.cons rfl (fun K' hK' => ?_) AllReadyH.nil
                go_simp
                refine (TX _ (HT.out _ (O.trans hS (fun _ _ h => h)))).mono ?_
                rintro e v1 ⟨rfl, o1⟩
                refine hK'.out _ _ (hS.trans o1 (fun _ _ h => h)) (fun hS => ?_)
                clear hK' K' o1
                refine take_at (i := 3) 44 (v := .bool (eqB a b)) rfl rfl (by kernel_rfl) (by kernel_rfl) (by kernel_rfl) (fun _ _ _ h => h) (Or.inl ⟨by rfl, fun w' hw' => by have e := TI.out; go_simp⟩) hS ?_
                simp only [Act.put, List.setIfInBounds_toArray, List.set_cons_zero, List.set_cons_succ]
                refine take_at (i := 7) 48 (v := .bool true) rfl rfl (by kernel_rfl) (by kernel_rfl) (by kernel_rfl) (fun _ _ _ h => h) (Or.inl ⟨by rfl, fun w' hw' => by have e := eql_bool (eqB a b); go_simp⟩) hS ?_
                simp only [Act.put, List.setIfInBounds_toArray, List.set_cons_zero, List.set_cons_succ]
                refine take_at (i := 8) 49 (v := .bool true) rfl rfl (by kernel_rfl) (by kernel_rfl) (by kernel_rfl) (fun _ _ _ h => h) (Or.inl ⟨by rfl, fun w' hw' => by go_simp⟩) hS ?_
                simp only [Act.put, List.setIfInBounds_toArray, List.set_cons_zero, List.set_cons_succ]
                refine take_at (i := 9) 50 (v := .int .i64 1) rfl rfl (by kernel_rfl) (by kernel_rfl) (by kernel_rfl) (fun _ _ _ h => h) (Or.inl ⟨by rfl, fun w' hw' => by go_simp⟩) hS ?_
                simp only [Act.put, List.setIfInBounds_toArray, List.set_cons_zero, List.set_cons_succ]
                refine take_at (i := 10) 51 (v := .bool true) rfl rfl (by kernel_rfl) (by kernel_rfl) (by kernel_rfl) (fun _ _ _ h => h) (Or.inl ⟨by rfl, fun w' hw' => by go_simp⟩) hS ?_
                simp only [Act.put, List.setIfInBounds_toArray, List.set_cons_zero, List.set_cons_succ]
                refine take_at (i := 11) 52 (v := .bool true) rfl rfl (by kernel_rfl) (by kernel_rfl) (by kernel_rfl) (fun _ _ _ h => h) (Or.inl ⟨by rfl, fun w' hw' => by go_simp⟩) hS ?_
                simp only [Act.put, List.setIfInBounds_toArray, List.set_cons_zero, List.set_cons_succ]
                refine take_at (i := 12) 53 (v := undef) rfl rfl (by kernel_rfl) (by kernel_rfl) (by kernel_rfl) (fun _ _ _ h => h) (Or.inr ⟨by rfl, rfl⟩) hS ?_
                simp only [Act.put, List.setIfInBounds_toArray, List.set_cons_zero, List.set_cons_succ]
                refine take_at (i := 13) 54 (v := undef) rfl rfl (by kernel_rfl) (by kernel_rfl) (by kernel_rfl) (fun _ _ _ h => h) (Or.inr ⟨by rfl, rfl⟩) hS ?_
                simp only [Act.put, List.setIfInBounds_toArray, List.set_cons_zero, List.set_cons_succ]
                refine take_at (i := 14) 55 (v := undef) rfl rfl (by kernel_rfl) (by kernel_rfl) (by kernel_rfl) (fun _ _ _ h => h) (Or.inr ⟨by rfl, rfl⟩) hS ?_
                simp only [Act.put, List.setIfInBounds_toArray, List.set_cons_zero, List.set_cons_succ]
                refine take_at (i := 15) 56 (v := undef) rfl rfl (by kernel_rfl) (by kernel_rfl) (by kernel_rfl) (fun _ _ _ h => h) (Or.inr ⟨by rfl, rfl⟩) hS ?_
                simp only [Act.put, List.setIfInBounds_toArray, List.set_cons_zero, List.set_cons_succ]
                refine take_at (i := 16) 57 (v := undef) rfl rfl (by kernel_rfl) (by kernel_rfl) (by kernel_rfl) (fun _ _ _ h => h) (Or.inr ⟨by rfl, rfl⟩) hS ?_
                simp only [Act.put, List.setIfInBounds_toArray, List.set_cons_zero, List.set_cons_succ]
                refine take_at (i := 17) 58 (v := .bool true) rfl rfl (by kernel_rfl) (by kernel_rfl) (by kernel_rfl) (fun _ _ _ h => h) (Or.inl ⟨by rfl, fun w' hw' => by go_simp⟩) hS ?_
                simp only [Act.put, List.setIfInBounds_toArray, List.set_cons_zero, List.set_cons_succ]
                refine take_at (i := 18) 59 (v := .bool true) rfl rfl (by kernel_rfl) (by kernel_rfl) (by kernel_rfl) (fun _ _ _ h => h) (Or.inl ⟨by rfl, fun w' hw' => by go_simp⟩) hS ?_
                simp only [Act.put, List.setIfInBounds_toArray, List.set_cons_zero, List.set_cons_succ]
                refine take_at (i := 19) 60 (v := .bool true) rfl rfl (by kernel_rfl) (by kernel_rfl) (by kernel_rfl) (fun _ _ _ h => h) (Or.inl ⟨by rfl, fun w' hw' => by go_simp⟩) hS ?_
                simp only [Act.put, List.setIfInBounds_toArray, List.set_cons_zero, List.set_cons_succ]
                refine wpAnyH_ready (rs := [20]) (by kernel_rfl) (by simp) ?_
                refine AllReadyH.cons rfl (fun K' hK' => ?_) AllReadyH.nil
                go_simp
                refine (awake_any _ (HT.out _ (O.trans hS (fun _ _ h => h)))).mono ?_
                rintro e v1 ⟨rfl, o1⟩
                refine hK'.out _ _ (hS.trans o1 (fun _ _ h => h)) (fun hS => ?_)
                clear hK' K' o1
                refine take_at (i := 21) 62 (v := .bool true) rfl rfl (by kernel_rfl) (by kernel_rfl) (by kernel_rfl) (fun _ _ _ h => h) (Or.inl ⟨by rfl, fun w' hw' => by go_simp⟩) hS ?_
                simp only [Act.put, List.setIfInBounds_toArray, List.set_cons_zero, List.set_cons_succ]
                refine take_at (i := 22) 4 (v := .bool true) rfl rfl (by kernel_rfl) (by kernel_rfl) (by kernel_rfl) (fun _ _ _ h => h) (Or.inl ⟨by rfl, fun w' hw' => by go_simp⟩) hS ?_
                simp only [Act.put, List.setIfInBounds_toArray, List.set_cons_zero, List.set_cons_succ]
                refine wpAnyH_done (by kernel_rfl) ?_ _
                go_wp2_with fail
                go_ret
                exact ⟨rfl, O.trans hS (fun _ _ h => h)⟩
              · have e1 : (((T : Nat) : Int) == 1) = false := by rw [beq_eq_false_iff_ne]; omega
                obtain ⟨m, hmT⟩ : ∃ m, m = T - 1 := ⟨_, rfl⟩
                have tl := TLA.out t1
                rw [← hmT] at tl
                have e2 : (a m != 0) = true := by simpa using tl
                have hm : m < 8 := by omega
                have e3 : IntKind.i64.wrap ((T : Int) - 1) = (m : Int) := by rw [show (T : Int) - 1 = (m : Int) by omega]; exact wrap64 (by omega) (by omega)
                have a1 := at_vec q0 hm
                clear hmT tl TLA t1
                refine take_at (i := 0) 41 (v := .string ⟨l.toArray⟩) rfl rfl (by kernel_rfl) (by kernel_rfl) (by kernel_rfl) (fun _ _ _ h => h) (Or.inl ⟨by rfl, fun w' hw' => by go_simp⟩) hS ?_
                simp only [Act.put, List.setIfInBounds_toArray, List.set_cons_zero, List.set_cons_succ]
                refine take_at (i := 1) 42 (v := .agg #[.int .i64 (b 0), .int .i64 (b 1), .int .i64 (b 2), .int .i64 (b 3), .int .i64 (b 4), .int .i64 (b 5), .int .i64 (b 6), .int .i64 (b 7)]) rfl rfl (by kernel_rfl) (by kernel_rfl) (by kernel_rfl) (fun _ _ _ h => h) (Or.inl ⟨by rfl, fun w' hw' => by obtain ⟨x0, x1, x2, x3, x4, x5, x6, x7⟩ := cel8 (H1.out.off hw' (fun h => h)); go_simp⟩) hS ?_
                simp only [Act.put, List.setIfInBounds_toArray, List.set_cons_zero, List.set_cons_succ]
                refine take_at (i := 4) 45 (v := .agg #[.int .i64 (a 0), .int .i64 (a 1), .int .i64 (a 2), .int .i64 (a 3), .int .i64 (a 4), .int .i64 (a 5), .int .i64 (a 6), .int .i64 (a 7)]) rfl rfl (by kernel_rfl) (by kernel_rfl) (by kernel_rfl) (fun _ _ _ h => h) (Or.inl ⟨by rfl, fun w' hw' => by obtain ⟨x0, x1, x2, x3, x4, x5, x6, x7⟩ := cel8 (H0.out.off hw' (fun h => h)); go_simp⟩) hS ?_
                simp only [Act.put, List.setIfInBounds_toArray, List.set_cons_zero, List.set_cons_succ]
                refine take_at (i := 5) 46 (v := .agg #[.int .i64 (b 0), .int .i64 (b 1), .int .i64 (b 2), .int .i64 (b 3), .int .i64 (b 4), .int .i64 (b 5), .int .i64 (b 6), .int .i64 (b 7)]) rfl rfl (by kernel_rfl) (by kernel_rfl) (by kernel_rfl) (fun _ _ _ h => h) (Or.inl ⟨by rfl, fun w' hw' => by obtain ⟨x0, x1, x2, x3, x4, x5, x6, x7⟩ := cel8 (H1.out.off hw' (fun h => h)); go_simp⟩) hS ?_
                simp only [Act.put, List.setIfInBounds_toArray, List.set_cons_zero, List.set_cons_succ]
                refine take_at (i := 6) 47 (v := .bool (eqB a b)) rfl rfl (by kernel_rfl) (by kernel_rfl) (by kernel_rfl) (fun _ _ _ h => h) (Or.inl ⟨by rfl, fun w' hw' => by have e := eql_vec a b; go_simp⟩) hS ?_
                simp only [Act.put, List.setIfInBounds_toArray, List.set_cons_zero, List.set_cons_succ]
                refine wpAnyH_ready (rs := [2]) (by kernel_rfl) (by simp) ?_
                refine AllReadyH.cons rfl (fun K' hK' => ?_) AllReadyH.nil
                go_simp
                refine (TX _ (HT.out _ (O.trans hS (fun _ _ h => h)))).mono ?_
                rintro e v1 ⟨rfl, o1⟩
                refine hK'.out _ _ (hS.trans o1 (fun _ _ h => h)) (fun hS => ?_)
                clear hK' K' o1
                refine take_at (i := 3) 44 (v := .bool (eqB a b)) rfl rfl (by kernel_rfl) (by kernel_rfl) (by kernel_rfl) (fun _ _ _ h => h) (Or.inl ⟨by rfl, fun w' hw' => by have e := TI.out; go_simp⟩) hS ?_
                simp only [Act.put, List.setIfInBounds_toArray, List.set_cons_zero, List.set_cons_succ]
                refine take_at (i := 7) 48 (v := .bool true) rfl rfl (by kernel_rfl) (by kernel_rfl) (by kernel_rfl) (fun _ _ _ h => h) (Or.inl ⟨by rfl, fun w' hw' => by have e := eql_bool (eqB a b); go_simp⟩) hS ?_
                simp only [Act.put, List.setIfInBounds_toArray, List.set_cons_zero, List.set_cons_succ]
                refine take_at (i := 8) 49 (v := .bool true) rfl rfl (by kernel_rfl) (by kernel_rfl) (by kernel_rfl) (fun _ _ _ h => h) (Or.inl ⟨by rfl, fun w' hw' => by go_simp⟩) hS ?_
                simp only [Act.put, List.setIfInBounds_toArray, List.set_cons_zero, List.set_cons_succ]
                refine take_at (i := 9) 50 (v := .int .i64 (T : Int)) rfl rfl (by kernel_rfl) (by kernel_rfl) (by kernel_rfl) (fun _ _ _ h => h) (Or.inl ⟨by rfl, fun w' hw' => by go_simp⟩) hS ?_
                simp only [Act.put, List.setIfInBounds_toArray, List.set_cons_zero, List.set_cons_succ]
                refine take_at (i := 10) 51 (v := .bool false) rfl rfl (by kernel_rfl) (by kernel_rfl) (by kernel_rfl) (fun _ _ _ h => h) (Or.inl ⟨by rfl, fun w' hw' => by go_simp⟩) hS ?_
                simp only [Act.put, List.setIfInBounds_toArray, List.set_cons_zero, List.set_cons_succ]
                refine take_at (i := 11) 52 (v := .bool false) rfl rfl (by kernel_rfl) (by kernel_rfl) (by kernel_rfl) (fun _ _ _ h => h) (Or.inl ⟨by rfl, fun w' hw' => by go_simp⟩) hS ?_
                simp only [Act.put, List.setIfInBounds_toArray, List.set_cons_zero, List.set_cons_succ]
                refine take_at (i := 12) 53 (v := .int .i64 (T : Int)) rfl rfl (by kernel_rfl) (by kernel_rfl) (by kernel_rfl) (fun _ _ _ h => h) (Or.inl ⟨by rfl, fun w' hw' => by go_simp⟩) hS ?_
                simp only [Act.put, List.setIfInBounds_toArray, List.set_cons_zero, List.set_cons_succ]
                refine take_at (i := 13) 54 (v := .int .i64 (m : Int)) rfl rfl (by kernel_rfl) (by kernel_rfl) (by kernel_rfl) (fun _ _ _ h => h) (Or.inl ⟨by rfl, fun w' hw' => by go_simp⟩) hS ?_
                simp only [Act.put, List.setIfInBounds_toArray, List.set_cons_zero, List.set_cons_succ]
                refine take_at (i := 14) 55 (v := .pointer (some ⟨q0, m, none⟩)) rfl rfl (by kernel_rfl) (by kernel_rfl) (by kernel_rfl) (fun _ _ _ h => h) (Or.inl ⟨by rfl, fun w' hw' => by go_simp⟩) hS ?_
                simp only [Act.put, List.setIfInBounds_toArray, List.set_cons_zero, List.set_cons_succ]
                refine take_at (i := 15) 56 (v := .int .i64 (a m)) rfl rfl (by kernel_rfl) (by kernel_rfl) (by kernel_rfl) (fun _ _ _ h => h) (Or.inl ⟨by rfl, fun w' hw' => by have x := ((H0.out.off hw' (fun h => h)).cell m).trans (vec_get a hm); go_simp⟩) hS ?_
                simp only [Act.put, List.setIfInBounds_toArray, List.set_cons_zero, List.set_cons_succ]
                refine take_at (i := 16) 57 (v := .bool true) rfl rfl (by kernel_rfl) (by kernel_rfl) (by kernel_rfl) (fun _ _ _ h => h) (Or.inl ⟨by rfl, fun w' hw' => by go_simp⟩) hS ?_
                simp only [Act.put, List.setIfInBounds_toArray, List.set_cons_zero, List.set_cons_succ]
                refine take_at (i := 17) 58 (v := .bool true) rfl rfl (by kernel_rfl) (by kernel_rfl) (by kernel_rfl) (fun _ _ _ h => h) (Or.inl ⟨by rfl, fun w' hw' => by go_simp⟩) hS ?_
                simp only [Act.put, List.setIfInBounds_toArray, List.set_cons_zero, List.set_cons_succ]
                refine take_at (i := 18) 59 (v := .bool true) rfl rfl (by kernel_rfl) (by kernel_rfl) (by kernel_rfl) (fun _ _ _ h => h) (Or.inl ⟨by rfl, fun w' hw' => by go_simp⟩) hS ?_
                simp only [Act.put, List.setIfInBounds_toArray, List.set_cons_zero, List.set_cons_succ]
                refine take_at (i := 19) 60 (v := .bool true) rfl rfl (by kernel_rfl) (by kernel_rfl) (by kernel_rfl) (fun _ _ _ h => h) (Or.inl ⟨by rfl, fun w' hw' => by go_simp⟩) hS ?_
                simp only [Act.put, List.setIfInBounds_toArray, List.set_cons_zero, List.set_cons_succ]
                refine wpAnyH_ready (rs := [20]) (by kernel_rfl) (by simp) ?_
                refine AllReadyH.cons rfl (fun K' hK' => ?_) AllReadyH.nil
                go_simp
                refine (awake_any _ (HT.out _ (O.trans hS (fun _ _ h => h)))).mono ?_
                rintro e v1 ⟨rfl, o1⟩
                refine hK'.out _ _ (hS.trans o1 (fun _ _ h => h)) (fun hS => ?_)
                clear hK' K' o1
                refine take_at (i := 21) 62 (v := .bool true) rfl rfl (by kernel_rfl) (by kernel_rfl) (by kernel_rfl) (fun _ _ _ h => h) (Or.inl ⟨by rfl, fun w' hw' => by go_simp⟩) hS ?_
                simp only [Act.put, List.setIfInBounds_toArray, List.set_cons_zero, List.set_cons_succ]
                refine take_at (i := 22) 4 (v := .bool true) rfl rfl (by kernel_rfl) (by kernel_rfl) (by kernel_rfl) (fun _ _ _ h => h) (Or.inl ⟨by rfl, fun w' hw' => by go_simp⟩) hS ?_
                simp only [Act.put, List.setIfInBounds_toArray, List.set_cons_zero, List.set_cons_succ]
                refine wpAnyH_done (by kernel_rfl) ?_ _
                go_wp2_with fail
                go_ret
                exact ⟨rfl, O.trans hS (fun _ _ h => h)⟩
    · have hb : mayB b = false := by simpa using hb
      rw [hb]
      go_wp2_with fail
      refine (awake_any _ (HT.out _ O2)).mono ?_
      rintro e v8 ⟨rfl, o8⟩
      go_wp2_with fail
      go_ret
      exact ⟨rfl, O2.trans o8 (fun _ _ h => h)⟩
  · have ha : mayB a = false := by simpa using ha
    rw [ha]
    go_wp2_with fail
    refine (awake_any _ (HT.out _ O1)).mono ?_
    rintro e v8 ⟨rfl, o8⟩
    go_wp2_with fail
    go_ret
    exact ⟨rfl, O1.trans o8 (fun _ _ h => h)⟩
end Go.Proofs.YtalcfkdmlebkbabDoor
