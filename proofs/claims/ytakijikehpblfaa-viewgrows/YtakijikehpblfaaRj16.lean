/- The reference's Join. -/
import Derived.Test.YtakijikehpblfaaRv16
import Derived.Test.YtakijikehpblfaaTake14
namespace Go.Proofs.Ytakijikehpblfaa
set_option maxRecDepth 100000
open Go.RowKit

theorem RVw.drewN {q a b c : Nat} {d : VD} {w : World} (h : RVw q a b c d w) (n : Nat) : RVw q a b c d (w.drewN n) := h.off ((Off.refl (fun _ => False) w).drewN n) ⟨fun h => h, fun h => h, fun h => h, fun h => h⟩
set_option maxHeartbeats 4000000 in
theorem rjoin_row {q a b c : Nat} {d : VD} (t : Option Addr) (cap : Nat) (l : List Mb) {w : World} (hl : Mls w t cap l) (ht : 0 < l.length → blk t ≠ some a ∧ blk t ≠ some b ∧ blk t ≠ some c) (h : RVw q a b c d w) :
    Calls Try.prog 26 #[.pointer (some ⟨q, 0, none⟩), .slice t l.length cap] w fun e w' => e = .returned (.bool (joinB d l l.length)) ∧ RVw q a b c (joinK d l l.length) w' ∧ Off (fun k => k = a ∨ k = b ∨ k = c) w w' := by
  have HV : Hid _ := h
  have HL : Hid _ := hl
  have HT : Hid _ := ht
  have hlen := hl.len
  have hn8 := h.n8
  clear h hl ht
  obtain ⟨n, hn⟩ : ∃ n, n = d.n := ⟨_, rfl⟩
  rw [← hn] at hn8
  have HN : Hid (d.n = n) := hn.symm
  clear hn
  go_enter Try.func26, Try.ntmps26
  go_wp2_with fail
  go_loopw [5, 11] (fun s5 s11 wr => ∃ k : Nat, s5 = .bool (joinB d l k) ∧ s11 = .int .i64 (k : Int) ∧ k ≤ l.length ∧ RVw q a b c (joinK d l k) wr ∧ Off (fun k => k = a ∨ k = b ∨ k = c) w wr) (fun _ i _ => ((l.length : Int) - intOf i).toNat)
  case atStart => exact ⟨0, rfl, rfl, by omega, HV.out, Off.refl _ w⟩
  case round =>
    obtain ⟨k, rfl, rfl, hk, v, o⟩ := hrel
    have HW : Hid _ := v
    have HO : Hid _ := o
    clear v o
    by_cases hlt : k < l.length
    · obtain ⟨x, hx⟩ : ∃ x, l[k]? = some x := ⟨_, List.getElem?_eq_getElem hlt⟩
      obtain ⟨g, of, rfl, x0, x1⟩ := (HL.out.offD HO.out (fun c _ hc e => by
        have h := HT.out (by omega)
        rcases e with e | e | e
        · exact h.1 (by rw [hc, e])
        · exact h.2.1 (by rw [hc, e])
        · exact h.2.2 (by rw [hc, e]))).at_ k x hx
      have HX : Hid (l.getD k (0, 0) = x) := by show _ = _; rw [List.getD_eq_getElem?_getD, hx]; rfl
      have HNN : Hid ((joinK d l k).n = n ∧ (joinK d l k).self = d.self) := ⟨(joinK_n d l k).1.trans HN.out, (joinK_n d l k).2.1⟩
      have HBS : Hid (joinB d l (k + 1) = (joinB d l k || newB (joinK d l k) k x)) := by show joinB _ _ _ = _; rw [← HX.out]; rfl
      have HDS : Hid (joinK d l (k + 1) = joiS (joinK d l k) k x) := by show joinK _ _ _ = _; rw [← HX.out]; rfl
      clear hx
      obtain ⟨xs, xi⟩ := x
      simp only at x0 x1
      generalize joinK d l k = D at *
      generalize joinB d l k = B at *
      go_upto_region 5 with fail
      generalize hW : wr.alloc (.cells #[.int .i64 xs, .int .i64 xi] 46) = W
      have HOW : Hid (Off (fun k => k = a ∨ k = b ∨ k = c) w W) := by rw [← hW]; exact HO.out.alloc _
      have HB7 : Hid (Cel wr.heap.size 46 #[.int .i64 xs, .int .i64 xi] W) := by rw [← hW]; exact Cel.new wr _ _
      have HVW : Hid (RVw q a b c D W) := by rw [← hW]; exact HW.out.off ((Off.refl (fun _ => False) wr).alloc _) ⟨fun h => h, fun h => h, fun h => h, fun h => h⟩
      have HNA7 : Hid (wr.heap.size ≠ a) := by show _ ≠ _; have := HW.out.m.lt; omega
      clear hW x0 x1 HW HO
      generalize wr.heap.size = q7 at *
      have b0 : W.cell? ⟨q7, 0, none⟩ = some (.int .i64 xs) := HB7.out.cell 0
      have b1 : W.cell? ⟨q7, 1, none⟩ = some (.int .i64 xi) := HB7.out.cell 1
      have c1 := HVW.out.c1
      rw [HNN.out.1] at c1
      by_cases h1 : n ≤ k
      · have HOK : Hid (okB D k (xs, xi) = false) := by show _ = _; unfold okB; rw [HNN.out.1, decide_eq_false (by omega)]; rfl
        have HB : Hid (joinB d l (k + 1) = B) := by show _ = _; rw [HBS.out]; unfold newB; rw [HOK.out]; simp
        have HD : Hid (joinK d l (k + 1) = D) := by show _ = _; rw [HDS.out]; unfold joiS; rw [HOK.out]; rfl
        go_wp2_with fail
        go_roundw
        case rel => exact ⟨k + 1, by rw [HB.out], by go_num, by omega, by rw [HD.out]; exact HVW.out, HOW.out⟩
        case measure => simp [intOf]; omega
      · have H2 : Hid _ := rmay_any xs xi W
        cases h2 : mayB xs xi
        · rw [h2] at H2
          have HOK : Hid (okB D k (xs, xi) = false) := by show _ = _; unfold okB; rw [h2]; simp
          have HB : Hid (joinB d l (k + 1) = B) := by show _ = _; rw [HBS.out]; unfold newB; rw [HOK.out]; simp
          have HD : Hid (joinK d l (k + 1) = D) := by show _ = _; rw [HDS.out]; unfold joiS; rw [HOK.out]; rfl
          clear h2
          go_wp2_with fail
          refine Calls.mono H2.out ?_
          rintro e w2 ⟨rfl, o2⟩
          have HV2 : Hid _ := HVW.out.off o2 ⟨fun h => h, fun h => h, fun h => h, fun h => h⟩
          have HO2 : Hid _ := HOW.out.trans o2 (fun _ _ h => h.elim)
          clear o2 b0 b1 c1
          go_wp2_with fail
          go_roundw
          case rel => exact ⟨k + 1, by rw [HB.out], by go_num, by omega, by rw [HD.out]; exact HV2.out, HO2.out⟩
          case measure => simp [intOf]; omega
        · rw [h2] at H2
          have HMY : Hid (mayB xs xi = true) := h2
          have HKD : Hid (k < D.n) := by show _ < _; rw [HNN.out.1]; omega
          have HOK : Hid (okB D k (xs, xi) = true) := by show _ = _; unfold okB; rw [h2, decide_eq_true HKD.out]; rfl
          clear h2
          have hkn : (k : Int) < (n : Int) := by omega
          clear h1
          go_wp2_with fail
          refine Calls.mono H2.out ?_
          rintro e w2 ⟨rfl, o2⟩
          have HV2 : Hid _ := HVW.out.off o2 ⟨fun h => h, fun h => h, fun h => h, fun h => h⟩
          have HO2 : Hid _ := HOW.out.trans o2 (fun _ _ h => h.elim)
          have HB2 : Hid _ := HB7.out.off o2 (fun h => h)
          clear o2 b0 b1 c1 HVW HOW HB7
          obtain ⟨s, i, hsi⟩ : ∃ s i, D.m k = (s, i) := ⟨_, _, rfl⟩
          have HMK : Hid (D.m k = (s, i)) := hsi
          have x0 := HV2.out.m.m0 HKD.out
          have x1 := HV2.out.m.m1 HKD.out
          have c1 := HV2.out.c1
          rw [HNN.out.1] at c1
          rw [hsi] at x0 x1
          simp only at x0 x1
          clear hsi
          go_upto_region 7 with fail
          generalize hW6 : w2.alloc (.cells #[.int .i64 s, .int .i64 i] 46) = W6
          have HW6 : Hid (RVw q a b c D W6) := by rw [← hW6]; exact HV2.out.off ((Off.refl (fun _ => False) w2).alloc _) ⟨fun h => h, fun h => h, fun h => h, fun h => h⟩
          have HO6 : Hid (Off (fun k => k = a ∨ k = b ∨ k = c) w W6) := by rw [← hW6]; exact HO2.out.alloc _
          have HB7 : Hid (Cel q7 46 #[.int .i64 xs, .int .i64 xi] W6) := by rw [← hW6]; exact HB2.out.alloc _
          have HB8 : Hid (Cel w2.heap.size 46 #[.int .i64 s, .int .i64 i] W6) := by rw [← hW6]; exact Cel.new w2 _ _
          have HNA8 : Hid (w2.heap.size ≠ a) := by show _ ≠ _; have := HV2.out.m.lt; omega
          clear hW6 x0 x1 c1 HV2 HO2 HB2
          generalize w2.heap.size = q8 at *
          have c0 := HW6.out.c0
          rw [HNN.out.2] at c0
          by_cases hs : k = d.self
          · have HYJ0 : Hid (joiD D k (xs, xi) = (rfS s i xs xi, rfI s i xs xi)) := by show _ = _; unfold joiD; rw [if_pos (by rw [HNN.out.2]; exact hs), HMK.out]
            have HC : Hid _ := rrefute_any s i xs xi
            rw [← hs] at c0
            obtain ⟨y1, hy1⟩ : ∃ y, y = rfS s i xs xi := ⟨_, rfl⟩
            obtain ⟨y2, hy2⟩ : ∃ y, y = rfI s i xs xi := ⟨_, rfl⟩
            obtain ⟨yb, hyb⟩ : ∃ y, y = rfB s i xs xi := ⟨_, rfl⟩
            rw [← hy1, ← hy2] at HYJ0
            rw [← hy1, ← hy2, ← hyb] at HC
            have HYJ : Hid (joiD D k (xs, xi) = (y1, y2)) := HYJ0.out
            clear hy1 hy2 hyb HYJ0 hs
            go_upto_region 8 with fail
            clear c0
            obtain ⟨W0, hW0⟩ : ∃ W0, W0 = W6.drew := ⟨_, rfl⟩
            refine wp_region_held_drew (S := Off (fun k => k = a) W6) (by kernel_rfl) ((Off.refl _ W6).drew) (fun hS => ?_)
            clear hW0 W0
            refine take_at (i := 0) 42 (v := .pointer (some ⟨q, 0, none⟩)) rfl rfl (by kernel_rfl) (by kernel_rfl) (by kernel_rfl) (fun _ _ _ h => h) (Or.inl ⟨by rfl, fun w' hw' => by go_simp⟩) hS ?_
            simp only [Act.put, List.setIfInBounds_toArray, List.set_cons_zero, List.set_cons_succ]
            refine take_at (i := 1) 43 (v := .pointer (some ⟨q, 0, none⟩)) rfl rfl (by kernel_rfl) (by kernel_rfl) (by kernel_rfl) (fun _ _ _ h => h) (Or.inl ⟨by rfl, fun w' hw' => by go_simp⟩) hS ?_
            simp only [Act.put, List.setIfInBounds_toArray, List.set_cons_zero, List.set_cons_succ]
            refine take_at (i := 2) 44 (v := .pointer (some ⟨q, 1, none⟩)) rfl rfl (by kernel_rfl) (by kernel_rfl) (by kernel_rfl) (fun _ _ _ h => h) (Or.inl ⟨by rfl, fun w' hw' => by go_simp⟩) hS ?_
            simp only [Act.put, List.setIfInBounds_toArray, List.set_cons_zero, List.set_cons_succ]
            refine take_at (i := 3) 45 (v := .slice (some ⟨a, 0, none⟩) n n) rfl rfl (by kernel_rfl) (by kernel_rfl) (by kernel_rfl) (fun _ _ _ h => h) (Or.inl ⟨by rfl, fun w' hw' => by have z1 := (HW6.out.cel.off hw' HW6.out.qa.1).cell 1; rw [HNN.out.1] at z1; simp at z1; go_simp⟩) hS ?_
            simp only [Act.put, List.setIfInBounds_toArray, List.set_cons_zero, List.set_cons_succ]
            refine take_at (i := 4) 46 (v := .int .i64 (k : Int)) rfl rfl (by kernel_rfl) (by kernel_rfl) (by kernel_rfl) (fun _ _ _ h => h) (Or.inl ⟨by rfl, fun w' hw' => by go_simp⟩) hS ?_
            simp only [Act.put, List.setIfInBounds_toArray, List.set_cons_zero, List.set_cons_succ]
            refine take_at (i := 5) 47 (v := .agg #[.int .i64 s, .int .i64 i]) rfl rfl (by kernel_rfl) (by kernel_rfl) (by kernel_rfl) (fun _ _ _ h => h) (Or.inl ⟨by rfl, fun w' hw' => by have z0 := (HB8.out.off hw' HNA8.out).cell 0; have z1 := (HB8.out.off hw' HNA8.out).cell 1; simp at z0 z1; go_simp⟩) hS ?_
            simp only [Act.put, List.setIfInBounds_toArray, List.set_cons_zero, List.set_cons_succ]
            refine take_at (i := 6) 48 (v := .agg #[.int .i64 xs, .int .i64 xi]) rfl rfl (by kernel_rfl) (by kernel_rfl) (by kernel_rfl) (fun _ _ _ h => h) (Or.inl ⟨by rfl, fun w' hw' => by have z0 := (HB7.out.off hw' HNA7.out).cell 0; have z1 := (HB7.out.off hw' HNA7.out).cell 1; simp at z0 z1; go_simp⟩) hS ?_
            simp only [Act.put, List.setIfInBounds_toArray, List.set_cons_zero, List.set_cons_succ]
            refine wpAnyH_ready (rs := [7]) (by kernel_rfl) (by simp) ?_
            refine AllReadyH.cons rfl (fun K' hK' => ?_) AllReadyH.nil
            go_simp
            refine (HC.out _).mono ?_
            rintro e V ⟨rfl, o1⟩
            refine hK'.out _ _ (hS.trans o1 (fun _ _ h => h.elim)) (fun hS => ?_)
            clear hK' K'
            have HV : Hid (RVw q a b c D V) := HW6.out.drew.off o1 ⟨fun h => h, fun h => h, fun h => h, fun h => h⟩
            have HBV8 : Hid _ := HB8.out.drew.off o1 (fun h => h)
            have HSV : Hid (Off (fun _ => False) W6 V) := ((Off.refl (fun _ => False) W6).drew).trans o1 (fun _ _ h => h)
            clear o1 hS
            have hS : Off (fun k => k = a) W6 V := HSV.out.mono (fun _ _ h => h.elim)
            refine take_at (i := 8) 41 (v := .tuple #[.agg #[.int .i64 y1, .int .i64 y2], .bool yb]) rfl rfl (by kernel_rfl) (by kernel_rfl) (by kernel_rfl) (fun _ _ _ h => h) (Or.inl ⟨by rfl, fun w' hw' => by go_simp⟩) hS ?_
            simp only [Act.put, List.setIfInBounds_toArray, List.set_cons_zero, List.set_cons_succ]
            refine take_at (i := 9) 50 (v := .agg #[.int .i64 y1, .int .i64 y2]) rfl rfl (by kernel_rfl) (by kernel_rfl) (by kernel_rfl) (fun _ _ _ h => h) (Or.inl ⟨by rfl, fun w' hw' => by go_simp⟩) hS ?_
            simp only [Act.put, List.setIfInBounds_toArray, List.set_cons_zero, List.set_cons_succ]
            refine take_at (i := 10) 51 (v := .bool yb) rfl rfl (by kernel_rfl) (by kernel_rfl) (by kernel_rfl) (fun _ _ _ h => h) (Or.inl ⟨by rfl, fun w' hw' => by go_simp⟩) hS ?_
            simp only [Act.put, List.setIfInBounds_toArray, List.set_cons_zero, List.set_cons_succ]
            refine take_at (i := 11) 52 (v := .pointer (some ⟨a, k * 2, none⟩)) rfl rfl (by kernel_rfl) (by kernel_rfl) (by kernel_rfl) (fun _ _ _ h => h) (Or.inl ⟨by rfl, fun w' hw' => by go_simp⟩) hS ?_
            simp only [Act.put, List.setIfInBounds_toArray, List.set_cons_zero, List.set_cons_succ]
            have x0 := HV.out.m.m0 HKD.out
            have x1 := HV.out.m.m1 HKD.out
            have fr := HV.out.m.free
            have HM : Hid _ := HV.out.m.set k HKD.out (y1, y2)
            refine wpAnyH_ready (rs := [12]) (by kernel_rfl) (by simp) ?_
            refine AllReadyH.cons rfl (fun K' hK' => ?_) AllReadyH.nil
            go_simp
            refine hK'.out _ _ (((hS.setCell (.inl rfl) _).setCell (.inl rfl) _)) (fun hS => ?_)
            clear hK' K'
            generalize hVS : (V.setCell ⟨a, k * 2, none⟩ (.int .i64 y1)).setCell ⟨a, k * 2 + 1, none⟩ (.int .i64 y2) = VS at HM hS ⊢
            have HOA : Hid (Off (fun k => k = a) V VS) := by rw [← hVS]; exact ((Off.refl (fun k => k = a) V).setCell (.inl rfl) _).setCell (.inl rfl) _
            clear hVS x0 x1 fr hS
            have HY : Hid _ := HV.out.setm HOA.out HM.out
            have HB8' : Hid _ := HBV8.out.off HOA.out (fun e => HNA8.out e)
            have HO7 : Hid (Off (fun k => k = a ∨ k = b ∨ k = c) w VS) := (HO6.out.trans HSV.out (fun _ _ h => h.elim)).trans (off1 HOA.out (by simp)) (fun _ _ h => h)
            clear HM HOA HV HBV8 HSV
            refine wpAnyH_done (by kernel_rfl) ?_ _
            have x0 := HY.out.m.m0 HKD.out
            have x1 := HY.out.m.m1 HKD.out
            have c1 := HY.out.c1
            have c2 := HY.out.c2
            simp only [upd_same] at x0 x1 c1 c2
            rw [HNN.out.1] at c1 c2
            have b0 : VS.cell? ⟨q8, 0, none⟩ = some (.int .i64 s) := HB8'.out.cell 0
            have b1 : VS.cell? ⟨q8, 1, none⟩ = some (.int .i64 i) := HB8'.out.cell 1
            have he := neq_mem y1 y2 s i
            cases hE : eqM y1 y2 s i
            · rw [hE] at he
              have HNE : Hid (D.m k ≠ (y1, y2)) := fun e => by
                rw [HMK.out] at e
                rw [Prod.mk.injEq] at e
                have := (eqM_iff (a := (y1, y2)) (b := (s, i))).2 (by rw [Prod.mk.injEq]; omega)
                simp only at this
                rw [this] at hE
                cases hE
              have HB : Hid (joinB d l (k + 1) = true) := by
                show _ = _
                rw [HBS.out, (newB_iff D k (xs, xi)).2 ⟨HKD.out, HMY.out, fun e => HNE.out (by rw [← HYJ.out, e])⟩]
                simp
              have HD : Hid (joinK d l (k + 1) = { { D with m := upd D.m k (y1, y2) } with age := upd D.age k 0 }) := by
                show _ = _
                rw [HDS.out]
                unfold joiS
                rw [HOK.out, if_pos rfl, HYJ.out]
                exact if_neg HNE.out
              clear hE
              go_wp2_with fail
              go_quiet (fail)
              go_upto_region 11 with fail
              generalize hVQ : VS.drewN nq = VQ
              have HYQ : Hid _ := HY.out.drewN nq
              have HOQ : Hid _ := HO7.out.drewN nq
              rw [hVQ] at HYQ HOQ
              clear hVQ x0 x1 c1 c2 b0 b1
              have c2 := HYQ.out.c2
              simp only at c2
              rw [HNN.out.1] at c2
              have x2 := HYQ.out.age.at_ HKD.out
              have fr2 := HYQ.out.age.free
              simp only at x2 fr2
              have HAG : Hid _ := HYQ.out.age.set k HKD.out 0
              have HOB : Hid (Off (fun k => k = b) VQ (VQ.setCell ⟨b, k, none⟩ (.int .i64 0))) := (Off.refl (fun k => k = b) VQ).setCell (.inl rfl) _
              have HZ : Hid _ := HYQ.out.setage HOB.out HAG.out
              go_wp2_with fail
              go_roundw
              case rel => exact ⟨k + 1, by rw [HB.out], by go_num, by omega, by rw [HD.out]; exact HZ.out, HOQ.out.trans (off1 HOB.out (by simp)) (fun _ _ h => h)⟩
              case measure => simp [intOf]; omega
            · rw [hE] at he
              have HEQ : Hid (D.m k = (y1, y2)) := by
                show _ = _
                rw [HMK.out]
                exact (eqM_iff (a := (y1, y2)) (b := (s, i))).1 hE |>.symm
              have HB : Hid (joinB d l (k + 1) = B) := by
                show _ = _
                rw [HBS.out]
                cases hq : newB D k (xs, xi)
                · simp
                · exact absurd ((newB_iff D k (xs, xi)).1 hq).2.2 (fun e => e (by rw [HYJ.out, HEQ.out]))
              have HD : Hid (joinK d l (k + 1) = { D with m := upd D.m k (y1, y2) }) := by
                show _ = _
                rw [HDS.out]
                unfold joiS
                rw [HOK.out, if_pos rfl, HYJ.out, ← HEQ.out, upd_self]
                exact if_pos rfl
              clear hE
              go_wp2_with fail
              go_quiet (fail)
              go_wp2_with fail
              go_roundw
              case rel => exact ⟨k + 1, by rw [HB.out], by go_num, by omega, by rw [HD.out]; exact HY.out.drewN _, HO7.out.drewN _⟩
              case measure => simp [intOf]; omega
          · have HYJ0 : Hid (joiD D k (xs, xi) = (jS s i xs xi, jI s i xs xi)) := by show _ = _; unfold joiD; rw [if_neg (by rw [HNN.out.2]; exact hs), HMK.out]; rfl
            have HC : Hid _ := rjoin_any s i xs xi
            have hs' : (k : Int) ≠ (d.self : Int) := by omega
            obtain ⟨y1, hy1⟩ : ∃ y, y = jS s i xs xi := ⟨_, rfl⟩
            obtain ⟨y2, hy2⟩ : ∃ y, y = jI s i xs xi := ⟨_, rfl⟩
            rw [← hy1, ← hy2] at HYJ0
            rw [← hy1, ← hy2] at HC
            have HYJ : Hid (joiD D k (xs, xi) = (y1, y2)) := HYJ0.out
            clear hy1 hy2 HYJ0 hs
            go_upto_region 9 with fail
            clear c0 hs'
            obtain ⟨W0, hW0⟩ : ∃ W0, W0 = W6.drew := ⟨_, rfl⟩
            refine wp_region_held_drew (S := Off (fun k => k = a) W6) (by kernel_rfl) ((Off.refl _ W6).drew) (fun hS => ?_)
            clear hW0 W0
            refine take_at (i := 0) 53 (v := .pointer (some ⟨q, 0, none⟩)) rfl rfl (by kernel_rfl) (by kernel_rfl) (by kernel_rfl) (fun _ _ _ h => h) (Or.inl ⟨by rfl, fun w' hw' => by go_simp⟩) hS ?_
            simp only [Act.put, List.setIfInBounds_toArray, List.set_cons_zero, List.set_cons_succ]
            refine take_at (i := 1) 54 (v := .pointer (some ⟨q, 0, none⟩)) rfl rfl (by kernel_rfl) (by kernel_rfl) (by kernel_rfl) (fun _ _ _ h => h) (Or.inl ⟨by rfl, fun w' hw' => by go_simp⟩) hS ?_
            simp only [Act.put, List.setIfInBounds_toArray, List.set_cons_zero, List.set_cons_succ]
            refine take_at (i := 2) 55 (v := .pointer (some ⟨q, 1, none⟩)) rfl rfl (by kernel_rfl) (by kernel_rfl) (by kernel_rfl) (fun _ _ _ h => h) (Or.inl ⟨by rfl, fun w' hw' => by go_simp⟩) hS ?_
            simp only [Act.put, List.setIfInBounds_toArray, List.set_cons_zero, List.set_cons_succ]
            refine take_at (i := 3) 56 (v := .slice (some ⟨a, 0, none⟩) n n) rfl rfl (by kernel_rfl) (by kernel_rfl) (by kernel_rfl) (fun _ _ _ h => h) (Or.inl ⟨by rfl, fun w' hw' => by have z1 := (HW6.out.cel.off hw' HW6.out.qa.1).cell 1; rw [HNN.out.1] at z1; simp at z1; go_simp⟩) hS ?_
            simp only [Act.put, List.setIfInBounds_toArray, List.set_cons_zero, List.set_cons_succ]
            refine take_at (i := 4) 57 (v := .int .i64 (k : Int)) rfl rfl (by kernel_rfl) (by kernel_rfl) (by kernel_rfl) (fun _ _ _ h => h) (Or.inl ⟨by rfl, fun w' hw' => by go_simp⟩) hS ?_
            simp only [Act.put, List.setIfInBounds_toArray, List.set_cons_zero, List.set_cons_succ]
            refine take_at (i := 5) 58 (v := .agg #[.int .i64 s, .int .i64 i]) rfl rfl (by kernel_rfl) (by kernel_rfl) (by kernel_rfl) (fun _ _ _ h => h) (Or.inl ⟨by rfl, fun w' hw' => by have z0 := (HB8.out.off hw' HNA8.out).cell 0; have z1 := (HB8.out.off hw' HNA8.out).cell 1; simp at z0 z1; go_simp⟩) hS ?_
            simp only [Act.put, List.setIfInBounds_toArray, List.set_cons_zero, List.set_cons_succ]
            refine take_at (i := 6) 59 (v := .agg #[.int .i64 xs, .int .i64 xi]) rfl rfl (by kernel_rfl) (by kernel_rfl) (by kernel_rfl) (fun _ _ _ h => h) (Or.inl ⟨by rfl, fun w' hw' => by have z0 := (HB7.out.off hw' HNA7.out).cell 0; have z1 := (HB7.out.off hw' HNA7.out).cell 1; simp at z0 z1; go_simp⟩) hS ?_
            simp only [Act.put, List.setIfInBounds_toArray, List.set_cons_zero, List.set_cons_succ]
            refine wpAnyH_ready (rs := [7]) (by kernel_rfl) (by simp) ?_
            refine AllReadyH.cons rfl (fun K' hK' => ?_) AllReadyH.nil
            go_simp
            refine (HC.out _).mono ?_
            rintro e V ⟨rfl, o1⟩
            refine hK'.out _ _ (hS.trans o1 (fun _ _ h => h.elim)) (fun hS => ?_)
            clear hK' K'
            have HV : Hid (RVw q a b c D V) := HW6.out.drew.off o1 ⟨fun h => h, fun h => h, fun h => h, fun h => h⟩
            have HBV8 : Hid _ := HB8.out.drew.off o1 (fun h => h)
            have HSV : Hid (Off (fun _ => False) W6 V) := ((Off.refl (fun _ => False) W6).drew).trans o1 (fun _ _ h => h)
            clear o1 hS
            have hS : Off (fun k => k = a) W6 V := HSV.out.mono (fun _ _ h => h.elim)
            refine take_at (i := 8) 61 (v := .pointer (some ⟨a, k * 2, none⟩)) rfl rfl (by kernel_rfl) (by kernel_rfl) (by kernel_rfl) (fun _ _ _ h => h) (Or.inl ⟨by rfl, fun w' hw' => by go_simp⟩) hS ?_
            simp only [Act.put, List.setIfInBounds_toArray, List.set_cons_zero, List.set_cons_succ]
            have x0 := HV.out.m.m0 HKD.out
            have x1 := HV.out.m.m1 HKD.out
            have fr := HV.out.m.free
            have HM : Hid _ := HV.out.m.set k HKD.out (y1, y2)
            refine wpAnyH_ready (rs := [9]) (by kernel_rfl) (by simp) ?_
            refine AllReadyH.cons rfl (fun K' hK' => ?_) AllReadyH.nil
            go_simp
            refine hK'.out _ _ (((hS.setCell (.inl rfl) _).setCell (.inl rfl) _)) (fun hS => ?_)
            clear hK' K'
            generalize hVS : (V.setCell ⟨a, k * 2, none⟩ (.int .i64 y1)).setCell ⟨a, k * 2 + 1, none⟩ (.int .i64 y2) = VS at HM hS ⊢
            have HOA : Hid (Off (fun k => k = a) V VS) := by rw [← hVS]; exact ((Off.refl (fun k => k = a) V).setCell (.inl rfl) _).setCell (.inl rfl) _
            clear hVS x0 x1 fr hS
            have HY : Hid _ := HV.out.setm HOA.out HM.out
            have HB8' : Hid _ := HBV8.out.off HOA.out (fun e => HNA8.out e)
            have HO7 : Hid (Off (fun k => k = a ∨ k = b ∨ k = c) w VS) := (HO6.out.trans HSV.out (fun _ _ h => h.elim)).trans (off1 HOA.out (by simp)) (fun _ _ h => h)
            clear HM HOA HV HBV8 HSV
            refine wpAnyH_done (by kernel_rfl) ?_ _
            have x0 := HY.out.m.m0 HKD.out
            have x1 := HY.out.m.m1 HKD.out
            have c1 := HY.out.c1
            have c2 := HY.out.c2
            simp only [upd_same] at x0 x1 c1 c2
            rw [HNN.out.1] at c1 c2
            have b0 : VS.cell? ⟨q8, 0, none⟩ = some (.int .i64 s) := HB8'.out.cell 0
            have b1 : VS.cell? ⟨q8, 1, none⟩ = some (.int .i64 i) := HB8'.out.cell 1
            have he := neq_mem y1 y2 s i
            cases hE : eqM y1 y2 s i
            · rw [hE] at he
              have HNE : Hid (D.m k ≠ (y1, y2)) := fun e => by
                rw [HMK.out] at e
                rw [Prod.mk.injEq] at e
                have := (eqM_iff (a := (y1, y2)) (b := (s, i))).2 (by rw [Prod.mk.injEq]; omega)
                simp only at this
                rw [this] at hE
                cases hE
              have HB : Hid (joinB d l (k + 1) = true) := by
                show _ = _
                rw [HBS.out, (newB_iff D k (xs, xi)).2 ⟨HKD.out, HMY.out, fun e => HNE.out (by rw [← HYJ.out, e])⟩]
                simp
              have HD : Hid (joinK d l (k + 1) = { { D with m := upd D.m k (y1, y2) } with age := upd D.age k 0 }) := by
                show _ = _
                rw [HDS.out]
                unfold joiS
                rw [HOK.out, if_pos rfl, HYJ.out]
                exact if_neg HNE.out
              clear hE
              go_wp2_with fail
              go_quiet (fail)
              go_upto_region 11 with fail
              generalize hVQ : VS.drewN nq = VQ
              have HYQ : Hid _ := HY.out.drewN nq
              have HOQ : Hid _ := HO7.out.drewN nq
              rw [hVQ] at HYQ HOQ
              clear hVQ x0 x1 c1 c2 b0 b1
              have c2 := HYQ.out.c2
              simp only at c2
              rw [HNN.out.1] at c2
              have x2 := HYQ.out.age.at_ HKD.out
              have fr2 := HYQ.out.age.free
              simp only at x2 fr2
              have HAG : Hid _ := HYQ.out.age.set k HKD.out 0
              have HOB : Hid (Off (fun k => k = b) VQ (VQ.setCell ⟨b, k, none⟩ (.int .i64 0))) := (Off.refl (fun k => k = b) VQ).setCell (.inl rfl) _
              have HZ : Hid _ := HYQ.out.setage HOB.out HAG.out
              go_wp2_with fail
              go_roundw
              case rel => exact ⟨k + 1, by rw [HB.out], by go_num, by omega, by rw [HD.out]; exact HZ.out, HOQ.out.trans (off1 HOB.out (by simp)) (fun _ _ h => h)⟩
              case measure => simp [intOf]; omega
            · rw [hE] at he
              have HEQ : Hid (D.m k = (y1, y2)) := by
                show _ = _
                rw [HMK.out]
                exact (eqM_iff (a := (y1, y2)) (b := (s, i))).1 hE |>.symm
              have HB : Hid (joinB d l (k + 1) = B) := by
                show _ = _
                rw [HBS.out]
                cases hq : newB D k (xs, xi)
                · simp
                · exact absurd ((newB_iff D k (xs, xi)).1 hq).2.2 (fun e => e (by rw [HYJ.out, HEQ.out]))
              have HD : Hid (joinK d l (k + 1) = { D with m := upd D.m k (y1, y2) }) := by
                show _ = _
                rw [HDS.out]
                unfold joiS
                rw [HOK.out, if_pos rfl, HYJ.out, ← HEQ.out, upd_self]
                exact if_pos rfl
              clear hE
              go_wp2_with fail
              go_quiet (fail)
              go_wp2_with fail
              go_roundw
              case rel => exact ⟨k + 1, by rw [HB.out], by go_num, by omega, by rw [HD.out]; exact HY.out.drewN _, HO7.out.drewN _⟩
              case measure => simp [intOf]; omega
    · obtain rfl : k = l.length := by omega
      go_wp2_with fail
      go_ret
      exact ⟨rfl, HW.out, HO.out⟩
end Go.Proofs.Ytakijikehpblfaa
