/- place: all points in order. -/
import Derived.Test.YtpiknkgnmjcjjaaSrt14
namespace Go.Proofs.Ytpiknkgnmjcjjaa
set_option maxRecDepth 100000
open Go.RowKit

theorem Rc.off {D : Nat → Prop} {b : Nat} {k d s : Int} {ps : Value} {m : Int} {w w' : World} (h : Rc b k d s ps m w) (o : Off D w w') (hb : ¬ D b) : Rc b k d s ps m w' := Cel.off h o hb
theorem Rc.lt {b : Nat} {k d s : Int} {ps : Value} {m : Int} {w : World} (h : Rc b k d s ps m w) : b < w.heap.size := Cel.lt h
theorem OwnG.none0 {α : Type} {e : TypeId} {size : Nat} {cs : α → List Value} {w : World} {a : Option Addr} {cap : Nat} {l : List α} (h : OwnG e size cs w a cap l) : a = none → cap = 0 := by
  intro e
  rcases h.row.2 with ⟨hv, h0⟩ | ⟨g, c, cur, hv, -⟩
  · simp only [Value.slice.injEq] at hv
    exact hv.2.2
  · simp only [Value.slice.injEq] at hv
    rw [e] at hv
    cases hv.1
theorem wrap_small (i : Nat) (h : i < 256) : IntKind.u8.wrap (i : Int) = (i : Int) := by
  rw [IntKind.wrap_u8]
  omega
set_option maxHeartbeats 1000000 in
theorem place_x (b n : Nat) (hn : n ≤ 8) (w : World) (h : Rc b (n : Int) 0 1 (.slice none 0 0) 0 w) :
    Calls Try.prog 23 #[.pointer (some ⟨b, 0, none⟩)] w fun e w' => e = .returned (.tuple #[]) ∧ ∃ t c, Rc b (n : Int) 0 1 (.slice t (ptsP n).length c) 1 w' ∧ RowP w' t c (ptsP n) ∧ (t = none → c = 0) ∧ (∀ k, blk t = some k → w.heap.size ≤ k ∧ k < w'.heap.size) ∧ Off (fun k => k = b) w w' := by
  have hb := h.lt
  have HB : Hid (b < w.heap.size) := hb
  have c0 := h.c0
  have HR : Hid _ := h
  clear h hb
  go_enter Try.func23, Try.ntmps23
  go_wp2_with fail
  clear c0
  go_loopw [8] (fun y wr => ∃ (i : Nat) (t : Option Addr) (c : Nat), y = .int .i64 (i : Int) ∧ i ≤ n ∧ Rc b (n : Int) 0 1 (.slice t (preP i 0).length c) 0 wr ∧ OwnG 75 3 pcs wr t c (preP i 0) ∧ (∀ k, blk t = some k → w.heap.size ≤ k) ∧ Off (fun k => k = b) w wr) (fun y _ => (n - intOf y).toNat)
  case atStart => exact ⟨0, none, 0, rfl, by omega, HR.out, OwnG.nil _ _ _ w, fun k hk => by simp [blk] at hk, Off.refl _ w⟩
  case round =>
    obtain ⟨i, t0, c0, rfl, hi, hrc, own, hat, O⟩ := hrel
    have HRC0 : Hid _ := hrc
    have HOW0 : Hid _ := own
    have HAT0 : Hid _ := hat
    have HO0 : Hid _ := O
    clear hrc own hat O
    by_cases hlt : i < n
    · go_wp2_with fail
      go_loopw [11] (fun y wq => ∃ (j : Nat) (t : Option Addr) (c : Nat), y = .int .i64 (j : Int) ∧ j ≤ 4 ∧ Rc b (n : Int) 0 1 (.slice t (preP i j).length c) 0 wq ∧ OwnG 75 3 pcs wq t c (preP i j) ∧ (∀ k, blk t = some k → w.heap.size ≤ k) ∧ Off (fun k => k = b) w wq) (fun y _ => (4 - intOf y).toNat)
      case atStart => exact ⟨0, t0, c0, rfl, by omega, HRC0.out, HOW0.out, HAT0.out, HO0.out⟩
      case round =>
        clear HRC0 HOW0 HAT0 HO0
        obtain ⟨j, t, c, rfl, hj, hrc, own, hat, O⟩ := hrel
        have HRC : Hid _ := hrc
        have HOW : Hid _ := own
        have HAT : Hid _ := hat
        have HO : Hid _ := O
        clear hrc own hat O
        by_cases hj4 : j < 4
        · have HNX : Hid _ := pre_next i j
          have HPL : Hid _ := pre_len i j
          have HM : Hid (pt i j = (mixL [110, i, 112, j], i, j)) := rfl
          have HPT : Hid (∀ W, Calls Try.prog 31 #[.int .i64 (i : Int), .int .i64 (j : Int)] W fun e w' => e = .returned (.int .u32 (mixL [110, i, 112, j] : Nat)) ∧ Off (fun _ => False) W w') := fun W => point_any (i : Int) (j : Int) i j (by omega) (by omega) (wrap_small i (by omega)) (wrap_small j (by omega)) W
          generalize mixL [110, i, 112, j] = M at HM HPT
          generalize preP i j = ps at HRC HOW HNX HPL ⊢
          have HNB : Hid (¬ blk t = some b) := fun e => by
            have h1 := HAT.out b e
            have h2 : b < w.heap.size := HB.out
            omega
          go_upto_region 6 with fail
          refine wp_region_held_drew (S := Off (fun k => blk t = some k ∨ k = b) wr) (by kernel_rfl) ((Off.refl _ wr).drew) (fun hS => ?_)
          have HOC : Hid _ := (Off.refl (fun _ => False) wr).drew
          generalize hdr : wr.drew = v0 at HOC hS ⊢
          clear hdr
          refine take_at (i := 0) 14 (v := .pointer (some ⟨b, 0, none⟩)) rfl rfl (by kernel_rfl) (by kernel_rfl) (by kernel_rfl) (fun _ _ _ h => h) (Or.inl ⟨by rfl, fun w' hw' => by go_simp⟩) hS ?_
          simp only [Act.put, List.setIfInBounds_toArray, List.set_cons_zero, List.set_cons_succ]
          refine take_at (i := 1) 15 (v := .pointer (some ⟨b, 0, none⟩)) rfl rfl (by kernel_rfl) (by kernel_rfl) (by kernel_rfl) (fun _ _ _ h => h) (Or.inl ⟨by rfl, fun w' hw' => by go_simp⟩) hS ?_
          simp only [Act.put, List.setIfInBounds_toArray, List.set_cons_zero, List.set_cons_succ]
          refine take_at (i := 2) 16 (v := .pointer (some ⟨b, 0, none⟩)) rfl rfl (by kernel_rfl) (by kernel_rfl) (by kernel_rfl) (fun _ _ _ h => h) (Or.inl ⟨by rfl, fun w' hw' => by go_simp⟩) hS ?_
          simp only [Act.put, List.setIfInBounds_toArray, List.set_cons_zero, List.set_cons_succ]
          refine take_at (i := 3) 17 (v := .pointer (some ⟨b, 4, none⟩)) rfl rfl (by kernel_rfl) (by kernel_rfl) (by kernel_rfl) (fun _ _ _ h => h) (Or.inl ⟨by rfl, fun w' hw' => by go_simp⟩) hS ?_
          simp only [Act.put, List.setIfInBounds_toArray, List.set_cons_zero, List.set_cons_succ]
          refine take_at (i := 5) 19 (v := .int .i64 (i : Int)) rfl rfl (by kernel_rfl) (by kernel_rfl) (by kernel_rfl) (fun _ _ _ h => h) (Or.inl ⟨by rfl, fun w' hw' => by go_simp⟩) hS ?_
          simp only [Act.put, List.setIfInBounds_toArray, List.set_cons_zero, List.set_cons_succ]
          refine take_at (i := 6) 20 (v := .int .i64 (j : Int)) rfl rfl (by kernel_rfl) (by kernel_rfl) (by kernel_rfl) (fun _ _ _ h => h) (Or.inl ⟨by rfl, fun w' hw' => by go_simp⟩) hS ?_
          simp only [Act.put, List.setIfInBounds_toArray, List.set_cons_zero, List.set_cons_succ]
          refine take_at (i := 8) 22 (v := .int .i64 (i : Int)) rfl rfl (by kernel_rfl) (by kernel_rfl) (by kernel_rfl) (fun _ _ _ h => h) (Or.inl ⟨by rfl, fun w' hw' => by go_simp⟩) hS ?_
          simp only [Act.put, List.setIfInBounds_toArray, List.set_cons_zero, List.set_cons_succ]
          refine take_at (i := 9) 23 (v := .int .i64 (j : Int)) rfl rfl (by kernel_rfl) (by kernel_rfl) (by kernel_rfl) (fun _ _ _ h => h) (Or.inl ⟨by rfl, fun w' hw' => by go_simp⟩) hS ?_
          simp only [Act.put, List.setIfInBounds_toArray, List.set_cons_zero, List.set_cons_succ]
          refine wpAnyH_ready (rs := [4, 7]) (by kernel_rfl) (by simp) ?_
          refine AllReadyH.cons rfl (fun K' hK' => ?_) (AllReadyH.cons rfl (fun K' hK' => ?_) AllReadyH.nil)
          · have x4 := Rc.c4 (Rc.off HRC.out HOC.out (fun h => h))
            go_simp
            refine hK'.out _ _ hS (fun hS => ?_)
            clear hK' K' x4
            refine wpAnyH_ready (rs := [7]) (by kernel_rfl) (by simp) ?_
            refine AllReadyH.cons rfl (fun K' hK' => ?_) AllReadyH.nil
            go_simp
            refine (HPT.out _).mono ?_
            rintro e v ⟨rfl, o1⟩
            replace HOC : Hid (Off (fun _ => False) wr v) := HOC.out.trans o1 (fun _ _ h => h)
            have hS1 := hS.trans o1 (fun _ _ h => h.elim)
            refine hK'.out _ _ hS1 (fun hS => ?_)
            clear hK' K' hS1 o1
            refine take_at (i := 10) 24 (v := .agg #[.int .u32 (M : Nat), .int .i64 (i : Int), .int .i64 (j : Int)]) rfl rfl (by kernel_rfl) (by kernel_rfl) (by kernel_rfl) (fun _ _ _ h => h) (Or.inl ⟨by rfl, fun w' hw' => by go_simp⟩) hS ?_
            simp only [Act.put, List.setIfInBounds_toArray, List.set_cons_zero, List.set_cons_succ]
            refine wpAnyH_ready (rs := [11]) (by kernel_rfl) (by simp) ?_
            refine AllReadyH.cons rfl (fun K' hK' => ?_) AllReadyH.nil
            go_simp
            have RP := rowP_new v 75 (M, i, j)
            have hS1 := hS.alloc (.cells #[.int .u32 (M : Nat), .int .i64 (i : Int), .int .i64 (j : Int)] 75)
            have HOA := HOC.out.alloc (.cells #[.int .u32 (M : Nat), .int .i64 (i : Int), .int .i64 (j : Int)] 75)
            refine hK'.out _ _ hS1 (fun hS => ?_)
            clear hK' K' hS1 HOC
            generalize hq : v.heap.size = q at RP ⊢
            generalize hv : v.alloc (.cells #[.int .u32 (M : Nat), .int .i64 (i : Int), .int .i64 (j : Int)] 75) = V at RP HOA hS ⊢
            have HOC : Hid _ := HOA
            have HRP : Hid _ := RP
            clear hq hv RP HOA
            refine wpAnyH_ready (rs := [12]) (by kernel_rfl) (by simp) ?_
            refine AllReadyH.cons rfl (fun K' hK' => ?_) AllReadyH.nil
            obtain ⟨t', c', v3, hr, own3, o3, at3⟩ := appP_run Try.underlying57 Try.infoP (HOW.out.off HOC.out (fun _ _ _ h => h)) HRP.out (fun e => by cases e) (by have : ps.length = i * 4 + j := HPL.out; simp; omega) 57
            have hS3 : Off (fun k => blk t = some k ∨ k = b) wr v3 := hS.trans o3 (fun _ _ h => .inl h)
            have hrc3 := Rc.off (Rc.off HRC.out HOC.out (fun h => h)) o3 HNB.out
            refine wp_append_if rfl (.tmp 18) (.tmp 25) rfl rfl rfl hr 26 rfl ?_
            simp only [Act.put, List.setIfInBounds_toArray, List.set_cons_zero, List.set_cons_succ]
            refine hK'.out _ _ hS3 (fun hS => ?_)
            clear hK' K' hr hS3
            have HOW3 : Hid _ := own3
            have HO3 : Hid _ := o3
            have HAT3 : Hid _ := at3
            have HRC3 : Hid _ := hrc3
            clear own3 o3 at3 hrc3
            have HYS : Hid (ps ++ [(M, i, j)] = preP i (j + 1)) := by
              show _ = _
              rw [HNX.out, HM.out]
            rw [HYS.out] at HOW3 ⊢
            refine take_at (i := 13) 27 (v := .pointer (some ⟨b, 0, none⟩)) rfl rfl (by kernel_rfl) (by kernel_rfl) (by kernel_rfl) (fun _ _ _ h => h) (Or.inl ⟨by rfl, fun w' hw' => by go_simp⟩) hS ?_
            simp only [Act.put, List.setIfInBounds_toArray, List.set_cons_zero, List.set_cons_succ]
            refine take_at (i := 14) 28 (v := .pointer (some ⟨b, 4, none⟩)) rfl rfl (by kernel_rfl) (by kernel_rfl) (by kernel_rfl) (fun _ _ _ h => h) (Or.inl ⟨by rfl, fun w' hw' => by go_simp⟩) hS ?_
            simp only [Act.put, List.setIfInBounds_toArray, List.set_cons_zero, List.set_cons_succ]
            refine wpAnyH_ready (rs := [15]) (by kernel_rfl) (by simp) ?_
            refine AllReadyH.cons rfl (fun K' hK' => ?_) AllReadyH.nil
            have x4 := Rc.c4 HRC3.out
            have f4 := Rc.fr HRC3.out 4
            go_simp
            have hS4 := hS.setCell (p := ⟨b, 4, none⟩) (.inl (.inr rfl)) (.slice t' (preP i (j + 1)).length c')
            refine hK'.out _ _ hS4 (fun hS => ?_)
            clear hK' K' hS4 x4 f4
            refine wpAnyH_done (by kernel_rfl) ?_ _
            have HBT : Hid (∀ k, blk t' = some k → w.heap.size ≤ k) := fun k hk => by
              rcases HAT3.out with e | e
              · exact HAT.out k (e ▸ hk)
              · rw [e] at hk
                cases hk
                exact Nat.le_trans HO.out.size HOC.out.size
            have HFR : Hid (Rc b (n : Int) 0 1 (.slice t' (preP i (j + 1)).length c') 0 (v3.setCell ⟨b, 4, none⟩ (.slice t' (preP i (j + 1)).length c'))) := Rc.s4 HRC3.out _
            have HFO : Hid _ := HOW3.out.off ((Off.refl (fun k => k = b) v3).setCell (p := ⟨b, 4, none⟩) (.inl rfl) (.slice t' (preP i (j + 1)).length c')) (fun k _ hk e => by
              have h1 := HBT.out k hk
              have h2 : b < w.heap.size := HB.out
              omega)
            have HFF : Hid _ := ((HO.out.trans HOC.out (fun _ _ h => h.elim)).trans HO3.out (fun k hk e => by
              have h1 := HAT.out k e
              exact absurd hk (by omega))).setCell (p := ⟨b, 4, none⟩) (.inl rfl) (.slice t' (preP i (j + 1)).length c')
            generalize hvv : v3.setCell ⟨b, 4, none⟩ (.slice t' (preP i (j + 1)).length c') = v4 at HFR HFO HFF ⊢
            clear hvv hS HOC HRP HOW3 HO3 HAT3 HRC3 HYS HNX HPL HRC HOW HAT HO HPT HM
            go_wp2_with fail
            go_roundw
            case rel => exact ⟨j + 1, t', c', by go_num, by omega, HFR.out, HFO.out, HBT.out, HFF.out⟩
            case measure => simp [intOf]; omega
          · go_simp
            refine (HPT.out _).mono ?_
            rintro e v ⟨rfl, o1⟩
            replace HOC : Hid (Off (fun _ => False) wr v) := HOC.out.trans o1 (fun _ _ h => h)
            have hS1 := hS.trans o1 (fun _ _ h => h.elim)
            refine hK'.out _ _ hS1 (fun hS => ?_)
            clear hK' K' hS1 o1
            refine take_at (i := 10) 24 (v := .agg #[.int .u32 (M : Nat), .int .i64 (i : Int), .int .i64 (j : Int)]) rfl rfl (by kernel_rfl) (by kernel_rfl) (by kernel_rfl) (fun _ _ _ h => h) (Or.inl ⟨by rfl, fun w' hw' => by go_simp⟩) hS ?_
            simp only [Act.put, List.setIfInBounds_toArray, List.set_cons_zero, List.set_cons_succ]
            refine wpAnyH_ready (rs := [4, 11]) (by kernel_rfl) (by simp) ?_
            refine AllReadyH.cons rfl (fun K' hK' => ?_) (AllReadyH.cons rfl (fun K' hK' => ?_) AllReadyH.nil)
            · have x4 := Rc.c4 (Rc.off HRC.out HOC.out (fun h => h))
              go_simp
              refine hK'.out _ _ hS (fun hS => ?_)
              clear hK' K' x4
              refine wpAnyH_ready (rs := [11]) (by kernel_rfl) (by simp) ?_
              refine AllReadyH.cons rfl (fun K' hK' => ?_) AllReadyH.nil
              go_simp
              have RP := rowP_new v 75 (M, i, j)
              have hS1 := hS.alloc (.cells #[.int .u32 (M : Nat), .int .i64 (i : Int), .int .i64 (j : Int)] 75)
              have HOA := HOC.out.alloc (.cells #[.int .u32 (M : Nat), .int .i64 (i : Int), .int .i64 (j : Int)] 75)
              refine hK'.out _ _ hS1 (fun hS => ?_)
              clear hK' K' hS1 HOC
              generalize hq : v.heap.size = q at RP ⊢
              generalize hv : v.alloc (.cells #[.int .u32 (M : Nat), .int .i64 (i : Int), .int .i64 (j : Int)] 75) = V at RP HOA hS ⊢
              have HOC : Hid _ := HOA
              have HRP : Hid _ := RP
              clear hq hv RP HOA
              refine wpAnyH_ready (rs := [12]) (by kernel_rfl) (by simp) ?_
              refine AllReadyH.cons rfl (fun K' hK' => ?_) AllReadyH.nil
              obtain ⟨t', c', v3, hr, own3, o3, at3⟩ := appP_run Try.underlying57 Try.infoP (HOW.out.off HOC.out (fun _ _ _ h => h)) HRP.out (fun e => by cases e) (by have : ps.length = i * 4 + j := HPL.out; simp; omega) 57
              have hS3 : Off (fun k => blk t = some k ∨ k = b) wr v3 := hS.trans o3 (fun _ _ h => .inl h)
              have hrc3 := Rc.off (Rc.off HRC.out HOC.out (fun h => h)) o3 HNB.out
              refine wp_append_if rfl (.tmp 18) (.tmp 25) rfl rfl rfl hr 26 rfl ?_
              simp only [Act.put, List.setIfInBounds_toArray, List.set_cons_zero, List.set_cons_succ]
              refine hK'.out _ _ hS3 (fun hS => ?_)
              clear hK' K' hr hS3
              have HOW3 : Hid _ := own3
              have HO3 : Hid _ := o3
              have HAT3 : Hid _ := at3
              have HRC3 : Hid _ := hrc3
              clear own3 o3 at3 hrc3
              have HYS : Hid (ps ++ [(M, i, j)] = preP i (j + 1)) := by
                show _ = _
                rw [HNX.out, HM.out]
              rw [HYS.out] at HOW3 ⊢
              refine take_at (i := 13) 27 (v := .pointer (some ⟨b, 0, none⟩)) rfl rfl (by kernel_rfl) (by kernel_rfl) (by kernel_rfl) (fun _ _ _ h => h) (Or.inl ⟨by rfl, fun w' hw' => by go_simp⟩) hS ?_
              simp only [Act.put, List.setIfInBounds_toArray, List.set_cons_zero, List.set_cons_succ]
              refine take_at (i := 14) 28 (v := .pointer (some ⟨b, 4, none⟩)) rfl rfl (by kernel_rfl) (by kernel_rfl) (by kernel_rfl) (fun _ _ _ h => h) (Or.inl ⟨by rfl, fun w' hw' => by go_simp⟩) hS ?_
              simp only [Act.put, List.setIfInBounds_toArray, List.set_cons_zero, List.set_cons_succ]
              refine wpAnyH_ready (rs := [15]) (by kernel_rfl) (by simp) ?_
              refine AllReadyH.cons rfl (fun K' hK' => ?_) AllReadyH.nil
              have x4 := Rc.c4 HRC3.out
              have f4 := Rc.fr HRC3.out 4
              go_simp
              have hS4 := hS.setCell (p := ⟨b, 4, none⟩) (.inl (.inr rfl)) (.slice t' (preP i (j + 1)).length c')
              refine hK'.out _ _ hS4 (fun hS => ?_)
              clear hK' K' hS4 x4 f4
              refine wpAnyH_done (by kernel_rfl) ?_ _
              have HBT : Hid (∀ k, blk t' = some k → w.heap.size ≤ k) := fun k hk => by
                rcases HAT3.out with e | e
                · exact HAT.out k (e ▸ hk)
                · rw [e] at hk
                  cases hk
                  exact Nat.le_trans HO.out.size HOC.out.size
              have HFR : Hid (Rc b (n : Int) 0 1 (.slice t' (preP i (j + 1)).length c') 0 (v3.setCell ⟨b, 4, none⟩ (.slice t' (preP i (j + 1)).length c'))) := Rc.s4 HRC3.out _
              have HFO : Hid _ := HOW3.out.off ((Off.refl (fun k => k = b) v3).setCell (p := ⟨b, 4, none⟩) (.inl rfl) (.slice t' (preP i (j + 1)).length c')) (fun k _ hk e => by
                have h1 := HBT.out k hk
                have h2 : b < w.heap.size := HB.out
                omega)
              have HFF : Hid _ := ((HO.out.trans HOC.out (fun _ _ h => h.elim)).trans HO3.out (fun k hk e => by
                have h1 := HAT.out k e
                exact absurd hk (by omega))).setCell (p := ⟨b, 4, none⟩) (.inl rfl) (.slice t' (preP i (j + 1)).length c')
              generalize hvv : v3.setCell ⟨b, 4, none⟩ (.slice t' (preP i (j + 1)).length c') = v4 at HFR HFO HFF ⊢
              clear hvv hS HOC HRP HOW3 HO3 HAT3 HRC3 HYS HNX HPL HRC HOW HAT HO HPT HM
              go_wp2_with fail
              go_roundw
              case rel => exact ⟨j + 1, t', c', by go_num, by omega, HFR.out, HFO.out, HBT.out, HFF.out⟩
              case measure => simp [intOf]; omega
            · go_simp
              have RP := rowP_new v 75 (M, i, j)
              have hS1 := hS.alloc (.cells #[.int .u32 (M : Nat), .int .i64 (i : Int), .int .i64 (j : Int)] 75)
              have HOA := HOC.out.alloc (.cells #[.int .u32 (M : Nat), .int .i64 (i : Int), .int .i64 (j : Int)] 75)
              refine hK'.out _ _ hS1 (fun hS => ?_)
              clear hK' K' hS1 HOC
              generalize hq : v.heap.size = q at RP ⊢
              generalize hv : v.alloc (.cells #[.int .u32 (M : Nat), .int .i64 (i : Int), .int .i64 (j : Int)] 75) = V at RP HOA hS ⊢
              have HOC : Hid _ := HOA
              have HRP : Hid _ := RP
              clear hq hv RP HOA
              refine wpAnyH_ready (rs := [4]) (by kernel_rfl) (by simp) ?_
              refine AllReadyH.cons rfl (fun K' hK' => ?_) AllReadyH.nil
              have x4 := Rc.c4 (Rc.off HRC.out HOC.out (fun h => h))
              go_simp
              refine hK'.out _ _ hS (fun hS => ?_)
              clear hK' K' x4
              refine wpAnyH_ready (rs := [12]) (by kernel_rfl) (by simp) ?_
              refine AllReadyH.cons rfl (fun K' hK' => ?_) AllReadyH.nil
              obtain ⟨t', c', v3, hr, own3, o3, at3⟩ := appP_run Try.underlying57 Try.infoP (HOW.out.off HOC.out (fun _ _ _ h => h)) HRP.out (fun e => by cases e) (by have : ps.length = i * 4 + j := HPL.out; simp; omega) 57
              have hS3 : Off (fun k => blk t = some k ∨ k = b) wr v3 := hS.trans o3 (fun _ _ h => .inl h)
              have hrc3 := Rc.off (Rc.off HRC.out HOC.out (fun h => h)) o3 HNB.out
              refine wp_append_if rfl (.tmp 18) (.tmp 25) rfl rfl rfl hr 26 rfl ?_
              simp only [Act.put, List.setIfInBounds_toArray, List.set_cons_zero, List.set_cons_succ]
              refine hK'.out _ _ hS3 (fun hS => ?_)
              clear hK' K' hr hS3
              have HOW3 : Hid _ := own3
              have HO3 : Hid _ := o3
              have HAT3 : Hid _ := at3
              have HRC3 : Hid _ := hrc3
              clear own3 o3 at3 hrc3
              have HYS : Hid (ps ++ [(M, i, j)] = preP i (j + 1)) := by
                show _ = _
                rw [HNX.out, HM.out]
              rw [HYS.out] at HOW3 ⊢
              refine take_at (i := 13) 27 (v := .pointer (some ⟨b, 0, none⟩)) rfl rfl (by kernel_rfl) (by kernel_rfl) (by kernel_rfl) (fun _ _ _ h => h) (Or.inl ⟨by rfl, fun w' hw' => by go_simp⟩) hS ?_
              simp only [Act.put, List.setIfInBounds_toArray, List.set_cons_zero, List.set_cons_succ]
              refine take_at (i := 14) 28 (v := .pointer (some ⟨b, 4, none⟩)) rfl rfl (by kernel_rfl) (by kernel_rfl) (by kernel_rfl) (fun _ _ _ h => h) (Or.inl ⟨by rfl, fun w' hw' => by go_simp⟩) hS ?_
              simp only [Act.put, List.setIfInBounds_toArray, List.set_cons_zero, List.set_cons_succ]
              refine wpAnyH_ready (rs := [15]) (by kernel_rfl) (by simp) ?_
              refine AllReadyH.cons rfl (fun K' hK' => ?_) AllReadyH.nil
              have x4 := Rc.c4 HRC3.out
              have f4 := Rc.fr HRC3.out 4
              go_simp
              have hS4 := hS.setCell (p := ⟨b, 4, none⟩) (.inl (.inr rfl)) (.slice t' (preP i (j + 1)).length c')
              refine hK'.out _ _ hS4 (fun hS => ?_)
              clear hK' K' hS4 x4 f4
              refine wpAnyH_done (by kernel_rfl) ?_ _
              have HBT : Hid (∀ k, blk t' = some k → w.heap.size ≤ k) := fun k hk => by
                rcases HAT3.out with e | e
                · exact HAT.out k (e ▸ hk)
                · rw [e] at hk
                  cases hk
                  exact Nat.le_trans HO.out.size HOC.out.size
              have HFR : Hid (Rc b (n : Int) 0 1 (.slice t' (preP i (j + 1)).length c') 0 (v3.setCell ⟨b, 4, none⟩ (.slice t' (preP i (j + 1)).length c'))) := Rc.s4 HRC3.out _
              have HFO : Hid _ := HOW3.out.off ((Off.refl (fun k => k = b) v3).setCell (p := ⟨b, 4, none⟩) (.inl rfl) (.slice t' (preP i (j + 1)).length c')) (fun k _ hk e => by
                have h1 := HBT.out k hk
                have h2 : b < w.heap.size := HB.out
                omega)
              have HFF : Hid _ := ((HO.out.trans HOC.out (fun _ _ h => h.elim)).trans HO3.out (fun k hk e => by
                have h1 := HAT.out k e
                exact absurd hk (by omega))).setCell (p := ⟨b, 4, none⟩) (.inl rfl) (.slice t' (preP i (j + 1)).length c')
              generalize hvv : v3.setCell ⟨b, 4, none⟩ (.slice t' (preP i (j + 1)).length c') = v4 at HFR HFO HFF ⊢
              clear hvv hS HOC HRP HOW3 HO3 HAT3 HRC3 HYS HNX HPL HRC HOW HAT HO HPT HM
              go_wp2_with fail
              go_roundw
              case rel => exact ⟨j + 1, t', c', by go_num, by omega, HFR.out, HFO.out, HBT.out, HFF.out⟩
              case measure => simp [intOf]; omega
        · obtain rfl : j = 4 := by omega
          have HRW : Hid _ := pre_row i
          rw [HRW.out] at HRC HOW
          go_wp2_with fail
          go_roundw
          case rel => exact ⟨i + 1, t, c, by go_num, by omega, HRC.out, HOW.out, HAT.out, HO.out⟩
          case measure => simp [intOf]; omega
    · obtain rfl : i = n := by omega
      have c4 := Rc.c4 HRC0.out
      have HST : Hid _ := psort_any t0 c0 (preP i 0) wr HOW0.out (pre_nodup i 0 (by omega)) (by rw [pre_len]; omega)
      have HEQ : Hid (srtP (preP i 0) = ptsP i) := rfl
      have HLN : Hid ((preP i 0).length = (ptsP i).length) := by show _ = _; rw [pre_len, pts_len]; omega
      have HNB : Hid (¬ blk t0 = some b) := fun e => by
        have h1 := HAT0.out b e
        have h2 : b < w.heap.size := HB.out
        omega
      rw [HEQ.out] at HST
      rw [HLN.out] at HST c4 HRC0
      have HZ : Hid _ := HOW0.out.none0
      have HLT : Hid _ := HOW0.out.lt
      generalize hps : ptsP i = ps at HST c4 HRC0
      have HPS : Hid (ptsP i = ps) := hps
      clear HEQ HLN hps
      go_wp2_with fail
      refine Calls.mono HST.out ?_
      rintro e v1 ⟨rfl, rp, o1⟩
      have HRP : Hid _ := rp
      have HO1 : Hid _ := o1
      have hrc1 := Rc.off HRC0.out o1 HNB.out
      have HA : Hid _ := i64add ⟨b, 5, none⟩ 0 v1 (Rc.c5 hrc1) (Rc.fr hrc1 5) rfl
      have HRC1 : Hid (Rc b (i : Int) 0 1 (.slice t0 ps.length c0) 0 v1) := hrc1
      clear rp o1 c4 hrc1
      go_wp2_with fail
      refine Calls.mono HA.out ?_
      rintro e v2 ⟨rfl, hv⟩
      have HR2 : Hid (Rc b (i : Int) 0 1 (.slice t0 ps.length c0) 1 v2) := by
        show Rc _ _ _ _ _ _ _
        rw [hv]
        exact Rc.s5 HRC1.out 1
      have HO2 : Hid (Off (fun k => k = b) v1 v2) := by
        show Off _ _ _
        rw [hv]
        exact (Off.refl (fun k => k = b) v1).setCell (p := ⟨b, 5, none⟩) (.inl rfl) _
      clear hv
      go_wp2_with fail
      go_end0
      rw [HPS.out]
      exact ⟨rfl, t0, c0, HR2.out, HRP.out.offD HO2.out (fun k _ e e' => HNB.out (e' ▸ e)), HZ.out, fun k hk => ⟨HAT0.out k hk, Nat.lt_of_lt_of_le (HLT.out k hk) (Nat.le_trans HO1.out.size HO2.out.size)⟩, (HO0.out.trans HO1.out (fun k hk e => absurd hk (by have := HAT0.out k e; omega))).trans HO2.out (fun _ _ h => h)⟩
end Go.Proofs.Ytpiknkgnmjcjjaa
