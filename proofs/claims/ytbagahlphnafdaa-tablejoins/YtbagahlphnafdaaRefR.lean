/- The contract of the reference's Table.Reap. -/
import Derived.Test.YtbagahlphnafdaaRefS
import Derived.Test.YtbagahlphnafdaaGReap
namespace Go.Proofs.Ytbagahlphnafdaa
open Go.RowKit

theorem cells_off10 {w w' : World} {b o : Nat} {e : E} (k : Off (fun _ => False) w w') (h : ∀ j u, (ecs e)[j]? = some u → w.cell? ⟨b, o + j, none⟩ = some u) : ∀ j u, (ecs e)[j]? = some u → w'.cell? ⟨b, o + j, none⟩ = some u := by
  intro j u hj
  have h1 := h j u hj
  rw [← h1]
  exact World.cell?_of_block (a := ⟨b, o + j, none⟩) (k.block b (cell_lt h1) (fun h => h))
theorem idx_row10 {m n : Nat} (h : n < m) (c g : Nat) (W : World) : (Instr.indexAt 22 (.slice (some ⟨g, 0, none⟩) m c) (.int .i64 (n : Int))).run Try.prog W = .ok (.pointer (some ⟨g, n * 10, none⟩)) W := by
  have := idx_ents h c g 0 W
  rw [Nat.zero_add] at this
  exact this
theorem own_cel {w : World} {g cap : Nat} {l : List E} (h : OwnG 37 10 ecs w (some ⟨g, 0, none⟩) cap l) {n : Nat} {x : E} (_ : l[n]? = some x) : ∃ cur, Cel g 37 cur w := by
  rcases h.row.2 with ⟨hv, -⟩ | ⟨g', c, cur, hv, -, hh, -⟩
  · simp at hv
  · simp only [Value.slice.injEq, Option.some.injEq, Addr.mk.injEq, and_true] at hv
    obtain ⟨rfl, -⟩ := hv
    exact ⟨cur, ⟨hh⟩⟩
theorem same_comm (f g : Nat → Int) (l k : List A) : sameS f g l k = sameS g f k l := by
  rw [Bool.eq_iff_iff, same_iff, same_iff]
  exact ⟨fun h => ⟨fun j hj => (h.1 j hj).symm, h.2.symm⟩, fun h => ⟨fun j hj => (h.1 j hj).symm, h.2.symm⟩⟩
set_option maxRecDepth 100000 in
set_option maxHeartbeats 2000000 in
theorem rreap_any (q : Nat) (xs : List E) (k : ByteArray) (w : World) (h : RTab q xs w) : Calls Try.prog 35 #[.pointer (some ⟨q, 0, none⟩), .string k] w fun e w' => e = .returned (.bool (reapB (absE xs) k)) ∧ ∃ xs', RTab q xs' w' ∧ absE xs' = reapT (absE xs) k ∧ Off (fun c => c = q) w w' := by
  have HT : Hid _ := h
  have hfew := h.few
  clear h
  go_enter Try.func35, Try.ntmps35
  go_wp2_with fail
  refine (rat_any q xs k _ HT.out).mono ?_
  rintro e w1 ⟨r, rfl, hr, o1⟩
  have HT1 : Hid _ := HT.out.free o1
  have HO1 : Hid _ := o1
  clear o1
  rcases hr with ⟨hf, rfl⟩ | ⟨n, x, rfl, hx, hk⟩
  · have HF : Hid _ := hf
    clear hf
    go_wp2_with fail
    refine wp_region_held_drew (S := fun w' => Off (fun _ => False) w1 w') (by kernel_rfl) ((Off.refl _ w1).drew) (fun hS => ?_)
    refine take_at (i := 0) 10 (v := .int .i64 (-1)) rfl rfl (by kernel_rfl) (by kernel_rfl) (by kernel_rfl) (fun _ _ _ h => h) (Or.inl ⟨by rfl, fun w' hw' => by go_simp⟩) hS ?_
    simp only [Act.put, List.setIfInBounds_toArray, List.set_cons_zero, List.set_cons_succ]
    refine take_at (i := 1) 11 (v := .bool true) rfl rfl (by kernel_rfl) (by kernel_rfl) (by kernel_rfl) (fun _ _ _ h => h) (Or.inl ⟨by rfl, fun w' hw' => by go_simp⟩) hS ?_
    simp only [Act.put, List.setIfInBounds_toArray, List.set_cons_zero, List.set_cons_succ]
    refine take_at (i := 2) 12 (v := .bool true) rfl rfl (by kernel_rfl) (by kernel_rfl) (by kernel_rfl) (fun _ _ _ h => h) (Or.inl ⟨by rfl, fun w' hw' => by go_simp⟩) hS ?_
    simp only [Act.put, List.setIfInBounds_toArray, List.set_cons_zero, List.set_cons_succ]
    refine take_at (i := 3) 13 (v := undef) rfl rfl (by kernel_rfl) (by kernel_rfl) (by kernel_rfl) (fun _ _ _ h => h) (Or.inr ⟨by rfl, rfl⟩) hS ?_
    simp only [Act.put, List.setIfInBounds_toArray, List.set_cons_zero, List.set_cons_succ]
    refine take_at (i := 4) 14 (v := undef) rfl rfl (by kernel_rfl) (by kernel_rfl) (by kernel_rfl) (fun _ _ _ h => h) (Or.inr ⟨by rfl, rfl⟩) hS ?_
    simp only [Act.put, List.setIfInBounds_toArray, List.set_cons_zero, List.set_cons_succ]
    refine take_at (i := 5) 15 (v := undef) rfl rfl (by kernel_rfl) (by kernel_rfl) (by kernel_rfl) (fun _ _ _ h => h) (Or.inr ⟨by rfl, rfl⟩) hS ?_
    simp only [Act.put, List.setIfInBounds_toArray, List.set_cons_zero, List.set_cons_succ]
    refine take_at (i := 6) 16 (v := undef) rfl rfl (by kernel_rfl) (by kernel_rfl) (by kernel_rfl) (fun _ _ _ h => h) (Or.inr ⟨by rfl, rfl⟩) hS ?_
    simp only [Act.put, List.setIfInBounds_toArray, List.set_cons_zero, List.set_cons_succ]
    refine take_at (i := 7) 17 (v := undef) rfl rfl (by kernel_rfl) (by kernel_rfl) (by kernel_rfl) (fun _ _ _ h => h) (Or.inr ⟨by rfl, rfl⟩) hS ?_
    simp only [Act.put, List.setIfInBounds_toArray, List.set_cons_zero, List.set_cons_succ]
    refine take_at (i := 8) 18 (v := undef) rfl rfl (by kernel_rfl) (by kernel_rfl) (by kernel_rfl) (fun _ _ _ h => h) (Or.inr ⟨by rfl, rfl⟩) hS ?_
    simp only [Act.put, List.setIfInBounds_toArray, List.set_cons_zero, List.set_cons_succ]
    refine take_at (i := 9) 19 (v := undef) rfl rfl (by kernel_rfl) (by kernel_rfl) (by kernel_rfl) (fun _ _ _ h => h) (Or.inr ⟨by rfl, rfl⟩) hS ?_
    simp only [Act.put, List.setIfInBounds_toArray, List.set_cons_zero, List.set_cons_succ]
    refine take_at (i := 10) 20 (v := undef) rfl rfl (by kernel_rfl) (by kernel_rfl) (by kernel_rfl) (fun _ _ _ h => h) (Or.inr ⟨by rfl, rfl⟩) hS ?_
    simp only [Act.put, List.setIfInBounds_toArray, List.set_cons_zero, List.set_cons_succ]
    refine take_at (i := 11) 21 (v := undef) rfl rfl (by kernel_rfl) (by kernel_rfl) (by kernel_rfl) (fun _ _ _ h => h) (Or.inr ⟨by rfl, rfl⟩) hS ?_
    simp only [Act.put, List.setIfInBounds_toArray, List.set_cons_zero, List.set_cons_succ]
    refine take_at (i := 12) 22 (v := undef) rfl rfl (by kernel_rfl) (by kernel_rfl) (by kernel_rfl) (fun _ _ _ h => h) (Or.inr ⟨by rfl, rfl⟩) hS ?_
    simp only [Act.put, List.setIfInBounds_toArray, List.set_cons_zero, List.set_cons_succ]
    refine take_at (i := 13) 23 (v := undef) rfl rfl (by kernel_rfl) (by kernel_rfl) (by kernel_rfl) (fun _ _ _ h => h) (Or.inr ⟨by rfl, rfl⟩) hS ?_
    simp only [Act.put, List.setIfInBounds_toArray, List.set_cons_zero, List.set_cons_succ]
    refine take_at (i := 14) 24 (v := undef) rfl rfl (by kernel_rfl) (by kernel_rfl) (by kernel_rfl) (fun _ _ _ h => h) (Or.inr ⟨by rfl, rfl⟩) hS ?_
    simp only [Act.put, List.setIfInBounds_toArray, List.set_cons_zero, List.set_cons_succ]
    refine take_at (i := 15) 25 (v := undef) rfl rfl (by kernel_rfl) (by kernel_rfl) (by kernel_rfl) (fun _ _ _ h => h) (Or.inr ⟨by rfl, rfl⟩) hS ?_
    simp only [Act.put, List.setIfInBounds_toArray, List.set_cons_zero, List.set_cons_succ]
    refine take_at (i := 16) 26 (v := undef) rfl rfl (by kernel_rfl) (by kernel_rfl) (by kernel_rfl) (fun _ _ _ h => h) (Or.inr ⟨by rfl, rfl⟩) hS ?_
    simp only [Act.put, List.setIfInBounds_toArray, List.set_cons_zero, List.set_cons_succ]
    refine take_at (i := 17) 27 (v := undef) rfl rfl (by kernel_rfl) (by kernel_rfl) (by kernel_rfl) (fun _ _ _ h => h) (Or.inr ⟨by rfl, rfl⟩) hS ?_
    simp only [Act.put, List.setIfInBounds_toArray, List.set_cons_zero, List.set_cons_succ]
    refine take_at (i := 18) 28 (v := undef) rfl rfl (by kernel_rfl) (by kernel_rfl) (by kernel_rfl) (fun _ _ _ h => h) (Or.inr ⟨by rfl, rfl⟩) hS ?_
    simp only [Act.put, List.setIfInBounds_toArray, List.set_cons_zero, List.set_cons_succ]
    refine take_at (i := 19) 29 (v := undef) rfl rfl (by kernel_rfl) (by kernel_rfl) (by kernel_rfl) (fun _ _ _ h => h) (Or.inr ⟨by rfl, rfl⟩) hS ?_
    simp only [Act.put, List.setIfInBounds_toArray, List.set_cons_zero, List.set_cons_succ]
    refine take_at (i := 20) 30 (v := undef) rfl rfl (by kernel_rfl) (by kernel_rfl) (by kernel_rfl) (fun _ _ _ h => h) (Or.inr ⟨by rfl, rfl⟩) hS ?_
    simp only [Act.put, List.setIfInBounds_toArray, List.set_cons_zero, List.set_cons_succ]
    refine take_at (i := 21) 31 (v := .bool true) rfl rfl (by kernel_rfl) (by kernel_rfl) (by kernel_rfl) (fun _ _ _ h => h) (Or.inl ⟨by rfl, fun w' hw' => by go_simp⟩) hS ?_
    simp only [Act.put, List.setIfInBounds_toArray, List.set_cons_zero, List.set_cons_succ]
    refine wpAnyH_done (by kernel_rfl) ?_ _
    go_wp2_with fail
    go_ret
    have OZ := HO1.out.trans hS (fun _ _ h => h)
    have ef : fndG K.key k (absE xs) = none := by rw [← abs_fnd, HF.out]; rfl
    refine ⟨?_, xs, HT.out.free OZ, ?_, OZ.mono (fun _ _ h => h.elim)⟩
    · unfold reapB
      rw [ef]
      rfl
    · unfold reapT
      rw [ef]
  · have ef : Hid (fndG K.key k (absE xs) = some x.abs) := by show _ = _; rw [← abs_fnd, at_fnd HT.out.sor hx hk]; rfl
    have HKK : Hid _ := hk
    have hlt : n < xs.length := by
      obtain ⟨h, -⟩ := List.getElem?_eq_some_iff.1 hx
      exact h
    obtain ⟨a, cap, h1, h2, -⟩ := HT1.out.is
    obtain ⟨bx, ox, rfl, kx, rx⟩ := h2.at_ n x hx
    have HC : Hid _ := h1
    have HKX : Hid _ := kx
    have HRX : Hid _ := rx
    have d1 : decide ((n : Int) < 0) = false := decide_eq_false (by omega)
    clear h1 h2 kx rx hk
    go_wp2_with fail
    refine wp_region_held_drew (S := fun w' => Off (fun _ => False) w1 w') (by kernel_rfl) ((Off.refl _ w1).drew) (fun hS => ?_)
    cases hsm : sameS (reapV x.f (cont x.l)) x.f (reapL x.f (cont x.l)) (cont x.l)
    · refine take_at (i := 0) 10 (v := .int .i64 (n : Int)) rfl rfl (by kernel_rfl) (by kernel_rfl) (by kernel_rfl) (fun _ _ _ h => h) (Or.inl ⟨by rfl, fun w' hw' => by go_simp⟩) hS ?_
      simp only [Act.put, List.setIfInBounds_toArray, List.set_cons_zero, List.set_cons_succ]
      refine take_at (i := 1) 11 (v := .bool false) rfl rfl (by kernel_rfl) (by kernel_rfl) (by kernel_rfl) (fun _ _ _ h => h) (Or.inl ⟨by rfl, fun w' hw' => by go_simp⟩) hS ?_
      simp only [Act.put, List.setIfInBounds_toArray, List.set_cons_zero, List.set_cons_succ]
      refine take_at (i := 2) 12 (v := .bool false) rfl rfl (by kernel_rfl) (by kernel_rfl) (by kernel_rfl) (fun _ _ _ h => h) (Or.inl ⟨by rfl, fun w' hw' => by go_simp⟩) hS ?_
      simp only [Act.put, List.setIfInBounds_toArray, List.set_cons_zero, List.set_cons_succ]
      refine take_at (i := 3) 13 (v := .pointer (some ⟨q, 0, none⟩)) rfl rfl (by kernel_rfl) (by kernel_rfl) (by kernel_rfl) (fun _ _ _ h => h) (Or.inl ⟨by rfl, fun w' hw' => by go_simp⟩) hS ?_
      simp only [Act.put, List.setIfInBounds_toArray, List.set_cons_zero, List.set_cons_succ]
      refine take_at (i := 4) 14 (v := .pointer (some ⟨q, 0, none⟩)) rfl rfl (by kernel_rfl) (by kernel_rfl) (by kernel_rfl) (fun _ _ _ h => h) (Or.inl ⟨by rfl, fun w' hw' => by go_simp⟩) hS ?_
      simp only [Act.put, List.setIfInBounds_toArray, List.set_cons_zero, List.set_cons_succ]
      refine take_at (i := 5) 15 (v := .pointer (some ⟨q, 0, none⟩)) rfl rfl (by kernel_rfl) (by kernel_rfl) (by kernel_rfl) (fun _ _ _ h => h) (Or.inl ⟨by rfl, fun w' hw' => by go_simp⟩) hS ?_
      simp only [Act.put, List.setIfInBounds_toArray, List.set_cons_zero, List.set_cons_succ]
      refine take_at (i := 6) 16 (v := .slice (some ⟨bx, ox, none⟩) xs.length cap) rfl rfl (by kernel_rfl) (by kernel_rfl) (by kernel_rfl) (fun _ _ _ h => h) (Or.inl ⟨by rfl, fun w' hw' => by have e := (HC.out.off hw' (fun h => h)).cell 0; simp only [List.getElem?_toArray, List.getElem?_cons_zero] at e; go_simp⟩) hS ?_
      simp only [Act.put, List.setIfInBounds_toArray, List.set_cons_zero, List.set_cons_succ]
      refine take_at (i := 7) 17 (v := .int .i64 (n : Int)) rfl rfl (by kernel_rfl) (by kernel_rfl) (by kernel_rfl) (fun _ _ _ h => h) (Or.inl ⟨by rfl, fun w' hw' => by go_simp⟩) hS ?_
      simp only [Act.put, List.setIfInBounds_toArray, List.set_cons_zero, List.set_cons_succ]
      refine take_at (i := 8) 18 (v := .pointer (some ⟨bx, ox + n * 10, none⟩)) rfl rfl (by kernel_rfl) (by kernel_rfl) (by kernel_rfl) (fun _ _ _ h => h) (Or.inl ⟨by rfl, fun w' hw' => exec_idx10 rfl (idx_ents hlt cap bx ox w')⟩) hS ?_
      simp only [Act.put, List.setIfInBounds_toArray, List.set_cons_zero, List.set_cons_succ]
      refine take_at (i := 9) 19 (v := .pointer (some ⟨bx, ox + n * 10 + 1, none⟩)) rfl rfl (by kernel_rfl) (by kernel_rfl) (by kernel_rfl) (fun _ _ _ h => h) (Or.inl ⟨by rfl, fun w' hw' => by go_simp⟩) hS ?_
      simp only [Act.put, List.setIfInBounds_toArray, List.set_cons_zero, List.set_cons_succ]
      refine take_at (i := 10) 20 (v := .agg #[.int .i64 (x.f 0), .int .i64 (x.f 1), .int .i64 (x.f 2), .int .i64 (x.f 3), .int .i64 (x.f 4), .int .i64 (x.f 5), .int .i64 (x.f 6), .int .i64 (x.f 7), .slice x.a x.l.length x.cap]) rfl rfl (by kernel_rfl) (by kernel_rfl) (by kernel_rfl) (fun _ _ _ h => h) (Or.inl ⟨by rfl, fun w' hw' => by obtain ⟨k0, k1, k2, k3, k4, k5, k6, k7, k8, k9⟩ := ent10 (cells_off10 hw' HKX.out); go_simp⟩) hS ?_
      simp only [Act.put, List.setIfInBounds_toArray, List.set_cons_zero, List.set_cons_succ]
      refine take_at (i := 12) 22 (v := .pointer (some ⟨q, 0, none⟩)) rfl rfl (by kernel_rfl) (by kernel_rfl) (by kernel_rfl) (fun _ _ _ h => h) (Or.inl ⟨by rfl, fun w' hw' => by go_simp⟩) hS ?_
      simp only [Act.put, List.setIfInBounds_toArray, List.set_cons_zero, List.set_cons_succ]
      refine take_at (i := 13) 23 (v := .pointer (some ⟨q, 0, none⟩)) rfl rfl (by kernel_rfl) (by kernel_rfl) (by kernel_rfl) (fun _ _ _ h => h) (Or.inl ⟨by rfl, fun w' hw' => by go_simp⟩) hS ?_
      simp only [Act.put, List.setIfInBounds_toArray, List.set_cons_zero, List.set_cons_succ]
      refine take_at (i := 14) 24 (v := .pointer (some ⟨q, 0, none⟩)) rfl rfl (by kernel_rfl) (by kernel_rfl) (by kernel_rfl) (fun _ _ _ h => h) (Or.inl ⟨by rfl, fun w' hw' => by go_simp⟩) hS ?_
      simp only [Act.put, List.setIfInBounds_toArray, List.set_cons_zero, List.set_cons_succ]
      refine take_at (i := 15) 25 (v := .slice (some ⟨bx, ox, none⟩) xs.length cap) rfl rfl (by kernel_rfl) (by kernel_rfl) (by kernel_rfl) (fun _ _ _ h => h) (Or.inl ⟨by rfl, fun w' hw' => by have e := (HC.out.off hw' (fun h => h)).cell 0; simp only [List.getElem?_toArray, List.getElem?_cons_zero] at e; go_simp⟩) hS ?_
      simp only [Act.put, List.setIfInBounds_toArray, List.set_cons_zero, List.set_cons_succ]
      refine take_at (i := 16) 26 (v := .int .i64 (n : Int)) rfl rfl (by kernel_rfl) (by kernel_rfl) (by kernel_rfl) (fun _ _ _ h => h) (Or.inl ⟨by rfl, fun w' hw' => by go_simp⟩) hS ?_
      simp only [Act.put, List.setIfInBounds_toArray, List.set_cons_zero, List.set_cons_succ]
      refine take_at (i := 17) 27 (v := .pointer (some ⟨bx, ox + n * 10, none⟩)) rfl rfl (by kernel_rfl) (by kernel_rfl) (by kernel_rfl) (fun _ _ _ h => h) (Or.inl ⟨by rfl, fun w' hw' => exec_idx10 rfl (idx_ents hlt cap bx ox w')⟩) hS ?_
      simp only [Act.put, List.setIfInBounds_toArray, List.set_cons_zero, List.set_cons_succ]
      refine take_at (i := 18) 28 (v := .pointer (some ⟨bx, ox + n * 10 + 1, none⟩)) rfl rfl (by kernel_rfl) (by kernel_rfl) (by kernel_rfl) (fun _ _ _ h => h) (Or.inl ⟨by rfl, fun w' hw' => by go_simp⟩) hS ?_
      simp only [Act.put, List.setIfInBounds_toArray, List.set_cons_zero, List.set_cons_succ]
      refine take_at (i := 19) 29 (v := .agg #[.int .i64 (x.f 0), .int .i64 (x.f 1), .int .i64 (x.f 2), .int .i64 (x.f 3), .int .i64 (x.f 4), .int .i64 (x.f 5), .int .i64 (x.f 6), .int .i64 (x.f 7), .slice x.a x.l.length x.cap]) rfl rfl (by kernel_rfl) (by kernel_rfl) (by kernel_rfl) (fun _ _ _ h => h) (Or.inl ⟨by rfl, fun w' hw' => by obtain ⟨k0, k1, k2, k3, k4, k5, k6, k7, k8, k9⟩ := ent10 (cells_off10 hw' HKX.out); go_simp⟩) hS ?_
      simp only [Act.put, List.setIfInBounds_toArray, List.set_cons_zero, List.set_cons_succ]
      refine wpAnyH_ready (rs := [11]) (by kernel_rfl) (by simp) ?_
      refine AllReadyH.cons rfl (fun K' hK' => ?_) AllReadyH.nil
      go_simp
      refine (greap_any x.f x.a x.cap x.l _ (HRX.out.off hS)).mono ?_
      rintro e v1 ⟨g, ag, cg, lg, rfl, hg, hlg, rg, o1⟩
      have hS1 := hS.trans o1 (fun _ _ h => h)
      refine hK'.out _ _ hS1 (fun hS => ?_)
      clear hK' K' hS1 o1
      have HG : Hid _ := hg
      have HLG : Hid _ := hlg
      have HRG : Hid _ := rg
      clear hg hlg rg
      refine wpAnyH_ready (rs := [20]) (by kernel_rfl) (by simp) ?_
      refine AllReadyH.cons rfl (fun K' hK' => ?_) AllReadyH.nil
      go_simp
      refine (gsame_any g x.f ag x.a cg x.cap lg x.l _ HRG.out (HRX.out.off hS)).mono ?_
      rw [HG.out, HLG.out, hsm]
      rintro e v2 ⟨rfl, o2⟩
      have hS1 := hS.trans o2 (fun _ _ h => h)
      refine hK'.out _ _ hS1 (fun hS => ?_)
      clear hK' K' hS1 o2
      refine take_at (i := 21) 31 (v := .bool false) rfl rfl (by kernel_rfl) (by kernel_rfl) (by kernel_rfl) (fun _ _ _ h => h) (Or.inl ⟨by rfl, fun w' hw' => by go_simp⟩) hS ?_
      simp only [Act.put, List.setIfInBounds_toArray, List.set_cons_zero, List.set_cons_succ]
      refine wpAnyH_done (by kernel_rfl) ?_ _
      have HO2 : Hid _ := HO1.out.trans hS (fun _ _ h => h)
      have HS2 : Hid _ := hS
      clear hS HG HLG HRG
      obtain ⟨a0, cap0, h1, h2, h3⟩ := (HT1.out.free HS2.out).is
      have c0 : v2.cell? ⟨q, 0, none⟩ = some (.slice a0 xs.length cap0) := h1.cell 0
      have HE2 : Hid _ := h2
      have HZ : Hid _ := h3
      have HC2 : Hid _ := h1
      clear h1 h2 h3
      go_upto_region 5 with (at_builtin; refine wpList_appE rfl (.const (.slice none 0 0)) (.tmp 35) rfl none 0 [] rfl (OwnG.nil _ _ _ _) a0 cap0 xs rfl HE2.out HZ.out (by simp; omega) ?_; intro a4 c4 v4 ys hys own4 o4 at4; obtain rfl : xs = ys := hys.out.symm; have HOWN4 : Hid _ := own4; have HO4' : Hid (Off (fun _ => False) v2 v4) := o4.mono (fun _ _ h => by simp [blk] at h); have HAT4 : Hid (∀ c, blk a4 = some c → v2.heap.size ≤ c) := fun c hc => (by rcases at4 with e | e <;> (rw [e] at hc; simp [blk] at hc; try omega)); clear own4 o4 at4)
      clear c0
      obtain ⟨g4, rfl, kf4⟩ := HOWN4.out.at_ ecs_len hx
      have hix4 := idx_row10 hlt c4 g4
      obtain ⟨k0, k1, k2, k3, k4, k5, k6, k7, k8, k9⟩ := ent10 kf4
      clear kf4
      go_wp2_with fail
      clear k0 k1 k2 k3 k4 k5 k6 k7 k8 k9
      refine (greapN_any x.f x.a x.cap x.l _ ((HRX.out.off HS2.out).off HO4'.out)).mono ?_
      rintro e v5 ⟨g, ag, cg, lg, rfl, hg, hlg, rg, o5, hold⟩
      have HG : Hid _ := hg
      have HLG : Hid _ := hlg
      have HRG : Hid _ := rg
      have HOLD : Hid _ := hold
      clear hg hlg rg hold
      have HOWN5 : Hid _ := HOWN4.out.off o5 (fun _ _ _ h => h)
      obtain ⟨cur, hcur⟩ : ∃ cur, Cel g4 37 cur v5 := own_cel HOWN5.out hx
      obtain ⟨g4', eg, kf5⟩ := HOWN5.out.at_ ecs_len hx
      simp only [Option.some.injEq, Addr.mk.injEq, and_true] at eg
      subst eg
      obtain ⟨k0, k1, k2, k3, k4, k5, k6, k7, k8, k9⟩ := ent10 kf5
      have fr := hcur.free
      have HO5 : Hid (Off (fun _ => False) v2 v5) := HO4'.out.trans o5 (fun _ _ h => h)
      have HHI : Hid (v2.heap.size ≤ g4) := HAT4.out g4 rfl
      clear kf5 o5
      go_upto_region 6 with fail
      clear k0 k1 k2 k3 k4 k5 k6 k7 k8 k9 fr hcur cur
      obtain ⟨V, hV⟩ : ∃ V, V = wrs g4 (n * 10 + 1) (sib9 g (.slice ag lg.length cg)) v5 := ⟨_, rfl⟩
      rw [show (((((((((v5.setCell ⟨g4, n * 10 + 1, none⟩ (.int .i64 (g 0))).setCell ⟨g4, n * 10 + 1 + 1, none⟩ (.int .i64 (g 1))).setCell ⟨g4, n * 10 + 1 + 2, none⟩ (.int .i64 (g 2))).setCell ⟨g4, n * 10 + 1 + 3, none⟩ (.int .i64 (g 3))).setCell ⟨g4, n * 10 + 1 + 4, none⟩ (.int .i64 (g 4))).setCell ⟨g4, n * 10 + 1 + 5, none⟩ (.int .i64 (g 5))).setCell ⟨g4, n * 10 + 1 + 6, none⟩ (.int .i64 (g 6))).setCell ⟨g4, n * 10 + 1 + 7, none⟩ (.int .i64 (g 7))).setCell ⟨g4, n * 10 + 1 + 8, none⟩ (.slice ag lg.length cg)) = V from hV.symm]
      have OV : Off (fun _ => False) v2 V := by rw [hV]; exact off_wrs HO5.out (.inr HHI.out)
      have OW := HS2.out.trans OV (fun _ _ h => h)
      have NR : Row V ag cg lg := by
        rcases HOLD.out with ⟨e1, e2, e3⟩ | e3
        · rw [e1, e2, e3]; exact HRX.out.off OW
        · rw [e3]; exact Row.nil _ ag cg HRG.out.bound
      have HEV : Hid (Ens V (some ⟨g4, 0, none⟩) c4 (xs.set n ⟨x.key, g, ag, cg, lg⟩)) := ens_set (v := ⟨x.key, g, ag, cg, lg⟩) HOWN5.out hx rfl (fun o => by rw [hV]) (fun e he => (HT1.out.row e he).off OW) NR
      have C0 := HC2.out.off OV (fun h => h)
      have c0 : V.cell? ⟨q, 0, none⟩ = some (.slice a0 xs.length cap0) := C0.cell 0
      have fr := C0.free
      have HOW : Hid _ := HO1.out.trans OW (fun _ _ h => h)
      clear C0 OV OW NR hV
      go_wp2_with fail
      go_ret
      have hs2 : sameS x.f (reapV x.f (cont x.l)) (cont x.l) (reapL x.f (cont x.l)) = false := by rw [same_comm]; exact hsm
      have fin := HT.out.set HOW.out HEV.out (sor_set E.key HT.out.sor hx rfl) (by rw [List.length_set]; exact hfew)
      simp only [List.length_set] at fin
      refine ⟨?_, _, fin.1, ?_, fin.2⟩
      · unfold reapB
        rw [ef.out]
        show _ = Ending.returned (Value.bool (!sameS x.f (reapV x.f (cont x.l)) (cont x.l) (reapL x.f (cont x.l))))
        rw [hs2]
        rfl
      · unfold reapT
        rw [ef.out]
        show _ = if sameS x.f (reapV x.f (cont x.l)) (cont x.l) (reapL x.f (cont x.l)) = true then _ else _
        rw [if_neg (by rw [hs2]; simp)]
        have hxa : (absE xs)[n]? = some x.abs := by rw [absE, List.getElem?_map, hx]; rfl
        have e1 : absE (xs.set n ⟨x.key, g, ag, cg, lg⟩) = (absE xs).set n ⟨x.key, g, cont lg⟩ := by rw [absE, List.map_set]; rfl
        rw [e1, set_put K.key (v := ⟨x.key, g, cont lg⟩) (abs_sor.2 HT.out.sor) hxa rfl, HG.out, HLG.out, HKK.out]
        rfl
    · refine take_at (i := 0) 10 (v := .int .i64 (n : Int)) rfl rfl (by kernel_rfl) (by kernel_rfl) (by kernel_rfl) (fun _ _ _ h => h) (Or.inl ⟨by rfl, fun w' hw' => by go_simp⟩) hS ?_
      simp only [Act.put, List.setIfInBounds_toArray, List.set_cons_zero, List.set_cons_succ]
      refine take_at (i := 1) 11 (v := .bool false) rfl rfl (by kernel_rfl) (by kernel_rfl) (by kernel_rfl) (fun _ _ _ h => h) (Or.inl ⟨by rfl, fun w' hw' => by go_simp⟩) hS ?_
      simp only [Act.put, List.setIfInBounds_toArray, List.set_cons_zero, List.set_cons_succ]
      refine take_at (i := 2) 12 (v := .bool false) rfl rfl (by kernel_rfl) (by kernel_rfl) (by kernel_rfl) (fun _ _ _ h => h) (Or.inl ⟨by rfl, fun w' hw' => by go_simp⟩) hS ?_
      simp only [Act.put, List.setIfInBounds_toArray, List.set_cons_zero, List.set_cons_succ]
      refine take_at (i := 3) 13 (v := .pointer (some ⟨q, 0, none⟩)) rfl rfl (by kernel_rfl) (by kernel_rfl) (by kernel_rfl) (fun _ _ _ h => h) (Or.inl ⟨by rfl, fun w' hw' => by go_simp⟩) hS ?_
      simp only [Act.put, List.setIfInBounds_toArray, List.set_cons_zero, List.set_cons_succ]
      refine take_at (i := 4) 14 (v := .pointer (some ⟨q, 0, none⟩)) rfl rfl (by kernel_rfl) (by kernel_rfl) (by kernel_rfl) (fun _ _ _ h => h) (Or.inl ⟨by rfl, fun w' hw' => by go_simp⟩) hS ?_
      simp only [Act.put, List.setIfInBounds_toArray, List.set_cons_zero, List.set_cons_succ]
      refine take_at (i := 5) 15 (v := .pointer (some ⟨q, 0, none⟩)) rfl rfl (by kernel_rfl) (by kernel_rfl) (by kernel_rfl) (fun _ _ _ h => h) (Or.inl ⟨by rfl, fun w' hw' => by go_simp⟩) hS ?_
      simp only [Act.put, List.setIfInBounds_toArray, List.set_cons_zero, List.set_cons_succ]
      refine take_at (i := 6) 16 (v := .slice (some ⟨bx, ox, none⟩) xs.length cap) rfl rfl (by kernel_rfl) (by kernel_rfl) (by kernel_rfl) (fun _ _ _ h => h) (Or.inl ⟨by rfl, fun w' hw' => by have e := (HC.out.off hw' (fun h => h)).cell 0; simp only [List.getElem?_toArray, List.getElem?_cons_zero] at e; go_simp⟩) hS ?_
      simp only [Act.put, List.setIfInBounds_toArray, List.set_cons_zero, List.set_cons_succ]
      refine take_at (i := 7) 17 (v := .int .i64 (n : Int)) rfl rfl (by kernel_rfl) (by kernel_rfl) (by kernel_rfl) (fun _ _ _ h => h) (Or.inl ⟨by rfl, fun w' hw' => by go_simp⟩) hS ?_
      simp only [Act.put, List.setIfInBounds_toArray, List.set_cons_zero, List.set_cons_succ]
      refine take_at (i := 8) 18 (v := .pointer (some ⟨bx, ox + n * 10, none⟩)) rfl rfl (by kernel_rfl) (by kernel_rfl) (by kernel_rfl) (fun _ _ _ h => h) (Or.inl ⟨by rfl, fun w' hw' => exec_idx10 rfl (idx_ents hlt cap bx ox w')⟩) hS ?_
      simp only [Act.put, List.setIfInBounds_toArray, List.set_cons_zero, List.set_cons_succ]
      refine take_at (i := 9) 19 (v := .pointer (some ⟨bx, ox + n * 10 + 1, none⟩)) rfl rfl (by kernel_rfl) (by kernel_rfl) (by kernel_rfl) (fun _ _ _ h => h) (Or.inl ⟨by rfl, fun w' hw' => by go_simp⟩) hS ?_
      simp only [Act.put, List.setIfInBounds_toArray, List.set_cons_zero, List.set_cons_succ]
      refine take_at (i := 10) 20 (v := .agg #[.int .i64 (x.f 0), .int .i64 (x.f 1), .int .i64 (x.f 2), .int .i64 (x.f 3), .int .i64 (x.f 4), .int .i64 (x.f 5), .int .i64 (x.f 6), .int .i64 (x.f 7), .slice x.a x.l.length x.cap]) rfl rfl (by kernel_rfl) (by kernel_rfl) (by kernel_rfl) (fun _ _ _ h => h) (Or.inl ⟨by rfl, fun w' hw' => by obtain ⟨k0, k1, k2, k3, k4, k5, k6, k7, k8, k9⟩ := ent10 (cells_off10 hw' HKX.out); go_simp⟩) hS ?_
      simp only [Act.put, List.setIfInBounds_toArray, List.set_cons_zero, List.set_cons_succ]
      refine take_at (i := 12) 22 (v := .pointer (some ⟨q, 0, none⟩)) rfl rfl (by kernel_rfl) (by kernel_rfl) (by kernel_rfl) (fun _ _ _ h => h) (Or.inl ⟨by rfl, fun w' hw' => by go_simp⟩) hS ?_
      simp only [Act.put, List.setIfInBounds_toArray, List.set_cons_zero, List.set_cons_succ]
      refine take_at (i := 13) 23 (v := .pointer (some ⟨q, 0, none⟩)) rfl rfl (by kernel_rfl) (by kernel_rfl) (by kernel_rfl) (fun _ _ _ h => h) (Or.inl ⟨by rfl, fun w' hw' => by go_simp⟩) hS ?_
      simp only [Act.put, List.setIfInBounds_toArray, List.set_cons_zero, List.set_cons_succ]
      refine take_at (i := 14) 24 (v := .pointer (some ⟨q, 0, none⟩)) rfl rfl (by kernel_rfl) (by kernel_rfl) (by kernel_rfl) (fun _ _ _ h => h) (Or.inl ⟨by rfl, fun w' hw' => by go_simp⟩) hS ?_
      simp only [Act.put, List.setIfInBounds_toArray, List.set_cons_zero, List.set_cons_succ]
      refine take_at (i := 15) 25 (v := .slice (some ⟨bx, ox, none⟩) xs.length cap) rfl rfl (by kernel_rfl) (by kernel_rfl) (by kernel_rfl) (fun _ _ _ h => h) (Or.inl ⟨by rfl, fun w' hw' => by have e := (HC.out.off hw' (fun h => h)).cell 0; simp only [List.getElem?_toArray, List.getElem?_cons_zero] at e; go_simp⟩) hS ?_
      simp only [Act.put, List.setIfInBounds_toArray, List.set_cons_zero, List.set_cons_succ]
      refine take_at (i := 16) 26 (v := .int .i64 (n : Int)) rfl rfl (by kernel_rfl) (by kernel_rfl) (by kernel_rfl) (fun _ _ _ h => h) (Or.inl ⟨by rfl, fun w' hw' => by go_simp⟩) hS ?_
      simp only [Act.put, List.setIfInBounds_toArray, List.set_cons_zero, List.set_cons_succ]
      refine take_at (i := 17) 27 (v := .pointer (some ⟨bx, ox + n * 10, none⟩)) rfl rfl (by kernel_rfl) (by kernel_rfl) (by kernel_rfl) (fun _ _ _ h => h) (Or.inl ⟨by rfl, fun w' hw' => exec_idx10 rfl (idx_ents hlt cap bx ox w')⟩) hS ?_
      simp only [Act.put, List.setIfInBounds_toArray, List.set_cons_zero, List.set_cons_succ]
      refine take_at (i := 18) 28 (v := .pointer (some ⟨bx, ox + n * 10 + 1, none⟩)) rfl rfl (by kernel_rfl) (by kernel_rfl) (by kernel_rfl) (fun _ _ _ h => h) (Or.inl ⟨by rfl, fun w' hw' => by go_simp⟩) hS ?_
      simp only [Act.put, List.setIfInBounds_toArray, List.set_cons_zero, List.set_cons_succ]
      refine take_at (i := 19) 29 (v := .agg #[.int .i64 (x.f 0), .int .i64 (x.f 1), .int .i64 (x.f 2), .int .i64 (x.f 3), .int .i64 (x.f 4), .int .i64 (x.f 5), .int .i64 (x.f 6), .int .i64 (x.f 7), .slice x.a x.l.length x.cap]) rfl rfl (by kernel_rfl) (by kernel_rfl) (by kernel_rfl) (fun _ _ _ h => h) (Or.inl ⟨by rfl, fun w' hw' => by obtain ⟨k0, k1, k2, k3, k4, k5, k6, k7, k8, k9⟩ := ent10 (cells_off10 hw' HKX.out); go_simp⟩) hS ?_
      simp only [Act.put, List.setIfInBounds_toArray, List.set_cons_zero, List.set_cons_succ]
      refine wpAnyH_ready (rs := [11]) (by kernel_rfl) (by simp) ?_
      refine AllReadyH.cons rfl (fun K' hK' => ?_) AllReadyH.nil
      go_simp
      refine (greap_any x.f x.a x.cap x.l _ (HRX.out.off hS)).mono ?_
      rintro e v1 ⟨g, ag, cg, lg, rfl, hg, hlg, rg, o1⟩
      have hS1 := hS.trans o1 (fun _ _ h => h)
      refine hK'.out _ _ hS1 (fun hS => ?_)
      clear hK' K' hS1 o1
      have HG : Hid _ := hg
      have HLG : Hid _ := hlg
      have HRG : Hid _ := rg
      clear hg hlg rg
      refine wpAnyH_ready (rs := [20]) (by kernel_rfl) (by simp) ?_
      refine AllReadyH.cons rfl (fun K' hK' => ?_) AllReadyH.nil
      go_simp
      refine (gsame_any g x.f ag x.a cg x.cap lg x.l _ HRG.out (HRX.out.off hS)).mono ?_
      rw [HG.out, HLG.out, hsm]
      rintro e v2 ⟨rfl, o2⟩
      have hS1 := hS.trans o2 (fun _ _ h => h)
      refine hK'.out _ _ hS1 (fun hS => ?_)
      clear hK' K' hS1 o2
      refine take_at (i := 21) 31 (v := .bool true) rfl rfl (by kernel_rfl) (by kernel_rfl) (by kernel_rfl) (fun _ _ _ h => h) (Or.inl ⟨by rfl, fun w' hw' => by go_simp⟩) hS ?_
      simp only [Act.put, List.setIfInBounds_toArray, List.set_cons_zero, List.set_cons_succ]
      refine wpAnyH_done (by kernel_rfl) ?_ _
      have HO2 : Hid _ := HO1.out.trans hS (fun _ _ h => h)
      have HS2 : Hid _ := hS
      clear hS HG HLG HRG
      go_wp2_with fail
      go_ret
      have hs2 : sameS x.f (reapV x.f (cont x.l)) (cont x.l) (reapL x.f (cont x.l)) = true := by rw [same_comm]; exact hsm
      refine ⟨?_, xs, HT.out.free HO2.out, ?_, HO2.out.mono (fun _ _ h => h.elim)⟩
      · unfold reapB
        rw [ef.out]
        show _ = Ending.returned (Value.bool (!sameS x.f (reapV x.f (cont x.l)) (cont x.l) (reapL x.f (cont x.l))))
        rw [hs2]
        rfl
      · unfold reapT
        rw [ef.out]
        show _ = if sameS x.f (reapV x.f (cont x.l)) (cont x.l) (reapL x.f (cont x.l)) = true then _ else _
        rw [if_pos hs2]
end Go.Proofs.Ytbagahlphnafdaa
