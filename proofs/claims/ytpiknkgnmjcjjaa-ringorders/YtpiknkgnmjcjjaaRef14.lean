/- The reference's Order: the points laid in order. -/
import Derived.Test.YtpiknkgnmjcjjaaOwn14
namespace Go.Proofs.Ytpiknkgnmjcjjaa
set_option maxRecDepth 100000
open Go.RowKit

theorem Try.infoR : (Try.prog.info? 69).map (fun i => (i.zero, i.size, i.bytes)) = some (some (.agg #[.int .u32 0, .int .i64 0, .int .i64 0]), 3, 24) := by kernel_rfl
theorem RowP.dropR {w : World} {t : Option Addr} {c : Nat} {l : List Pn} (h : RowP w t c l) {k : Nat} (hk : k ≤ l.length) :
    ∃ t' c', (∀ W, (Instr.slice 67 (.slice t l.length c) (some (.int .i64 (k : Int))) none none).run Try.prog W = .ok (.slice t' (l.drop k).length c') W) ∧ RowP w t' c' (l.drop k) ∧ (∀ b, blk t' = some b → blk t = some b) ∧ ((t = none → c = 0) → t' = none → c' = 0) := by
  have hc := h.len
  refine ⟨if c = k then t else t.map (·.add (k * 3)), c - k, fun W => ?_, ⟨?_, fun i x hi => ?_⟩, fun b hb => ?_, fun hz h0 => ?_⟩
  · rw [run_slice_l (P := Try.prog) (t := 67) (ht := by kernel_rfl) (h0 := by omega) (h1 := by omega)]
    have hs : (sizeOf (Try.prog.elem 67)).run Try.prog W = .ok 3 W := by
      have : Try.prog.elem 67 = 69 := by kernel_rfl
      rw [this]
      obtain ⟨i0, hi, hz0, hz1, hz2⟩ := info_parts Try.infoR
      simp [sizeOf, typeInfo, hi, hz1]
    rw [hs]
    simp [Result.andThen, sliced]
  · rw [List.length_drop]
    omega
  · rw [List.getElem?_drop] at hi
    obtain ⟨hil, -⟩ := List.getElem?_eq_some_iff.1 hi
    obtain ⟨g, o, rfl, h1, h2, h3⟩ := h.at_ _ x hi
    rw [if_neg (by omega)]
    refine ⟨g, o + k * 3, by simp [Addr.add], ?_, ?_, ?_⟩
    · rw [← h1]; congr 2; omega
    · rw [← h2]; congr 2; omega
    · rw [← h3]; congr 2; omega
  · split at hb
    · exact hb
    · cases t with
      | none => simp [blk] at hb
      | some a => simpa [blk, add_block] using hb
  · split at h0
    · have := hz h0; omega
    · cases t with
      | none => have := hz rfl; omega
      | some a => simp at h0
theorem RowP.takeR {w : World} {t : Option Addr} {c : Nat} {l : List Pn} (h : RowP w t c l) (hn : t = none → c = 0) {k : Nat} (hk : k ≤ l.length) :
    (∀ W, (Instr.slice 67 (.slice t l.length c) none (some (.int .i64 (k : Int))) none).run Try.prog W = .ok (.slice t (l.take k).length c) W) ∧ RowP w t c (l.take k) := by
  have hc := h.len
  refine ⟨fun W => ?_, ⟨?_, fun i x hi => ?_⟩⟩
  · rw [run_slice_h (P := Try.prog) (t := 67) (ht := by kernel_rfl) (h0 := by omega) (h2 := by omega)]
    have hs : (sizeOf (Try.prog.elem 67)).run Try.prog W = .ok 3 W := by
      have : Try.prog.elem 67 = 69 := by kernel_rfl
      rw [this]
      obtain ⟨i0, hi, hz0, hz1, hz2⟩ := info_parts Try.infoR
      simp [sizeOf, typeInfo, hi, hz1]
    rw [hs]
    cases t with
    | none =>
      obtain rfl := hn rfl
      have : k = 0 := by omega
      subst this
      simp [Result.andThen, sliced]
    | some a =>
      have ha : a.add 0 = a := by unfold Addr.add; split <;> simp_all
      simp [Result.andThen, sliced, ha]
      omega
  · rw [List.length_take]
    omega
  · rw [List.getElem?_take] at hi
    split at hi
    · exact h.at_ i x hi
    · cases hi
/-- What the reference has behind its turns. -/
def ojP (M : Nat) (L : List Pn) : Nat → List Nat
  | 0 => []
  | 1 => addN [] (L.filter fun p => decide (M ≤ p.1))
  | _ => ordP M L
theorem oj_len (M n j : Nat) : (ojP M (ptsP n) j).length ≤ n := by
  have h2 : (ordP M (ptsP n)).length = n := ord_len M n
  match j with
  | 0 => simp [ojP]
  | 1 =>
    have hp : (addN [] ((ptsP n).filter fun p => decide (M ≤ p.1))).Nodup := addN_nodup _ List.nodup_nil
    have := hp.length_le_of_subset (l₂ := List.range n) (fun y hy => by
      rw [addN_mem] at hy
      rcases hy with hy | ⟨p, hp, rfl⟩
      · simp at hy
      · rw [List.mem_filter, pts_mem] at hp
        obtain ⟨⟨a, b, rfl, ha, -⟩, -⟩ := hp
        exact List.mem_range.2 ha)
    rw [List.length_range] at this
    exact this
  | j + 2 =>
    show (ordP M (ptsP n)).length ≤ n
    omega
/-- What the test of the inner loop tells. -/
structure Tst (p : Pn) (L : List Pn) (a : Nat) (bb : Bool) : Prop where
  up : bb = true → a + 1 ≤ cntP p L
  dn : bb = false → a = cntP p L
set_option maxHeartbeats 4000000 in
theorem rorder_any (q0 : Int) (s : ByteArray) (w : World) (hs : s.size ≤ 140737488351232) :
    Calls Try.prog 13 #[.int .i64 q0, .string s] w fun e w' => ∃ t c, e = .returned (.slice t (ordP (mixL (tx s)) (ptsP (capN q0 8))).length c) ∧ OwnG 3 1 ics w' t c (ordP (mixL (tx s)) (ptsP (capN q0 8))) ∧ (∀ k, blk t = some k → w.heap.size ≤ k) ∧ Off (fun _ => False) w w' := by
  have hn8 := capN_le q0 8
  have hmn := min_int q0 8
  have hmx : ∀ ts t W, (Builtin.max_ ts t #[.int .i64 0, .int .i64 (min q0 8)]).run Try.prog W = .ok (.int .i64 (capN q0 8 : Nat)) W := fun ts t W => by
    rw [max_int, show max 0 (min q0 8) = ((capN q0 8 : Nat) : Int) by unfold capN; omega]
  generalize capN q0 8 = n at *
  have HMX : Hid (∀ V, ∃ cap W, (convert 9 42 (.string s)).run Try.prog V = .ok (.slice (some ⟨V.heap.size, 0, none⟩) (tx s).length cap) W ∧ Off (fun _ => False) V W ∧ Calls Try.prog 19 #[.slice (some ⟨V.heap.size, 0, none⟩) (tx s).length cap] W fun e w' => e = .returned (.int .u32 (mixL (tx s) : Nat)) ∧ w' = W) := fun V => by
    obtain ⟨cap, W, hcv, src, off⟩ := conv_tx s V
    have hl := tx_len s
    exact ⟨cap, W, hcv, off, rmix_any (some ⟨V.heap.size, 0, none⟩) (tx s).length cap (by omega) (fun i => (tx s).getD i 0) W (src_at src (tx_lt s))⟩
  generalize mixL (tx s) = M at *
  go_enter Try.func13, Try.ntmps13
  go_wp2_with fail
  go_loopw [5, 19] (fun y z wr => ∃ (i : Nat) (t : Option Addr) (c : Nat), y = .slice t (srtP (preP i 0)).length c ∧ z = .int .i64 (i : Int) ∧ i ≤ n ∧ OwnG 69 3 pcs wr t c (srtP (preP i 0)) ∧ (∀ k, blk t = some k → w.heap.size ≤ k) ∧ Off (fun _ => False) w wr) (fun _ z _ => ((n : Int) - intOf z).toNat)
  case atStart => exact ⟨0, none, 0, rfl, rfl, by omega, OwnG.nil _ _ _ w, fun k hk => by simp [blk] at hk, Off.refl _ w⟩
  case round =>
    obtain ⟨i, t, c, rfl, rfl, hi, own, hat, O⟩ := hrel
    have HOW0 : Hid _ := own
    have HAT0 : Hid _ := hat
    have HO0 : Hid _ := O
    clear own hat O
    by_cases hlt : i < n
    · go_wp2_with fail
      go_loopw [5, 22] (fun y z wr => ∃ (j : Nat) (t : Option Addr) (c : Nat), y = .slice t (srtP (preP i j)).length c ∧ z = .int .i64 (j : Int) ∧ j ≤ 4 ∧ OwnG 69 3 pcs wr t c (srtP (preP i j)) ∧ (∀ k, blk t = some k → w.heap.size ≤ k) ∧ Off (fun _ => False) w wr) (fun _ z _ => (4 - intOf z).toNat)
      case atStart => exact ⟨0, t, c, rfl, rfl, by omega, HOW0.out, HAT0.out, HO0.out⟩
      case round =>
        clear HOW0 HAT0 HO0
        obtain ⟨j, t, c, rfl, rfl, hj, own, hat, O⟩ := hrel
        have HOW : Hid _ := own
        have HAT : Hid _ := hat
        have HO : Hid _ := O
        clear own hat O
        by_cases hj4 : j < 4
        · have HNX : Hid (srtP (preP i (j + 1)) = insP (mixL [110, i, 112, j], i, j) (srtP (preP i j))) := by show _ = _; rw [pre_next, srt_next]; rfl
          have HLL : Hid ((srtP (preP i j)).length ≤ 32) := by show _ ≤ _; rw [srt_len, pre_len]; omega
          have HPT : Hid (∀ W, Calls Try.prog 21 #[.int .i64 (i : Int), .int .i64 (j : Int)] W fun e w' => e = .returned (.int .u32 (mixL [110, i, 112, j] : Nat)) ∧ Off (fun _ => False) W w') := fun W => rpoint_any (i : Int) (j : Int) i j (by omega) (by omega) (wrap_small i (by omega)) (wrap_small j (by omega)) W
          generalize mixL [110, i, 112, j] = P at HNX HPT
          generalize srtP (preP i j) = L at HOW HNX HLL ⊢
          go_wp2_with fail
          refine (HPT.out _).mono ?_
          rintro e v ⟨rfl, o1⟩
          have HO1 : Hid _ := HO.out.trans o1 (fun _ _ h => h)
          have HOW1 : Hid _ := HOW.out.off o1 (fun _ _ _ h => h)
          clear o1
          go_upto_region 9 with fail
          have CQ := Cel.new v 69 #[.int .u32 (P : Nat), .int .i64 (i : Int), .int .i64 (j : Int)]
          have O2 : Off (fun _ => False) v (v.alloc (.cells #[.int .u32 (P : Nat), .int .i64 (i : Int), .int .i64 (j : Int)] 69)) := (Off.refl _ v).alloc _
          generalize v.heap.size = q at CQ ⊢
          generalize v.alloc (.cells #[.int .u32 (P : Nat), .int .i64 (i : Int), .int .i64 (j : Int)] 69) = v2 at CQ O2 ⊢
          have HO2 : Hid _ := HO1.out.trans O2 (fun _ _ h => h)
          have HOW2 : Hid _ := HOW1.out.off O2 (fun _ _ _ h => h)
          have HCQ : Hid _ := CQ
          clear CQ O2 HOW1 HO1
          go_wp2_with fail
          go_loopw [9] (fun z wr => ∃ a : Nat, z = .int .i64 (a : Int) ∧ a ≤ cntP (P, i, j) L ∧ Off (fun _ => False) v2 wr) (fun z _ => ((L.length : Int) - intOf z).toNat)
          case atStart => exact ⟨0, rfl, Nat.zero_le _, Off.refl _ _⟩
          case round =>
            obtain ⟨a, rfl, ha, o⟩ := hrel
            have HO3 : Hid _ := o
            have hcl := cnt_le (P, i, j) L
            have HRL : Hid _ := (HOW2.out.off o (fun _ _ _ h => h)).rowP
            have HQW : Hid _ := HCQ.out.off o (fun h => h)
            have HQ : Hid (∀ w', Off (fun _ => False) wr w' → w'.cell? ⟨q, 0, none⟩ = some (.int .u32 (P : Nat))) := fun w' hw' => (HQW.out.off hw' (fun h => h)).cell 0
            have HUP : Hid (∀ x, L[a]? = some x → ltP x (P, i, j) = true → a + 1 ≤ cntP (P, i, j) L) := fun x hx hl => by
              rcases Nat.lt_or_ge a (cntP (P, i, j) L) with h | h
              · exact h
              · have e : a = cntP (P, i, j) L := by omega
                rw [e] at hx
                rw [cnt_at hx] at hl
                cases hl
            have HDN : Hid (∀ x, L[a]? = some x → ltP x (P, i, j) = false → a = cntP (P, i, j) L) := fun x hx hl => by
              rcases Nat.lt_or_ge a (cntP (P, i, j) L) with h | h
              · rw [cnt_lt h hx] at hl
                cases hl
              · omega
            have HA9 : Hid (a ≤ cntP (P, i, j) L ∧ cntP (P, i, j) L ≤ L.length) := ⟨ha, hcl⟩
            have haL : a ≤ L.length := by omega
            have hLL : L.length ≤ 32 := HLL.out
            clear o ha hcl
            go_upto_region 10 with fail
            go_cut [81] from 31 to 81 (fun b wx => ∃ bb : Bool, b = .bool bb ∧ Tst (P, i, j) L a bb ∧ Off (fun _ => False) wr wx)
            case first =>
              by_cases hal : a < L.length
              · have z1 : decide ((a : Int) < (L.length : Int)) = true := decide_eq_true (by omega)
                obtain ⟨x, hx⟩ : ∃ x, L[a]? = some x := ⟨_, List.getElem?_eq_getElem hal⟩
                obtain ⟨g, o, rfl, -⟩ := HRL.out.at_ a x hx
                have HX : Hid (∀ w', Off (fun _ => False) wr w' → w'.cell? ⟨g, o + a * 3, none⟩ = some (.int .u32 (x.1 : Nat)) ∧ w'.cell? ⟨g, o + a * 3 + 1, none⟩ = some (.int .i64 (x.2.1 : Nat)) ∧ w'.cell? ⟨g, o + a * 3 + 2, none⟩ = some (.int .i64 (x.2.2 : Nat))) := fun w' hw' => by
                  obtain ⟨g', o', e', k⟩ := (HRL.out.off hw').at_ a x hx
                  simp only [Option.some.injEq, Addr.mk.injEq, and_true] at e'
                  obtain ⟨rfl, rfl⟩ := e'
                  exact k
                have HXX : Hid _ := hx
                clear hx
                by_cases c1 : x.1 < P
                · have d1 : decide ((x.1 : Int) < (P : Int)) = true := decide_eq_true (by omega)
                  have d2 : decide (x.1 < P) = true := decide_eq_true c1
                  refine wp_region_held_drew (S := Off (fun _ => False) wr) (by kernel_rfl) ((Off.refl _ wr).drew) (fun hS => ?_)
                  refine take_at (i := 0) 31 (v := .int .i64 (a : Int)) rfl rfl (by kernel_rfl) (by kernel_rfl) (by kernel_rfl) (fun _ _ _ h => h) (Or.inl ⟨by rfl, fun w' hw' => by go_simp⟩) hS ?_
                  simp only [Act.put, List.setIfInBounds_toArray, List.set_cons_zero, List.set_cons_succ]
                  refine take_at (i := 1) 32 (v := .slice (some ⟨g, o, none⟩) L.length c) rfl rfl (by kernel_rfl) (by kernel_rfl) (by kernel_rfl) (fun _ _ _ h => h) (Or.inl ⟨by rfl, fun w' hw' => by go_simp⟩) hS ?_
                  simp only [Act.put, List.setIfInBounds_toArray, List.set_cons_zero, List.set_cons_succ]
                  refine take_at (i := 2) 33 (v := .int .i64 (L.length : Int)) rfl rfl (by kernel_rfl) (by kernel_rfl) (by kernel_rfl) (fun _ _ _ h => h) (Or.inl ⟨by rfl, fun w' hw' => by go_simp⟩) hS ?_
                  simp only [Act.put, List.setIfInBounds_toArray, List.set_cons_zero, List.set_cons_succ]
                  refine take_at (i := 3) 34 (v := .bool true) rfl rfl (by kernel_rfl) (by kernel_rfl) (by kernel_rfl) (fun _ _ _ h => h) (Or.inl ⟨by rfl, fun w' hw' => by go_simp⟩) hS ?_
                  simp only [Act.put, List.setIfInBounds_toArray, List.set_cons_zero, List.set_cons_succ]
                  refine take_at (i := 4) 35 (v := .bool true) rfl rfl (by kernel_rfl) (by kernel_rfl) (by kernel_rfl) (fun _ _ _ h => h) (Or.inl ⟨by rfl, fun w' hw' => by go_simp⟩) hS ?_
                  simp only [Act.put, List.setIfInBounds_toArray, List.set_cons_zero, List.set_cons_succ]
                  refine take_at (i := 5) 36 (v := .slice (some ⟨g, o, none⟩) L.length c) rfl rfl (by kernel_rfl) (by kernel_rfl) (by kernel_rfl) (fun _ _ _ h => h) (Or.inl ⟨by rfl, fun w' hw' => by go_simp⟩) hS ?_
                  simp only [Act.put, List.setIfInBounds_toArray, List.set_cons_zero, List.set_cons_succ]
                  refine take_at (i := 6) 37 (v := .int .i64 (a : Int)) rfl rfl (by kernel_rfl) (by kernel_rfl) (by kernel_rfl) (fun _ _ _ h => h) (Or.inl ⟨by rfl, fun w' hw' => by go_simp⟩) hS ?_
                  simp only [Act.put, List.setIfInBounds_toArray, List.set_cons_zero, List.set_cons_succ]
                  refine take_at (i := 7) 38 (v := .pointer (some ⟨g, o + a * 3, none⟩)) rfl rfl (by kernel_rfl) (by kernel_rfl) (by kernel_rfl) (fun _ _ _ h => h) (Or.inl ⟨by rfl, fun w' hw' => by go_simp⟩) hS ?_
                  simp only [Act.put, List.setIfInBounds_toArray, List.set_cons_zero, List.set_cons_succ]
                  refine take_at (i := 8) 39 (v := .pointer (some ⟨g, o + a * 3, none⟩)) rfl rfl (by kernel_rfl) (by kernel_rfl) (by kernel_rfl) (fun _ _ _ h => h) (Or.inl ⟨by rfl, fun w' hw' => by go_simp⟩) hS ?_
                  simp only [Act.put, List.setIfInBounds_toArray, List.set_cons_zero, List.set_cons_succ]
                  refine take_at (i := 9) 40 (v := .int .u32 (x.1 : Nat)) rfl rfl (by kernel_rfl) (by kernel_rfl) (by kernel_rfl) (fun _ _ _ h => h) (Or.inl ⟨by rfl, fun w' hw' => by obtain ⟨y0, y1, y2⟩ := HX.out w' hw'; go_simp⟩) hS ?_
                  simp only [Act.put, List.setIfInBounds_toArray, List.set_cons_zero, List.set_cons_succ]
                  refine take_at (i := 10) 41 (v := .pointer (some ⟨q, 0, none⟩)) rfl rfl (by kernel_rfl) (by kernel_rfl) (by kernel_rfl) (fun _ _ _ h => h) (Or.inl ⟨by rfl, fun w' hw' => by go_simp⟩) hS ?_
                  simp only [Act.put, List.setIfInBounds_toArray, List.set_cons_zero, List.set_cons_succ]
                  refine take_at (i := 11) 42 (v := .int .u32 (P : Nat)) rfl rfl (by kernel_rfl) (by kernel_rfl) (by kernel_rfl) (fun _ _ _ h => h) (Or.inl ⟨by rfl, fun w' hw' => by have y0 := HQ.out w' hw'; go_simp⟩) hS ?_
                  simp only [Act.put, List.setIfInBounds_toArray, List.set_cons_zero, List.set_cons_succ]
                  refine take_at (i := 12) 43 (v := .bool true) rfl rfl (by kernel_rfl) (by kernel_rfl) (by kernel_rfl) (fun _ _ _ h => h) (Or.inl ⟨by rfl, fun w' hw' => by go_simp⟩) hS ?_
                  simp only [Act.put, List.setIfInBounds_toArray, List.set_cons_zero, List.set_cons_succ]
                  refine take_at (i := 13) 44 (v := .bool true) rfl rfl (by kernel_rfl) (by kernel_rfl) (by kernel_rfl) (fun _ _ _ h => h) (Or.inl ⟨by rfl, fun w' hw' => by go_simp⟩) hS ?_
                  simp only [Act.put, List.setIfInBounds_toArray, List.set_cons_zero, List.set_cons_succ]
                  refine take_at (i := 14) 45 (v := undef) rfl rfl (by kernel_rfl) (by kernel_rfl) (by kernel_rfl) (fun _ _ _ h => h) (Or.inr ⟨by rfl, rfl⟩) hS ?_
                  simp only [Act.put, List.setIfInBounds_toArray, List.set_cons_zero, List.set_cons_succ]
                  refine take_at (i := 15) 46 (v := undef) rfl rfl (by kernel_rfl) (by kernel_rfl) (by kernel_rfl) (fun _ _ _ h => h) (Or.inr ⟨by rfl, rfl⟩) hS ?_
                  simp only [Act.put, List.setIfInBounds_toArray, List.set_cons_zero, List.set_cons_succ]
                  refine take_at (i := 16) 47 (v := undef) rfl rfl (by kernel_rfl) (by kernel_rfl) (by kernel_rfl) (fun _ _ _ h => h) (Or.inr ⟨by rfl, rfl⟩) hS ?_
                  simp only [Act.put, List.setIfInBounds_toArray, List.set_cons_zero, List.set_cons_succ]
                  refine take_at (i := 17) 48 (v := undef) rfl rfl (by kernel_rfl) (by kernel_rfl) (by kernel_rfl) (fun _ _ _ h => h) (Or.inr ⟨by rfl, rfl⟩) hS ?_
                  simp only [Act.put, List.setIfInBounds_toArray, List.set_cons_zero, List.set_cons_succ]
                  refine take_at (i := 18) 49 (v := undef) rfl rfl (by kernel_rfl) (by kernel_rfl) (by kernel_rfl) (fun _ _ _ h => h) (Or.inr ⟨by rfl, rfl⟩) hS ?_
                  simp only [Act.put, List.setIfInBounds_toArray, List.set_cons_zero, List.set_cons_succ]
                  refine take_at (i := 19) 50 (v := undef) rfl rfl (by kernel_rfl) (by kernel_rfl) (by kernel_rfl) (fun _ _ _ h => h) (Or.inr ⟨by rfl, rfl⟩) hS ?_
                  simp only [Act.put, List.setIfInBounds_toArray, List.set_cons_zero, List.set_cons_succ]
                  refine take_at (i := 20) 51 (v := undef) rfl rfl (by kernel_rfl) (by kernel_rfl) (by kernel_rfl) (fun _ _ _ h => h) (Or.inr ⟨by rfl, rfl⟩) hS ?_
                  simp only [Act.put, List.setIfInBounds_toArray, List.set_cons_zero, List.set_cons_succ]
                  refine take_at (i := 21) 52 (v := undef) rfl rfl (by kernel_rfl) (by kernel_rfl) (by kernel_rfl) (fun _ _ _ h => h) (Or.inr ⟨by rfl, rfl⟩) hS ?_
                  simp only [Act.put, List.setIfInBounds_toArray, List.set_cons_zero, List.set_cons_succ]
                  refine take_at (i := 22) 53 (v := undef) rfl rfl (by kernel_rfl) (by kernel_rfl) (by kernel_rfl) (fun _ _ _ h => h) (Or.inr ⟨by rfl, rfl⟩) hS ?_
                  simp only [Act.put, List.setIfInBounds_toArray, List.set_cons_zero, List.set_cons_succ]
                  refine take_at (i := 23) 54 (v := undef) rfl rfl (by kernel_rfl) (by kernel_rfl) (by kernel_rfl) (fun _ _ _ h => h) (Or.inr ⟨by rfl, rfl⟩) hS ?_
                  simp only [Act.put, List.setIfInBounds_toArray, List.set_cons_zero, List.set_cons_succ]
                  refine take_at (i := 24) 55 (v := undef) rfl rfl (by kernel_rfl) (by kernel_rfl) (by kernel_rfl) (fun _ _ _ h => h) (Or.inr ⟨by rfl, rfl⟩) hS ?_
                  simp only [Act.put, List.setIfInBounds_toArray, List.set_cons_zero, List.set_cons_succ]
                  refine take_at (i := 25) 56 (v := undef) rfl rfl (by kernel_rfl) (by kernel_rfl) (by kernel_rfl) (fun _ _ _ h => h) (Or.inr ⟨by rfl, rfl⟩) hS ?_
                  simp only [Act.put, List.setIfInBounds_toArray, List.set_cons_zero, List.set_cons_succ]
                  refine take_at (i := 26) 57 (v := undef) rfl rfl (by kernel_rfl) (by kernel_rfl) (by kernel_rfl) (fun _ _ _ h => h) (Or.inr ⟨by rfl, rfl⟩) hS ?_
                  simp only [Act.put, List.setIfInBounds_toArray, List.set_cons_zero, List.set_cons_succ]
                  refine take_at (i := 27) 58 (v := undef) rfl rfl (by kernel_rfl) (by kernel_rfl) (by kernel_rfl) (fun _ _ _ h => h) (Or.inr ⟨by rfl, rfl⟩) hS ?_
                  simp only [Act.put, List.setIfInBounds_toArray, List.set_cons_zero, List.set_cons_succ]
                  refine take_at (i := 28) 59 (v := undef) rfl rfl (by kernel_rfl) (by kernel_rfl) (by kernel_rfl) (fun _ _ _ h => h) (Or.inr ⟨by rfl, rfl⟩) hS ?_
                  simp only [Act.put, List.setIfInBounds_toArray, List.set_cons_zero, List.set_cons_succ]
                  refine take_at (i := 29) 60 (v := undef) rfl rfl (by kernel_rfl) (by kernel_rfl) (by kernel_rfl) (fun _ _ _ h => h) (Or.inr ⟨by rfl, rfl⟩) hS ?_
                  simp only [Act.put, List.setIfInBounds_toArray, List.set_cons_zero, List.set_cons_succ]
                  refine take_at (i := 30) 61 (v := undef) rfl rfl (by kernel_rfl) (by kernel_rfl) (by kernel_rfl) (fun _ _ _ h => h) (Or.inr ⟨by rfl, rfl⟩) hS ?_
                  simp only [Act.put, List.setIfInBounds_toArray, List.set_cons_zero, List.set_cons_succ]
                  refine take_at (i := 31) 62 (v := undef) rfl rfl (by kernel_rfl) (by kernel_rfl) (by kernel_rfl) (fun _ _ _ h => h) (Or.inr ⟨by rfl, rfl⟩) hS ?_
                  simp only [Act.put, List.setIfInBounds_toArray, List.set_cons_zero, List.set_cons_succ]
                  refine take_at (i := 32) 63 (v := undef) rfl rfl (by kernel_rfl) (by kernel_rfl) (by kernel_rfl) (fun _ _ _ h => h) (Or.inr ⟨by rfl, rfl⟩) hS ?_
                  simp only [Act.put, List.setIfInBounds_toArray, List.set_cons_zero, List.set_cons_succ]
                  refine take_at (i := 33) 64 (v := undef) rfl rfl (by kernel_rfl) (by kernel_rfl) (by kernel_rfl) (fun _ _ _ h => h) (Or.inr ⟨by rfl, rfl⟩) hS ?_
                  simp only [Act.put, List.setIfInBounds_toArray, List.set_cons_zero, List.set_cons_succ]
                  refine take_at (i := 34) 65 (v := undef) rfl rfl (by kernel_rfl) (by kernel_rfl) (by kernel_rfl) (fun _ _ _ h => h) (Or.inr ⟨by rfl, rfl⟩) hS ?_
                  simp only [Act.put, List.setIfInBounds_toArray, List.set_cons_zero, List.set_cons_succ]
                  refine take_at (i := 35) 66 (v := undef) rfl rfl (by kernel_rfl) (by kernel_rfl) (by kernel_rfl) (fun _ _ _ h => h) (Or.inr ⟨by rfl, rfl⟩) hS ?_
                  simp only [Act.put, List.setIfInBounds_toArray, List.set_cons_zero, List.set_cons_succ]
                  refine take_at (i := 36) 67 (v := undef) rfl rfl (by kernel_rfl) (by kernel_rfl) (by kernel_rfl) (fun _ _ _ h => h) (Or.inr ⟨by rfl, rfl⟩) hS ?_
                  simp only [Act.put, List.setIfInBounds_toArray, List.set_cons_zero, List.set_cons_succ]
                  refine take_at (i := 37) 68 (v := undef) rfl rfl (by kernel_rfl) (by kernel_rfl) (by kernel_rfl) (fun _ _ _ h => h) (Or.inr ⟨by rfl, rfl⟩) hS ?_
                  simp only [Act.put, List.setIfInBounds_toArray, List.set_cons_zero, List.set_cons_succ]
                  refine take_at (i := 38) 69 (v := undef) rfl rfl (by kernel_rfl) (by kernel_rfl) (by kernel_rfl) (fun _ _ _ h => h) (Or.inr ⟨by rfl, rfl⟩) hS ?_
                  simp only [Act.put, List.setIfInBounds_toArray, List.set_cons_zero, List.set_cons_succ]
                  refine take_at (i := 39) 70 (v := undef) rfl rfl (by kernel_rfl) (by kernel_rfl) (by kernel_rfl) (fun _ _ _ h => h) (Or.inr ⟨by rfl, rfl⟩) hS ?_
                  simp only [Act.put, List.setIfInBounds_toArray, List.set_cons_zero, List.set_cons_succ]
                  refine take_at (i := 40) 71 (v := undef) rfl rfl (by kernel_rfl) (by kernel_rfl) (by kernel_rfl) (fun _ _ _ h => h) (Or.inr ⟨by rfl, rfl⟩) hS ?_
                  simp only [Act.put, List.setIfInBounds_toArray, List.set_cons_zero, List.set_cons_succ]
                  refine take_at (i := 41) 72 (v := undef) rfl rfl (by kernel_rfl) (by kernel_rfl) (by kernel_rfl) (fun _ _ _ h => h) (Or.inr ⟨by rfl, rfl⟩) hS ?_
                  simp only [Act.put, List.setIfInBounds_toArray, List.set_cons_zero, List.set_cons_succ]
                  refine take_at (i := 42) 73 (v := undef) rfl rfl (by kernel_rfl) (by kernel_rfl) (by kernel_rfl) (fun _ _ _ h => h) (Or.inr ⟨by rfl, rfl⟩) hS ?_
                  simp only [Act.put, List.setIfInBounds_toArray, List.set_cons_zero, List.set_cons_succ]
                  refine take_at (i := 43) 74 (v := undef) rfl rfl (by kernel_rfl) (by kernel_rfl) (by kernel_rfl) (fun _ _ _ h => h) (Or.inr ⟨by rfl, rfl⟩) hS ?_
                  simp only [Act.put, List.setIfInBounds_toArray, List.set_cons_zero, List.set_cons_succ]
                  refine take_at (i := 44) 75 (v := undef) rfl rfl (by kernel_rfl) (by kernel_rfl) (by kernel_rfl) (fun _ _ _ h => h) (Or.inr ⟨by rfl, rfl⟩) hS ?_
                  simp only [Act.put, List.setIfInBounds_toArray, List.set_cons_zero, List.set_cons_succ]
                  refine take_at (i := 45) 76 (v := undef) rfl rfl (by kernel_rfl) (by kernel_rfl) (by kernel_rfl) (fun _ _ _ h => h) (Or.inr ⟨by rfl, rfl⟩) hS ?_
                  simp only [Act.put, List.setIfInBounds_toArray, List.set_cons_zero, List.set_cons_succ]
                  refine take_at (i := 46) 77 (v := undef) rfl rfl (by kernel_rfl) (by kernel_rfl) (by kernel_rfl) (fun _ _ _ h => h) (Or.inr ⟨by rfl, rfl⟩) hS ?_
                  simp only [Act.put, List.setIfInBounds_toArray, List.set_cons_zero, List.set_cons_succ]
                  refine take_at (i := 47) 78 (v := undef) rfl rfl (by kernel_rfl) (by kernel_rfl) (by kernel_rfl) (fun _ _ _ h => h) (Or.inr ⟨by rfl, rfl⟩) hS ?_
                  simp only [Act.put, List.setIfInBounds_toArray, List.set_cons_zero, List.set_cons_succ]
                  refine take_at (i := 48) 79 (v := undef) rfl rfl (by kernel_rfl) (by kernel_rfl) (by kernel_rfl) (fun _ _ _ h => h) (Or.inr ⟨by rfl, rfl⟩) hS ?_
                  simp only [Act.put, List.setIfInBounds_toArray, List.set_cons_zero, List.set_cons_succ]
                  refine take_at (i := 49) 80 (v := .bool true) rfl rfl (by kernel_rfl) (by kernel_rfl) (by kernel_rfl) (fun _ _ _ h => h) (Or.inl ⟨by rfl, fun w' hw' => by go_simp⟩) hS ?_
                  simp only [Act.put, List.setIfInBounds_toArray, List.set_cons_zero, List.set_cons_succ]
                  refine take_at (i := 50) 81 (v := .bool true) rfl rfl (by kernel_rfl) (by kernel_rfl) (by kernel_rfl) (fun _ _ _ h => h) (Or.inl ⟨by rfl, fun w' hw' => by go_simp⟩) hS ?_
                  simp only [Act.put, List.setIfInBounds_toArray, List.set_cons_zero, List.set_cons_succ]
                  refine wpAnyH_done (by kernel_rfl) ?_ _
                  go_wp2_with fail
                  go_meet
                  case rel =>
                    have hl : ltP x (P, i, j) = true := by rw [ltP_iff]; simp only; omega
                    exact ⟨true, rfl, ⟨fun _ => HUP.out x HXX.out hl, fun h => (by cases h)⟩, hS⟩
                · have d1 : decide ((x.1 : Int) < (P : Int)) = false := decide_eq_false (by omega)
                  have d2 : decide (x.1 < P) = false := decide_eq_false c1
                  by_cases c2 : x.1 = P
                  · have d3 : ((x.1 : Int) == (P : Int)) = true := by simp [c2]
                    have d4 : (x.1 == P) = true := by simp [c2]
                    have HC2 : Hid (x.1 = P) := c2
                    clear c2
                    by_cases c3 : x.2.1 < i
                    · have d5 : decide ((x.2.1 : Int) < (i : Int)) = true := decide_eq_true (by omega)
                      have d6 : decide (x.2.1 < i) = true := decide_eq_true c3
                      refine wp_region_held_drew (S := Off (fun _ => False) wr) (by kernel_rfl) ((Off.refl _ wr).drew) (fun hS => ?_)
                      refine take_at (i := 0) 31 (v := .int .i64 (a : Int)) rfl rfl (by kernel_rfl) (by kernel_rfl) (by kernel_rfl) (fun _ _ _ h => h) (Or.inl ⟨by rfl, fun w' hw' => by go_simp⟩) hS ?_
                      simp only [Act.put, List.setIfInBounds_toArray, List.set_cons_zero, List.set_cons_succ]
                      refine take_at (i := 1) 32 (v := .slice (some ⟨g, o, none⟩) L.length c) rfl rfl (by kernel_rfl) (by kernel_rfl) (by kernel_rfl) (fun _ _ _ h => h) (Or.inl ⟨by rfl, fun w' hw' => by go_simp⟩) hS ?_
                      simp only [Act.put, List.setIfInBounds_toArray, List.set_cons_zero, List.set_cons_succ]
                      refine take_at (i := 2) 33 (v := .int .i64 (L.length : Int)) rfl rfl (by kernel_rfl) (by kernel_rfl) (by kernel_rfl) (fun _ _ _ h => h) (Or.inl ⟨by rfl, fun w' hw' => by go_simp⟩) hS ?_
                      simp only [Act.put, List.setIfInBounds_toArray, List.set_cons_zero, List.set_cons_succ]
                      refine take_at (i := 3) 34 (v := .bool true) rfl rfl (by kernel_rfl) (by kernel_rfl) (by kernel_rfl) (fun _ _ _ h => h) (Or.inl ⟨by rfl, fun w' hw' => by go_simp⟩) hS ?_
                      simp only [Act.put, List.setIfInBounds_toArray, List.set_cons_zero, List.set_cons_succ]
                      refine take_at (i := 4) 35 (v := .bool true) rfl rfl (by kernel_rfl) (by kernel_rfl) (by kernel_rfl) (fun _ _ _ h => h) (Or.inl ⟨by rfl, fun w' hw' => by go_simp⟩) hS ?_
                      simp only [Act.put, List.setIfInBounds_toArray, List.set_cons_zero, List.set_cons_succ]
                      refine take_at (i := 5) 36 (v := .slice (some ⟨g, o, none⟩) L.length c) rfl rfl (by kernel_rfl) (by kernel_rfl) (by kernel_rfl) (fun _ _ _ h => h) (Or.inl ⟨by rfl, fun w' hw' => by go_simp⟩) hS ?_
                      simp only [Act.put, List.setIfInBounds_toArray, List.set_cons_zero, List.set_cons_succ]
                      refine take_at (i := 6) 37 (v := .int .i64 (a : Int)) rfl rfl (by kernel_rfl) (by kernel_rfl) (by kernel_rfl) (fun _ _ _ h => h) (Or.inl ⟨by rfl, fun w' hw' => by go_simp⟩) hS ?_
                      simp only [Act.put, List.setIfInBounds_toArray, List.set_cons_zero, List.set_cons_succ]
                      refine take_at (i := 7) 38 (v := .pointer (some ⟨g, o + a * 3, none⟩)) rfl rfl (by kernel_rfl) (by kernel_rfl) (by kernel_rfl) (fun _ _ _ h => h) (Or.inl ⟨by rfl, fun w' hw' => by go_simp⟩) hS ?_
                      simp only [Act.put, List.setIfInBounds_toArray, List.set_cons_zero, List.set_cons_succ]
                      refine take_at (i := 8) 39 (v := .pointer (some ⟨g, o + a * 3, none⟩)) rfl rfl (by kernel_rfl) (by kernel_rfl) (by kernel_rfl) (fun _ _ _ h => h) (Or.inl ⟨by rfl, fun w' hw' => by go_simp⟩) hS ?_
                      simp only [Act.put, List.setIfInBounds_toArray, List.set_cons_zero, List.set_cons_succ]
                      refine take_at (i := 9) 40 (v := .int .u32 (x.1 : Nat)) rfl rfl (by kernel_rfl) (by kernel_rfl) (by kernel_rfl) (fun _ _ _ h => h) (Or.inl ⟨by rfl, fun w' hw' => by obtain ⟨y0, y1, y2⟩ := HX.out w' hw'; go_simp⟩) hS ?_
                      simp only [Act.put, List.setIfInBounds_toArray, List.set_cons_zero, List.set_cons_succ]
                      refine take_at (i := 10) 41 (v := .pointer (some ⟨q, 0, none⟩)) rfl rfl (by kernel_rfl) (by kernel_rfl) (by kernel_rfl) (fun _ _ _ h => h) (Or.inl ⟨by rfl, fun w' hw' => by go_simp⟩) hS ?_
                      simp only [Act.put, List.setIfInBounds_toArray, List.set_cons_zero, List.set_cons_succ]
                      refine take_at (i := 11) 42 (v := .int .u32 (P : Nat)) rfl rfl (by kernel_rfl) (by kernel_rfl) (by kernel_rfl) (fun _ _ _ h => h) (Or.inl ⟨by rfl, fun w' hw' => by have y0 := HQ.out w' hw'; go_simp⟩) hS ?_
                      simp only [Act.put, List.setIfInBounds_toArray, List.set_cons_zero, List.set_cons_succ]
                      refine take_at (i := 12) 43 (v := .bool false) rfl rfl (by kernel_rfl) (by kernel_rfl) (by kernel_rfl) (fun _ _ _ h => h) (Or.inl ⟨by rfl, fun w' hw' => by go_simp⟩) hS ?_
                      simp only [Act.put, List.setIfInBounds_toArray, List.set_cons_zero, List.set_cons_succ]
                      refine take_at (i := 13) 44 (v := .bool false) rfl rfl (by kernel_rfl) (by kernel_rfl) (by kernel_rfl) (fun _ _ _ h => h) (Or.inl ⟨by rfl, fun w' hw' => by go_simp⟩) hS ?_
                      simp only [Act.put, List.setIfInBounds_toArray, List.set_cons_zero, List.set_cons_succ]
                      refine take_at (i := 14) 45 (v := .slice (some ⟨g, o, none⟩) L.length c) rfl rfl (by kernel_rfl) (by kernel_rfl) (by kernel_rfl) (fun _ _ _ h => h) (Or.inl ⟨by rfl, fun w' hw' => by go_simp⟩) hS ?_
                      simp only [Act.put, List.setIfInBounds_toArray, List.set_cons_zero, List.set_cons_succ]
                      refine take_at (i := 15) 46 (v := .int .i64 (a : Int)) rfl rfl (by kernel_rfl) (by kernel_rfl) (by kernel_rfl) (fun _ _ _ h => h) (Or.inl ⟨by rfl, fun w' hw' => by go_simp⟩) hS ?_
                      simp only [Act.put, List.setIfInBounds_toArray, List.set_cons_zero, List.set_cons_succ]
                      refine take_at (i := 16) 47 (v := .pointer (some ⟨g, o + a * 3, none⟩)) rfl rfl (by kernel_rfl) (by kernel_rfl) (by kernel_rfl) (fun _ _ _ h => h) (Or.inl ⟨by rfl, fun w' hw' => by go_simp⟩) hS ?_
                      simp only [Act.put, List.setIfInBounds_toArray, List.set_cons_zero, List.set_cons_succ]
                      refine take_at (i := 17) 48 (v := .pointer (some ⟨g, o + a * 3, none⟩)) rfl rfl (by kernel_rfl) (by kernel_rfl) (by kernel_rfl) (fun _ _ _ h => h) (Or.inl ⟨by rfl, fun w' hw' => by go_simp⟩) hS ?_
                      simp only [Act.put, List.setIfInBounds_toArray, List.set_cons_zero, List.set_cons_succ]
                      refine take_at (i := 18) 49 (v := .int .u32 (x.1 : Nat)) rfl rfl (by kernel_rfl) (by kernel_rfl) (by kernel_rfl) (fun _ _ _ h => h) (Or.inl ⟨by rfl, fun w' hw' => by obtain ⟨y0, y1, y2⟩ := HX.out w' hw'; go_simp⟩) hS ?_
                      simp only [Act.put, List.setIfInBounds_toArray, List.set_cons_zero, List.set_cons_succ]
                      refine take_at (i := 19) 50 (v := .pointer (some ⟨q, 0, none⟩)) rfl rfl (by kernel_rfl) (by kernel_rfl) (by kernel_rfl) (fun _ _ _ h => h) (Or.inl ⟨by rfl, fun w' hw' => by go_simp⟩) hS ?_
                      simp only [Act.put, List.setIfInBounds_toArray, List.set_cons_zero, List.set_cons_succ]
                      refine take_at (i := 20) 51 (v := .int .u32 (P : Nat)) rfl rfl (by kernel_rfl) (by kernel_rfl) (by kernel_rfl) (fun _ _ _ h => h) (Or.inl ⟨by rfl, fun w' hw' => by have y0 := HQ.out w' hw'; go_simp⟩) hS ?_
                      simp only [Act.put, List.setIfInBounds_toArray, List.set_cons_zero, List.set_cons_succ]
                      refine take_at (i := 21) 52 (v := .bool true) rfl rfl (by kernel_rfl) (by kernel_rfl) (by kernel_rfl) (fun _ _ _ h => h) (Or.inl ⟨by rfl, fun w' hw' => by go_simp⟩) hS ?_
                      simp only [Act.put, List.setIfInBounds_toArray, List.set_cons_zero, List.set_cons_succ]
                      refine take_at (i := 22) 53 (v := .bool true) rfl rfl (by kernel_rfl) (by kernel_rfl) (by kernel_rfl) (fun _ _ _ h => h) (Or.inl ⟨by rfl, fun w' hw' => by go_simp⟩) hS ?_
                      simp only [Act.put, List.setIfInBounds_toArray, List.set_cons_zero, List.set_cons_succ]
                      refine take_at (i := 23) 54 (v := .slice (some ⟨g, o, none⟩) L.length c) rfl rfl (by kernel_rfl) (by kernel_rfl) (by kernel_rfl) (fun _ _ _ h => h) (Or.inl ⟨by rfl, fun w' hw' => by go_simp⟩) hS ?_
                      simp only [Act.put, List.setIfInBounds_toArray, List.set_cons_zero, List.set_cons_succ]
                      refine take_at (i := 24) 55 (v := .int .i64 (a : Int)) rfl rfl (by kernel_rfl) (by kernel_rfl) (by kernel_rfl) (fun _ _ _ h => h) (Or.inl ⟨by rfl, fun w' hw' => by go_simp⟩) hS ?_
                      simp only [Act.put, List.setIfInBounds_toArray, List.set_cons_zero, List.set_cons_succ]
                      refine take_at (i := 25) 56 (v := .pointer (some ⟨g, o + a * 3, none⟩)) rfl rfl (by kernel_rfl) (by kernel_rfl) (by kernel_rfl) (fun _ _ _ h => h) (Or.inl ⟨by rfl, fun w' hw' => by go_simp⟩) hS ?_
                      simp only [Act.put, List.setIfInBounds_toArray, List.set_cons_zero, List.set_cons_succ]
                      refine take_at (i := 26) 57 (v := .pointer (some ⟨g, o + a * 3 + 1, none⟩)) rfl rfl (by kernel_rfl) (by kernel_rfl) (by kernel_rfl) (fun _ _ _ h => h) (Or.inl ⟨by rfl, fun w' hw' => by go_simp⟩) hS ?_
                      simp only [Act.put, List.setIfInBounds_toArray, List.set_cons_zero, List.set_cons_succ]
                      refine take_at (i := 27) 58 (v := .int .i64 (x.2.1 : Nat)) rfl rfl (by kernel_rfl) (by kernel_rfl) (by kernel_rfl) (fun _ _ _ h => h) (Or.inl ⟨by rfl, fun w' hw' => by obtain ⟨y0, y1, y2⟩ := HX.out w' hw'; go_simp⟩) hS ?_
                      simp only [Act.put, List.setIfInBounds_toArray, List.set_cons_zero, List.set_cons_succ]
                      refine take_at (i := 28) 59 (v := .int .i64 (i : Int)) rfl rfl (by kernel_rfl) (by kernel_rfl) (by kernel_rfl) (fun _ _ _ h => h) (Or.inl ⟨by rfl, fun w' hw' => by go_simp⟩) hS ?_
                      simp only [Act.put, List.setIfInBounds_toArray, List.set_cons_zero, List.set_cons_succ]
                      refine take_at (i := 29) 60 (v := .bool true) rfl rfl (by kernel_rfl) (by kernel_rfl) (by kernel_rfl) (fun _ _ _ h => h) (Or.inl ⟨by rfl, fun w' hw' => by go_simp⟩) hS ?_
                      simp only [Act.put, List.setIfInBounds_toArray, List.set_cons_zero, List.set_cons_succ]
                      refine take_at (i := 30) 61 (v := .bool true) rfl rfl (by kernel_rfl) (by kernel_rfl) (by kernel_rfl) (fun _ _ _ h => h) (Or.inl ⟨by rfl, fun w' hw' => by go_simp⟩) hS ?_
                      simp only [Act.put, List.setIfInBounds_toArray, List.set_cons_zero, List.set_cons_succ]
                      refine take_at (i := 31) 62 (v := undef) rfl rfl (by kernel_rfl) (by kernel_rfl) (by kernel_rfl) (fun _ _ _ h => h) (Or.inr ⟨by rfl, rfl⟩) hS ?_
                      simp only [Act.put, List.setIfInBounds_toArray, List.set_cons_zero, List.set_cons_succ]
                      refine take_at (i := 32) 63 (v := undef) rfl rfl (by kernel_rfl) (by kernel_rfl) (by kernel_rfl) (fun _ _ _ h => h) (Or.inr ⟨by rfl, rfl⟩) hS ?_
                      simp only [Act.put, List.setIfInBounds_toArray, List.set_cons_zero, List.set_cons_succ]
                      refine take_at (i := 33) 64 (v := undef) rfl rfl (by kernel_rfl) (by kernel_rfl) (by kernel_rfl) (fun _ _ _ h => h) (Or.inr ⟨by rfl, rfl⟩) hS ?_
                      simp only [Act.put, List.setIfInBounds_toArray, List.set_cons_zero, List.set_cons_succ]
                      refine take_at (i := 34) 65 (v := undef) rfl rfl (by kernel_rfl) (by kernel_rfl) (by kernel_rfl) (fun _ _ _ h => h) (Or.inr ⟨by rfl, rfl⟩) hS ?_
                      simp only [Act.put, List.setIfInBounds_toArray, List.set_cons_zero, List.set_cons_succ]
                      refine take_at (i := 35) 66 (v := undef) rfl rfl (by kernel_rfl) (by kernel_rfl) (by kernel_rfl) (fun _ _ _ h => h) (Or.inr ⟨by rfl, rfl⟩) hS ?_
                      simp only [Act.put, List.setIfInBounds_toArray, List.set_cons_zero, List.set_cons_succ]
                      refine take_at (i := 36) 67 (v := undef) rfl rfl (by kernel_rfl) (by kernel_rfl) (by kernel_rfl) (fun _ _ _ h => h) (Or.inr ⟨by rfl, rfl⟩) hS ?_
                      simp only [Act.put, List.setIfInBounds_toArray, List.set_cons_zero, List.set_cons_succ]
                      refine take_at (i := 37) 68 (v := undef) rfl rfl (by kernel_rfl) (by kernel_rfl) (by kernel_rfl) (fun _ _ _ h => h) (Or.inr ⟨by rfl, rfl⟩) hS ?_
                      simp only [Act.put, List.setIfInBounds_toArray, List.set_cons_zero, List.set_cons_succ]
                      refine take_at (i := 38) 69 (v := undef) rfl rfl (by kernel_rfl) (by kernel_rfl) (by kernel_rfl) (fun _ _ _ h => h) (Or.inr ⟨by rfl, rfl⟩) hS ?_
                      simp only [Act.put, List.setIfInBounds_toArray, List.set_cons_zero, List.set_cons_succ]
                      refine take_at (i := 39) 70 (v := undef) rfl rfl (by kernel_rfl) (by kernel_rfl) (by kernel_rfl) (fun _ _ _ h => h) (Or.inr ⟨by rfl, rfl⟩) hS ?_
                      simp only [Act.put, List.setIfInBounds_toArray, List.set_cons_zero, List.set_cons_succ]
                      refine take_at (i := 40) 71 (v := undef) rfl rfl (by kernel_rfl) (by kernel_rfl) (by kernel_rfl) (fun _ _ _ h => h) (Or.inr ⟨by rfl, rfl⟩) hS ?_
                      simp only [Act.put, List.setIfInBounds_toArray, List.set_cons_zero, List.set_cons_succ]
                      refine take_at (i := 41) 72 (v := undef) rfl rfl (by kernel_rfl) (by kernel_rfl) (by kernel_rfl) (fun _ _ _ h => h) (Or.inr ⟨by rfl, rfl⟩) hS ?_
                      simp only [Act.put, List.setIfInBounds_toArray, List.set_cons_zero, List.set_cons_succ]
                      refine take_at (i := 42) 73 (v := undef) rfl rfl (by kernel_rfl) (by kernel_rfl) (by kernel_rfl) (fun _ _ _ h => h) (Or.inr ⟨by rfl, rfl⟩) hS ?_
                      simp only [Act.put, List.setIfInBounds_toArray, List.set_cons_zero, List.set_cons_succ]
                      refine take_at (i := 43) 74 (v := undef) rfl rfl (by kernel_rfl) (by kernel_rfl) (by kernel_rfl) (fun _ _ _ h => h) (Or.inr ⟨by rfl, rfl⟩) hS ?_
                      simp only [Act.put, List.setIfInBounds_toArray, List.set_cons_zero, List.set_cons_succ]
                      refine take_at (i := 44) 75 (v := undef) rfl rfl (by kernel_rfl) (by kernel_rfl) (by kernel_rfl) (fun _ _ _ h => h) (Or.inr ⟨by rfl, rfl⟩) hS ?_
                      simp only [Act.put, List.setIfInBounds_toArray, List.set_cons_zero, List.set_cons_succ]
                      refine take_at (i := 45) 76 (v := undef) rfl rfl (by kernel_rfl) (by kernel_rfl) (by kernel_rfl) (fun _ _ _ h => h) (Or.inr ⟨by rfl, rfl⟩) hS ?_
                      simp only [Act.put, List.setIfInBounds_toArray, List.set_cons_zero, List.set_cons_succ]
                      refine take_at (i := 46) 77 (v := undef) rfl rfl (by kernel_rfl) (by kernel_rfl) (by kernel_rfl) (fun _ _ _ h => h) (Or.inr ⟨by rfl, rfl⟩) hS ?_
                      simp only [Act.put, List.setIfInBounds_toArray, List.set_cons_zero, List.set_cons_succ]
                      refine take_at (i := 47) 78 (v := .bool true) rfl rfl (by kernel_rfl) (by kernel_rfl) (by kernel_rfl) (fun _ _ _ h => h) (Or.inl ⟨by rfl, fun w' hw' => by go_simp⟩) hS ?_
                      simp only [Act.put, List.setIfInBounds_toArray, List.set_cons_zero, List.set_cons_succ]
                      refine take_at (i := 48) 79 (v := .bool true) rfl rfl (by kernel_rfl) (by kernel_rfl) (by kernel_rfl) (fun _ _ _ h => h) (Or.inl ⟨by rfl, fun w' hw' => by go_simp⟩) hS ?_
                      simp only [Act.put, List.setIfInBounds_toArray, List.set_cons_zero, List.set_cons_succ]
                      refine take_at (i := 49) 80 (v := .bool true) rfl rfl (by kernel_rfl) (by kernel_rfl) (by kernel_rfl) (fun _ _ _ h => h) (Or.inl ⟨by rfl, fun w' hw' => by go_simp⟩) hS ?_
                      simp only [Act.put, List.setIfInBounds_toArray, List.set_cons_zero, List.set_cons_succ]
                      refine take_at (i := 50) 81 (v := .bool true) rfl rfl (by kernel_rfl) (by kernel_rfl) (by kernel_rfl) (fun _ _ _ h => h) (Or.inl ⟨by rfl, fun w' hw' => by go_simp⟩) hS ?_
                      simp only [Act.put, List.setIfInBounds_toArray, List.set_cons_zero, List.set_cons_succ]
                      refine wpAnyH_done (by kernel_rfl) ?_ _
                      go_wp2_with fail
                      go_meet
                      case rel =>
                        have hl : ltP x (P, i, j) = true := by have h1 : x.1 = P := HC2.out; rw [ltP_iff]; simp only; omega
                        exact ⟨true, rfl, ⟨fun _ => HUP.out x HXX.out hl, fun h => (by cases h)⟩, hS⟩
                    · have d5 : decide ((x.2.1 : Int) < (i : Int)) = false := decide_eq_false (by omega)
                      have d6 : decide (x.2.1 < i) = false := decide_eq_false c3
                      by_cases c4 : x.2.1 = i
                      · have d7 : ((x.2.1 : Int) == (i : Int)) = true := by simp [c4]
                        have d8 : (x.2.1 == i) = true := by simp [c4]
                        have HC4 : Hid (x.2.1 = i) := c4
                        clear c4
                        by_cases c5 : x.2.2 < j
                        · have d9 : decide ((x.2.2 : Int) < (j : Int)) = true := decide_eq_true (by omega)
                          have da : decide (x.2.2 < j) = true := decide_eq_true c5
                          refine wp_region_held_drew (S := Off (fun _ => False) wr) (by kernel_rfl) ((Off.refl _ wr).drew) (fun hS => ?_)
                          refine take_at (i := 0) 31 (v := .int .i64 (a : Int)) rfl rfl (by kernel_rfl) (by kernel_rfl) (by kernel_rfl) (fun _ _ _ h => h) (Or.inl ⟨by rfl, fun w' hw' => by go_simp⟩) hS ?_
                          simp only [Act.put, List.setIfInBounds_toArray, List.set_cons_zero, List.set_cons_succ]
                          refine take_at (i := 1) 32 (v := .slice (some ⟨g, o, none⟩) L.length c) rfl rfl (by kernel_rfl) (by kernel_rfl) (by kernel_rfl) (fun _ _ _ h => h) (Or.inl ⟨by rfl, fun w' hw' => by go_simp⟩) hS ?_
                          simp only [Act.put, List.setIfInBounds_toArray, List.set_cons_zero, List.set_cons_succ]
                          refine take_at (i := 2) 33 (v := .int .i64 (L.length : Int)) rfl rfl (by kernel_rfl) (by kernel_rfl) (by kernel_rfl) (fun _ _ _ h => h) (Or.inl ⟨by rfl, fun w' hw' => by go_simp⟩) hS ?_
                          simp only [Act.put, List.setIfInBounds_toArray, List.set_cons_zero, List.set_cons_succ]
                          refine take_at (i := 3) 34 (v := .bool true) rfl rfl (by kernel_rfl) (by kernel_rfl) (by kernel_rfl) (fun _ _ _ h => h) (Or.inl ⟨by rfl, fun w' hw' => by go_simp⟩) hS ?_
                          simp only [Act.put, List.setIfInBounds_toArray, List.set_cons_zero, List.set_cons_succ]
                          refine take_at (i := 4) 35 (v := .bool true) rfl rfl (by kernel_rfl) (by kernel_rfl) (by kernel_rfl) (fun _ _ _ h => h) (Or.inl ⟨by rfl, fun w' hw' => by go_simp⟩) hS ?_
                          simp only [Act.put, List.setIfInBounds_toArray, List.set_cons_zero, List.set_cons_succ]
                          refine take_at (i := 5) 36 (v := .slice (some ⟨g, o, none⟩) L.length c) rfl rfl (by kernel_rfl) (by kernel_rfl) (by kernel_rfl) (fun _ _ _ h => h) (Or.inl ⟨by rfl, fun w' hw' => by go_simp⟩) hS ?_
                          simp only [Act.put, List.setIfInBounds_toArray, List.set_cons_zero, List.set_cons_succ]
                          refine take_at (i := 6) 37 (v := .int .i64 (a : Int)) rfl rfl (by kernel_rfl) (by kernel_rfl) (by kernel_rfl) (fun _ _ _ h => h) (Or.inl ⟨by rfl, fun w' hw' => by go_simp⟩) hS ?_
                          simp only [Act.put, List.setIfInBounds_toArray, List.set_cons_zero, List.set_cons_succ]
                          refine take_at (i := 7) 38 (v := .pointer (some ⟨g, o + a * 3, none⟩)) rfl rfl (by kernel_rfl) (by kernel_rfl) (by kernel_rfl) (fun _ _ _ h => h) (Or.inl ⟨by rfl, fun w' hw' => by go_simp⟩) hS ?_
                          simp only [Act.put, List.setIfInBounds_toArray, List.set_cons_zero, List.set_cons_succ]
                          refine take_at (i := 8) 39 (v := .pointer (some ⟨g, o + a * 3, none⟩)) rfl rfl (by kernel_rfl) (by kernel_rfl) (by kernel_rfl) (fun _ _ _ h => h) (Or.inl ⟨by rfl, fun w' hw' => by go_simp⟩) hS ?_
                          simp only [Act.put, List.setIfInBounds_toArray, List.set_cons_zero, List.set_cons_succ]
                          refine take_at (i := 9) 40 (v := .int .u32 (x.1 : Nat)) rfl rfl (by kernel_rfl) (by kernel_rfl) (by kernel_rfl) (fun _ _ _ h => h) (Or.inl ⟨by rfl, fun w' hw' => by obtain ⟨y0, y1, y2⟩ := HX.out w' hw'; go_simp⟩) hS ?_
                          simp only [Act.put, List.setIfInBounds_toArray, List.set_cons_zero, List.set_cons_succ]
                          refine take_at (i := 10) 41 (v := .pointer (some ⟨q, 0, none⟩)) rfl rfl (by kernel_rfl) (by kernel_rfl) (by kernel_rfl) (fun _ _ _ h => h) (Or.inl ⟨by rfl, fun w' hw' => by go_simp⟩) hS ?_
                          simp only [Act.put, List.setIfInBounds_toArray, List.set_cons_zero, List.set_cons_succ]
                          refine take_at (i := 11) 42 (v := .int .u32 (P : Nat)) rfl rfl (by kernel_rfl) (by kernel_rfl) (by kernel_rfl) (fun _ _ _ h => h) (Or.inl ⟨by rfl, fun w' hw' => by have y0 := HQ.out w' hw'; go_simp⟩) hS ?_
                          simp only [Act.put, List.setIfInBounds_toArray, List.set_cons_zero, List.set_cons_succ]
                          refine take_at (i := 12) 43 (v := .bool false) rfl rfl (by kernel_rfl) (by kernel_rfl) (by kernel_rfl) (fun _ _ _ h => h) (Or.inl ⟨by rfl, fun w' hw' => by go_simp⟩) hS ?_
                          simp only [Act.put, List.setIfInBounds_toArray, List.set_cons_zero, List.set_cons_succ]
                          refine take_at (i := 13) 44 (v := .bool false) rfl rfl (by kernel_rfl) (by kernel_rfl) (by kernel_rfl) (fun _ _ _ h => h) (Or.inl ⟨by rfl, fun w' hw' => by go_simp⟩) hS ?_
                          simp only [Act.put, List.setIfInBounds_toArray, List.set_cons_zero, List.set_cons_succ]
                          refine take_at (i := 14) 45 (v := .slice (some ⟨g, o, none⟩) L.length c) rfl rfl (by kernel_rfl) (by kernel_rfl) (by kernel_rfl) (fun _ _ _ h => h) (Or.inl ⟨by rfl, fun w' hw' => by go_simp⟩) hS ?_
                          simp only [Act.put, List.setIfInBounds_toArray, List.set_cons_zero, List.set_cons_succ]
                          refine take_at (i := 15) 46 (v := .int .i64 (a : Int)) rfl rfl (by kernel_rfl) (by kernel_rfl) (by kernel_rfl) (fun _ _ _ h => h) (Or.inl ⟨by rfl, fun w' hw' => by go_simp⟩) hS ?_
                          simp only [Act.put, List.setIfInBounds_toArray, List.set_cons_zero, List.set_cons_succ]
                          refine take_at (i := 16) 47 (v := .pointer (some ⟨g, o + a * 3, none⟩)) rfl rfl (by kernel_rfl) (by kernel_rfl) (by kernel_rfl) (fun _ _ _ h => h) (Or.inl ⟨by rfl, fun w' hw' => by go_simp⟩) hS ?_
                          simp only [Act.put, List.setIfInBounds_toArray, List.set_cons_zero, List.set_cons_succ]
                          refine take_at (i := 17) 48 (v := .pointer (some ⟨g, o + a * 3, none⟩)) rfl rfl (by kernel_rfl) (by kernel_rfl) (by kernel_rfl) (fun _ _ _ h => h) (Or.inl ⟨by rfl, fun w' hw' => by go_simp⟩) hS ?_
                          simp only [Act.put, List.setIfInBounds_toArray, List.set_cons_zero, List.set_cons_succ]
                          refine take_at (i := 18) 49 (v := .int .u32 (x.1 : Nat)) rfl rfl (by kernel_rfl) (by kernel_rfl) (by kernel_rfl) (fun _ _ _ h => h) (Or.inl ⟨by rfl, fun w' hw' => by obtain ⟨y0, y1, y2⟩ := HX.out w' hw'; go_simp⟩) hS ?_
                          simp only [Act.put, List.setIfInBounds_toArray, List.set_cons_zero, List.set_cons_succ]
                          refine take_at (i := 19) 50 (v := .pointer (some ⟨q, 0, none⟩)) rfl rfl (by kernel_rfl) (by kernel_rfl) (by kernel_rfl) (fun _ _ _ h => h) (Or.inl ⟨by rfl, fun w' hw' => by go_simp⟩) hS ?_
                          simp only [Act.put, List.setIfInBounds_toArray, List.set_cons_zero, List.set_cons_succ]
                          refine take_at (i := 20) 51 (v := .int .u32 (P : Nat)) rfl rfl (by kernel_rfl) (by kernel_rfl) (by kernel_rfl) (fun _ _ _ h => h) (Or.inl ⟨by rfl, fun w' hw' => by have y0 := HQ.out w' hw'; go_simp⟩) hS ?_
                          simp only [Act.put, List.setIfInBounds_toArray, List.set_cons_zero, List.set_cons_succ]
                          refine take_at (i := 21) 52 (v := .bool true) rfl rfl (by kernel_rfl) (by kernel_rfl) (by kernel_rfl) (fun _ _ _ h => h) (Or.inl ⟨by rfl, fun w' hw' => by go_simp⟩) hS ?_
                          simp only [Act.put, List.setIfInBounds_toArray, List.set_cons_zero, List.set_cons_succ]
                          refine take_at (i := 22) 53 (v := .bool true) rfl rfl (by kernel_rfl) (by kernel_rfl) (by kernel_rfl) (fun _ _ _ h => h) (Or.inl ⟨by rfl, fun w' hw' => by go_simp⟩) hS ?_
                          simp only [Act.put, List.setIfInBounds_toArray, List.set_cons_zero, List.set_cons_succ]
                          refine take_at (i := 23) 54 (v := .slice (some ⟨g, o, none⟩) L.length c) rfl rfl (by kernel_rfl) (by kernel_rfl) (by kernel_rfl) (fun _ _ _ h => h) (Or.inl ⟨by rfl, fun w' hw' => by go_simp⟩) hS ?_
                          simp only [Act.put, List.setIfInBounds_toArray, List.set_cons_zero, List.set_cons_succ]
                          refine take_at (i := 24) 55 (v := .int .i64 (a : Int)) rfl rfl (by kernel_rfl) (by kernel_rfl) (by kernel_rfl) (fun _ _ _ h => h) (Or.inl ⟨by rfl, fun w' hw' => by go_simp⟩) hS ?_
                          simp only [Act.put, List.setIfInBounds_toArray, List.set_cons_zero, List.set_cons_succ]
                          refine take_at (i := 25) 56 (v := .pointer (some ⟨g, o + a * 3, none⟩)) rfl rfl (by kernel_rfl) (by kernel_rfl) (by kernel_rfl) (fun _ _ _ h => h) (Or.inl ⟨by rfl, fun w' hw' => by go_simp⟩) hS ?_
                          simp only [Act.put, List.setIfInBounds_toArray, List.set_cons_zero, List.set_cons_succ]
                          refine take_at (i := 26) 57 (v := .pointer (some ⟨g, o + a * 3 + 1, none⟩)) rfl rfl (by kernel_rfl) (by kernel_rfl) (by kernel_rfl) (fun _ _ _ h => h) (Or.inl ⟨by rfl, fun w' hw' => by go_simp⟩) hS ?_
                          simp only [Act.put, List.setIfInBounds_toArray, List.set_cons_zero, List.set_cons_succ]
                          refine take_at (i := 27) 58 (v := .int .i64 (x.2.1 : Nat)) rfl rfl (by kernel_rfl) (by kernel_rfl) (by kernel_rfl) (fun _ _ _ h => h) (Or.inl ⟨by rfl, fun w' hw' => by obtain ⟨y0, y1, y2⟩ := HX.out w' hw'; go_simp⟩) hS ?_
                          simp only [Act.put, List.setIfInBounds_toArray, List.set_cons_zero, List.set_cons_succ]
                          refine take_at (i := 28) 59 (v := .int .i64 (i : Int)) rfl rfl (by kernel_rfl) (by kernel_rfl) (by kernel_rfl) (fun _ _ _ h => h) (Or.inl ⟨by rfl, fun w' hw' => by go_simp⟩) hS ?_
                          simp only [Act.put, List.setIfInBounds_toArray, List.set_cons_zero, List.set_cons_succ]
                          refine take_at (i := 29) 60 (v := .bool false) rfl rfl (by kernel_rfl) (by kernel_rfl) (by kernel_rfl) (fun _ _ _ h => h) (Or.inl ⟨by rfl, fun w' hw' => by go_simp⟩) hS ?_
                          simp only [Act.put, List.setIfInBounds_toArray, List.set_cons_zero, List.set_cons_succ]
                          refine take_at (i := 30) 61 (v := .bool false) rfl rfl (by kernel_rfl) (by kernel_rfl) (by kernel_rfl) (fun _ _ _ h => h) (Or.inl ⟨by rfl, fun w' hw' => by go_simp⟩) hS ?_
                          simp only [Act.put, List.setIfInBounds_toArray, List.set_cons_zero, List.set_cons_succ]
                          refine take_at (i := 31) 62 (v := .slice (some ⟨g, o, none⟩) L.length c) rfl rfl (by kernel_rfl) (by kernel_rfl) (by kernel_rfl) (fun _ _ _ h => h) (Or.inl ⟨by rfl, fun w' hw' => by go_simp⟩) hS ?_
                          simp only [Act.put, List.setIfInBounds_toArray, List.set_cons_zero, List.set_cons_succ]
                          refine take_at (i := 32) 63 (v := .int .i64 (a : Int)) rfl rfl (by kernel_rfl) (by kernel_rfl) (by kernel_rfl) (fun _ _ _ h => h) (Or.inl ⟨by rfl, fun w' hw' => by go_simp⟩) hS ?_
                          simp only [Act.put, List.setIfInBounds_toArray, List.set_cons_zero, List.set_cons_succ]
                          refine take_at (i := 33) 64 (v := .pointer (some ⟨g, o + a * 3, none⟩)) rfl rfl (by kernel_rfl) (by kernel_rfl) (by kernel_rfl) (fun _ _ _ h => h) (Or.inl ⟨by rfl, fun w' hw' => by go_simp⟩) hS ?_
                          simp only [Act.put, List.setIfInBounds_toArray, List.set_cons_zero, List.set_cons_succ]
                          refine take_at (i := 34) 65 (v := .pointer (some ⟨g, o + a * 3 + 1, none⟩)) rfl rfl (by kernel_rfl) (by kernel_rfl) (by kernel_rfl) (fun _ _ _ h => h) (Or.inl ⟨by rfl, fun w' hw' => by go_simp⟩) hS ?_
                          simp only [Act.put, List.setIfInBounds_toArray, List.set_cons_zero, List.set_cons_succ]
                          refine take_at (i := 35) 66 (v := .int .i64 (x.2.1 : Nat)) rfl rfl (by kernel_rfl) (by kernel_rfl) (by kernel_rfl) (fun _ _ _ h => h) (Or.inl ⟨by rfl, fun w' hw' => by obtain ⟨y0, y1, y2⟩ := HX.out w' hw'; go_simp⟩) hS ?_
                          simp only [Act.put, List.setIfInBounds_toArray, List.set_cons_zero, List.set_cons_succ]
                          refine take_at (i := 36) 67 (v := .int .i64 (i : Int)) rfl rfl (by kernel_rfl) (by kernel_rfl) (by kernel_rfl) (fun _ _ _ h => h) (Or.inl ⟨by rfl, fun w' hw' => by go_simp⟩) hS ?_
                          simp only [Act.put, List.setIfInBounds_toArray, List.set_cons_zero, List.set_cons_succ]
                          refine take_at (i := 37) 68 (v := .bool true) rfl rfl (by kernel_rfl) (by kernel_rfl) (by kernel_rfl) (fun _ _ _ h => h) (Or.inl ⟨by rfl, fun w' hw' => by go_simp⟩) hS ?_
                          simp only [Act.put, List.setIfInBounds_toArray, List.set_cons_zero, List.set_cons_succ]
                          refine take_at (i := 38) 69 (v := .bool true) rfl rfl (by kernel_rfl) (by kernel_rfl) (by kernel_rfl) (fun _ _ _ h => h) (Or.inl ⟨by rfl, fun w' hw' => by go_simp⟩) hS ?_
                          simp only [Act.put, List.setIfInBounds_toArray, List.set_cons_zero, List.set_cons_succ]
                          refine take_at (i := 39) 70 (v := .slice (some ⟨g, o, none⟩) L.length c) rfl rfl (by kernel_rfl) (by kernel_rfl) (by kernel_rfl) (fun _ _ _ h => h) (Or.inl ⟨by rfl, fun w' hw' => by go_simp⟩) hS ?_
                          simp only [Act.put, List.setIfInBounds_toArray, List.set_cons_zero, List.set_cons_succ]
                          refine take_at (i := 40) 71 (v := .int .i64 (a : Int)) rfl rfl (by kernel_rfl) (by kernel_rfl) (by kernel_rfl) (fun _ _ _ h => h) (Or.inl ⟨by rfl, fun w' hw' => by go_simp⟩) hS ?_
                          simp only [Act.put, List.setIfInBounds_toArray, List.set_cons_zero, List.set_cons_succ]
                          refine take_at (i := 41) 72 (v := .pointer (some ⟨g, o + a * 3, none⟩)) rfl rfl (by kernel_rfl) (by kernel_rfl) (by kernel_rfl) (fun _ _ _ h => h) (Or.inl ⟨by rfl, fun w' hw' => by go_simp⟩) hS ?_
                          simp only [Act.put, List.setIfInBounds_toArray, List.set_cons_zero, List.set_cons_succ]
                          refine take_at (i := 42) 73 (v := .pointer (some ⟨g, o + a * 3 + 2, none⟩)) rfl rfl (by kernel_rfl) (by kernel_rfl) (by kernel_rfl) (fun _ _ _ h => h) (Or.inl ⟨by rfl, fun w' hw' => by go_simp⟩) hS ?_
                          simp only [Act.put, List.setIfInBounds_toArray, List.set_cons_zero, List.set_cons_succ]
                          refine take_at (i := 43) 74 (v := .int .i64 (x.2.2 : Nat)) rfl rfl (by kernel_rfl) (by kernel_rfl) (by kernel_rfl) (fun _ _ _ h => h) (Or.inl ⟨by rfl, fun w' hw' => by obtain ⟨y0, y1, y2⟩ := HX.out w' hw'; go_simp⟩) hS ?_
                          simp only [Act.put, List.setIfInBounds_toArray, List.set_cons_zero, List.set_cons_succ]
                          refine take_at (i := 44) 75 (v := .int .i64 (j : Int)) rfl rfl (by kernel_rfl) (by kernel_rfl) (by kernel_rfl) (fun _ _ _ h => h) (Or.inl ⟨by rfl, fun w' hw' => by go_simp⟩) hS ?_
                          simp only [Act.put, List.setIfInBounds_toArray, List.set_cons_zero, List.set_cons_succ]
                          refine take_at (i := 45) 76 (v := .bool true) rfl rfl (by kernel_rfl) (by kernel_rfl) (by kernel_rfl) (fun _ _ _ h => h) (Or.inl ⟨by rfl, fun w' hw' => by go_simp⟩) hS ?_
                          simp only [Act.put, List.setIfInBounds_toArray, List.set_cons_zero, List.set_cons_succ]
                          refine take_at (i := 46) 77 (v := .bool true) rfl rfl (by kernel_rfl) (by kernel_rfl) (by kernel_rfl) (fun _ _ _ h => h) (Or.inl ⟨by rfl, fun w' hw' => by go_simp⟩) hS ?_
                          simp only [Act.put, List.setIfInBounds_toArray, List.set_cons_zero, List.set_cons_succ]
                          refine take_at (i := 47) 78 (v := .bool true) rfl rfl (by kernel_rfl) (by kernel_rfl) (by kernel_rfl) (fun _ _ _ h => h) (Or.inl ⟨by rfl, fun w' hw' => by go_simp⟩) hS ?_
                          simp only [Act.put, List.setIfInBounds_toArray, List.set_cons_zero, List.set_cons_succ]
                          refine take_at (i := 48) 79 (v := .bool true) rfl rfl (by kernel_rfl) (by kernel_rfl) (by kernel_rfl) (fun _ _ _ h => h) (Or.inl ⟨by rfl, fun w' hw' => by go_simp⟩) hS ?_
                          simp only [Act.put, List.setIfInBounds_toArray, List.set_cons_zero, List.set_cons_succ]
                          refine take_at (i := 49) 80 (v := .bool true) rfl rfl (by kernel_rfl) (by kernel_rfl) (by kernel_rfl) (fun _ _ _ h => h) (Or.inl ⟨by rfl, fun w' hw' => by go_simp⟩) hS ?_
                          simp only [Act.put, List.setIfInBounds_toArray, List.set_cons_zero, List.set_cons_succ]
                          refine take_at (i := 50) 81 (v := .bool true) rfl rfl (by kernel_rfl) (by kernel_rfl) (by kernel_rfl) (fun _ _ _ h => h) (Or.inl ⟨by rfl, fun w' hw' => by go_simp⟩) hS ?_
                          simp only [Act.put, List.setIfInBounds_toArray, List.set_cons_zero, List.set_cons_succ]
                          refine wpAnyH_done (by kernel_rfl) ?_ _
                          go_wp2_with fail
                          go_meet
                          case rel =>
                            have hl : ltP x (P, i, j) = true := by have h1 : x.1 = P := HC2.out; have h2 : x.2.1 = i := HC4.out; rw [ltP_iff]; simp only; omega
                            exact ⟨true, rfl, ⟨fun _ => HUP.out x HXX.out hl, fun h => (by cases h)⟩, hS⟩
                        · have d9 : decide ((x.2.2 : Int) < (j : Int)) = false := decide_eq_false (by omega)
                          have da : decide (x.2.2 < j) = false := decide_eq_false c5
                          refine wp_region_held_drew (S := Off (fun _ => False) wr) (by kernel_rfl) ((Off.refl _ wr).drew) (fun hS => ?_)
                          refine take_at (i := 0) 31 (v := .int .i64 (a : Int)) rfl rfl (by kernel_rfl) (by kernel_rfl) (by kernel_rfl) (fun _ _ _ h => h) (Or.inl ⟨by rfl, fun w' hw' => by go_simp⟩) hS ?_
                          simp only [Act.put, List.setIfInBounds_toArray, List.set_cons_zero, List.set_cons_succ]
                          refine take_at (i := 1) 32 (v := .slice (some ⟨g, o, none⟩) L.length c) rfl rfl (by kernel_rfl) (by kernel_rfl) (by kernel_rfl) (fun _ _ _ h => h) (Or.inl ⟨by rfl, fun w' hw' => by go_simp⟩) hS ?_
                          simp only [Act.put, List.setIfInBounds_toArray, List.set_cons_zero, List.set_cons_succ]
                          refine take_at (i := 2) 33 (v := .int .i64 (L.length : Int)) rfl rfl (by kernel_rfl) (by kernel_rfl) (by kernel_rfl) (fun _ _ _ h => h) (Or.inl ⟨by rfl, fun w' hw' => by go_simp⟩) hS ?_
                          simp only [Act.put, List.setIfInBounds_toArray, List.set_cons_zero, List.set_cons_succ]
                          refine take_at (i := 3) 34 (v := .bool true) rfl rfl (by kernel_rfl) (by kernel_rfl) (by kernel_rfl) (fun _ _ _ h => h) (Or.inl ⟨by rfl, fun w' hw' => by go_simp⟩) hS ?_
                          simp only [Act.put, List.setIfInBounds_toArray, List.set_cons_zero, List.set_cons_succ]
                          refine take_at (i := 4) 35 (v := .bool true) rfl rfl (by kernel_rfl) (by kernel_rfl) (by kernel_rfl) (fun _ _ _ h => h) (Or.inl ⟨by rfl, fun w' hw' => by go_simp⟩) hS ?_
                          simp only [Act.put, List.setIfInBounds_toArray, List.set_cons_zero, List.set_cons_succ]
                          refine take_at (i := 5) 36 (v := .slice (some ⟨g, o, none⟩) L.length c) rfl rfl (by kernel_rfl) (by kernel_rfl) (by kernel_rfl) (fun _ _ _ h => h) (Or.inl ⟨by rfl, fun w' hw' => by go_simp⟩) hS ?_
                          simp only [Act.put, List.setIfInBounds_toArray, List.set_cons_zero, List.set_cons_succ]
                          refine take_at (i := 6) 37 (v := .int .i64 (a : Int)) rfl rfl (by kernel_rfl) (by kernel_rfl) (by kernel_rfl) (fun _ _ _ h => h) (Or.inl ⟨by rfl, fun w' hw' => by go_simp⟩) hS ?_
                          simp only [Act.put, List.setIfInBounds_toArray, List.set_cons_zero, List.set_cons_succ]
                          refine take_at (i := 7) 38 (v := .pointer (some ⟨g, o + a * 3, none⟩)) rfl rfl (by kernel_rfl) (by kernel_rfl) (by kernel_rfl) (fun _ _ _ h => h) (Or.inl ⟨by rfl, fun w' hw' => by go_simp⟩) hS ?_
                          simp only [Act.put, List.setIfInBounds_toArray, List.set_cons_zero, List.set_cons_succ]
                          refine take_at (i := 8) 39 (v := .pointer (some ⟨g, o + a * 3, none⟩)) rfl rfl (by kernel_rfl) (by kernel_rfl) (by kernel_rfl) (fun _ _ _ h => h) (Or.inl ⟨by rfl, fun w' hw' => by go_simp⟩) hS ?_
                          simp only [Act.put, List.setIfInBounds_toArray, List.set_cons_zero, List.set_cons_succ]
                          refine take_at (i := 9) 40 (v := .int .u32 (x.1 : Nat)) rfl rfl (by kernel_rfl) (by kernel_rfl) (by kernel_rfl) (fun _ _ _ h => h) (Or.inl ⟨by rfl, fun w' hw' => by obtain ⟨y0, y1, y2⟩ := HX.out w' hw'; go_simp⟩) hS ?_
                          simp only [Act.put, List.setIfInBounds_toArray, List.set_cons_zero, List.set_cons_succ]
                          refine take_at (i := 10) 41 (v := .pointer (some ⟨q, 0, none⟩)) rfl rfl (by kernel_rfl) (by kernel_rfl) (by kernel_rfl) (fun _ _ _ h => h) (Or.inl ⟨by rfl, fun w' hw' => by go_simp⟩) hS ?_
                          simp only [Act.put, List.setIfInBounds_toArray, List.set_cons_zero, List.set_cons_succ]
                          refine take_at (i := 11) 42 (v := .int .u32 (P : Nat)) rfl rfl (by kernel_rfl) (by kernel_rfl) (by kernel_rfl) (fun _ _ _ h => h) (Or.inl ⟨by rfl, fun w' hw' => by have y0 := HQ.out w' hw'; go_simp⟩) hS ?_
                          simp only [Act.put, List.setIfInBounds_toArray, List.set_cons_zero, List.set_cons_succ]
                          refine take_at (i := 12) 43 (v := .bool false) rfl rfl (by kernel_rfl) (by kernel_rfl) (by kernel_rfl) (fun _ _ _ h => h) (Or.inl ⟨by rfl, fun w' hw' => by go_simp⟩) hS ?_
                          simp only [Act.put, List.setIfInBounds_toArray, List.set_cons_zero, List.set_cons_succ]
                          refine take_at (i := 13) 44 (v := .bool false) rfl rfl (by kernel_rfl) (by kernel_rfl) (by kernel_rfl) (fun _ _ _ h => h) (Or.inl ⟨by rfl, fun w' hw' => by go_simp⟩) hS ?_
                          simp only [Act.put, List.setIfInBounds_toArray, List.set_cons_zero, List.set_cons_succ]
                          refine take_at (i := 14) 45 (v := .slice (some ⟨g, o, none⟩) L.length c) rfl rfl (by kernel_rfl) (by kernel_rfl) (by kernel_rfl) (fun _ _ _ h => h) (Or.inl ⟨by rfl, fun w' hw' => by go_simp⟩) hS ?_
                          simp only [Act.put, List.setIfInBounds_toArray, List.set_cons_zero, List.set_cons_succ]
                          refine take_at (i := 15) 46 (v := .int .i64 (a : Int)) rfl rfl (by kernel_rfl) (by kernel_rfl) (by kernel_rfl) (fun _ _ _ h => h) (Or.inl ⟨by rfl, fun w' hw' => by go_simp⟩) hS ?_
                          simp only [Act.put, List.setIfInBounds_toArray, List.set_cons_zero, List.set_cons_succ]
                          refine take_at (i := 16) 47 (v := .pointer (some ⟨g, o + a * 3, none⟩)) rfl rfl (by kernel_rfl) (by kernel_rfl) (by kernel_rfl) (fun _ _ _ h => h) (Or.inl ⟨by rfl, fun w' hw' => by go_simp⟩) hS ?_
                          simp only [Act.put, List.setIfInBounds_toArray, List.set_cons_zero, List.set_cons_succ]
                          refine take_at (i := 17) 48 (v := .pointer (some ⟨g, o + a * 3, none⟩)) rfl rfl (by kernel_rfl) (by kernel_rfl) (by kernel_rfl) (fun _ _ _ h => h) (Or.inl ⟨by rfl, fun w' hw' => by go_simp⟩) hS ?_
                          simp only [Act.put, List.setIfInBounds_toArray, List.set_cons_zero, List.set_cons_succ]
                          refine take_at (i := 18) 49 (v := .int .u32 (x.1 : Nat)) rfl rfl (by kernel_rfl) (by kernel_rfl) (by kernel_rfl) (fun _ _ _ h => h) (Or.inl ⟨by rfl, fun w' hw' => by obtain ⟨y0, y1, y2⟩ := HX.out w' hw'; go_simp⟩) hS ?_
                          simp only [Act.put, List.setIfInBounds_toArray, List.set_cons_zero, List.set_cons_succ]
                          refine take_at (i := 19) 50 (v := .pointer (some ⟨q, 0, none⟩)) rfl rfl (by kernel_rfl) (by kernel_rfl) (by kernel_rfl) (fun _ _ _ h => h) (Or.inl ⟨by rfl, fun w' hw' => by go_simp⟩) hS ?_
                          simp only [Act.put, List.setIfInBounds_toArray, List.set_cons_zero, List.set_cons_succ]
                          refine take_at (i := 20) 51 (v := .int .u32 (P : Nat)) rfl rfl (by kernel_rfl) (by kernel_rfl) (by kernel_rfl) (fun _ _ _ h => h) (Or.inl ⟨by rfl, fun w' hw' => by have y0 := HQ.out w' hw'; go_simp⟩) hS ?_
                          simp only [Act.put, List.setIfInBounds_toArray, List.set_cons_zero, List.set_cons_succ]
                          refine take_at (i := 21) 52 (v := .bool true) rfl rfl (by kernel_rfl) (by kernel_rfl) (by kernel_rfl) (fun _ _ _ h => h) (Or.inl ⟨by rfl, fun w' hw' => by go_simp⟩) hS ?_
                          simp only [Act.put, List.setIfInBounds_toArray, List.set_cons_zero, List.set_cons_succ]
                          refine take_at (i := 22) 53 (v := .bool true) rfl rfl (by kernel_rfl) (by kernel_rfl) (by kernel_rfl) (fun _ _ _ h => h) (Or.inl ⟨by rfl, fun w' hw' => by go_simp⟩) hS ?_
                          simp only [Act.put, List.setIfInBounds_toArray, List.set_cons_zero, List.set_cons_succ]
                          refine take_at (i := 23) 54 (v := .slice (some ⟨g, o, none⟩) L.length c) rfl rfl (by kernel_rfl) (by kernel_rfl) (by kernel_rfl) (fun _ _ _ h => h) (Or.inl ⟨by rfl, fun w' hw' => by go_simp⟩) hS ?_
                          simp only [Act.put, List.setIfInBounds_toArray, List.set_cons_zero, List.set_cons_succ]
                          refine take_at (i := 24) 55 (v := .int .i64 (a : Int)) rfl rfl (by kernel_rfl) (by kernel_rfl) (by kernel_rfl) (fun _ _ _ h => h) (Or.inl ⟨by rfl, fun w' hw' => by go_simp⟩) hS ?_
                          simp only [Act.put, List.setIfInBounds_toArray, List.set_cons_zero, List.set_cons_succ]
                          refine take_at (i := 25) 56 (v := .pointer (some ⟨g, o + a * 3, none⟩)) rfl rfl (by kernel_rfl) (by kernel_rfl) (by kernel_rfl) (fun _ _ _ h => h) (Or.inl ⟨by rfl, fun w' hw' => by go_simp⟩) hS ?_
                          simp only [Act.put, List.setIfInBounds_toArray, List.set_cons_zero, List.set_cons_succ]
                          refine take_at (i := 26) 57 (v := .pointer (some ⟨g, o + a * 3 + 1, none⟩)) rfl rfl (by kernel_rfl) (by kernel_rfl) (by kernel_rfl) (fun _ _ _ h => h) (Or.inl ⟨by rfl, fun w' hw' => by go_simp⟩) hS ?_
                          simp only [Act.put, List.setIfInBounds_toArray, List.set_cons_zero, List.set_cons_succ]
                          refine take_at (i := 27) 58 (v := .int .i64 (x.2.1 : Nat)) rfl rfl (by kernel_rfl) (by kernel_rfl) (by kernel_rfl) (fun _ _ _ h => h) (Or.inl ⟨by rfl, fun w' hw' => by obtain ⟨y0, y1, y2⟩ := HX.out w' hw'; go_simp⟩) hS ?_
                          simp only [Act.put, List.setIfInBounds_toArray, List.set_cons_zero, List.set_cons_succ]
                          refine take_at (i := 28) 59 (v := .int .i64 (i : Int)) rfl rfl (by kernel_rfl) (by kernel_rfl) (by kernel_rfl) (fun _ _ _ h => h) (Or.inl ⟨by rfl, fun w' hw' => by go_simp⟩) hS ?_
                          simp only [Act.put, List.setIfInBounds_toArray, List.set_cons_zero, List.set_cons_succ]
                          refine take_at (i := 29) 60 (v := .bool false) rfl rfl (by kernel_rfl) (by kernel_rfl) (by kernel_rfl) (fun _ _ _ h => h) (Or.inl ⟨by rfl, fun w' hw' => by go_simp⟩) hS ?_
                          simp only [Act.put, List.setIfInBounds_toArray, List.set_cons_zero, List.set_cons_succ]
                          refine take_at (i := 30) 61 (v := .bool false) rfl rfl (by kernel_rfl) (by kernel_rfl) (by kernel_rfl) (fun _ _ _ h => h) (Or.inl ⟨by rfl, fun w' hw' => by go_simp⟩) hS ?_
                          simp only [Act.put, List.setIfInBounds_toArray, List.set_cons_zero, List.set_cons_succ]
                          refine take_at (i := 31) 62 (v := .slice (some ⟨g, o, none⟩) L.length c) rfl rfl (by kernel_rfl) (by kernel_rfl) (by kernel_rfl) (fun _ _ _ h => h) (Or.inl ⟨by rfl, fun w' hw' => by go_simp⟩) hS ?_
                          simp only [Act.put, List.setIfInBounds_toArray, List.set_cons_zero, List.set_cons_succ]
                          refine take_at (i := 32) 63 (v := .int .i64 (a : Int)) rfl rfl (by kernel_rfl) (by kernel_rfl) (by kernel_rfl) (fun _ _ _ h => h) (Or.inl ⟨by rfl, fun w' hw' => by go_simp⟩) hS ?_
                          simp only [Act.put, List.setIfInBounds_toArray, List.set_cons_zero, List.set_cons_succ]
                          refine take_at (i := 33) 64 (v := .pointer (some ⟨g, o + a * 3, none⟩)) rfl rfl (by kernel_rfl) (by kernel_rfl) (by kernel_rfl) (fun _ _ _ h => h) (Or.inl ⟨by rfl, fun w' hw' => by go_simp⟩) hS ?_
                          simp only [Act.put, List.setIfInBounds_toArray, List.set_cons_zero, List.set_cons_succ]
                          refine take_at (i := 34) 65 (v := .pointer (some ⟨g, o + a * 3 + 1, none⟩)) rfl rfl (by kernel_rfl) (by kernel_rfl) (by kernel_rfl) (fun _ _ _ h => h) (Or.inl ⟨by rfl, fun w' hw' => by go_simp⟩) hS ?_
                          simp only [Act.put, List.setIfInBounds_toArray, List.set_cons_zero, List.set_cons_succ]
                          refine take_at (i := 35) 66 (v := .int .i64 (x.2.1 : Nat)) rfl rfl (by kernel_rfl) (by kernel_rfl) (by kernel_rfl) (fun _ _ _ h => h) (Or.inl ⟨by rfl, fun w' hw' => by obtain ⟨y0, y1, y2⟩ := HX.out w' hw'; go_simp⟩) hS ?_
                          simp only [Act.put, List.setIfInBounds_toArray, List.set_cons_zero, List.set_cons_succ]
                          refine take_at (i := 36) 67 (v := .int .i64 (i : Int)) rfl rfl (by kernel_rfl) (by kernel_rfl) (by kernel_rfl) (fun _ _ _ h => h) (Or.inl ⟨by rfl, fun w' hw' => by go_simp⟩) hS ?_
                          simp only [Act.put, List.setIfInBounds_toArray, List.set_cons_zero, List.set_cons_succ]
                          refine take_at (i := 37) 68 (v := .bool true) rfl rfl (by kernel_rfl) (by kernel_rfl) (by kernel_rfl) (fun _ _ _ h => h) (Or.inl ⟨by rfl, fun w' hw' => by go_simp⟩) hS ?_
                          simp only [Act.put, List.setIfInBounds_toArray, List.set_cons_zero, List.set_cons_succ]
                          refine take_at (i := 38) 69 (v := .bool true) rfl rfl (by kernel_rfl) (by kernel_rfl) (by kernel_rfl) (fun _ _ _ h => h) (Or.inl ⟨by rfl, fun w' hw' => by go_simp⟩) hS ?_
                          simp only [Act.put, List.setIfInBounds_toArray, List.set_cons_zero, List.set_cons_succ]
                          refine take_at (i := 39) 70 (v := .slice (some ⟨g, o, none⟩) L.length c) rfl rfl (by kernel_rfl) (by kernel_rfl) (by kernel_rfl) (fun _ _ _ h => h) (Or.inl ⟨by rfl, fun w' hw' => by go_simp⟩) hS ?_
                          simp only [Act.put, List.setIfInBounds_toArray, List.set_cons_zero, List.set_cons_succ]
                          refine take_at (i := 40) 71 (v := .int .i64 (a : Int)) rfl rfl (by kernel_rfl) (by kernel_rfl) (by kernel_rfl) (fun _ _ _ h => h) (Or.inl ⟨by rfl, fun w' hw' => by go_simp⟩) hS ?_
                          simp only [Act.put, List.setIfInBounds_toArray, List.set_cons_zero, List.set_cons_succ]
                          refine take_at (i := 41) 72 (v := .pointer (some ⟨g, o + a * 3, none⟩)) rfl rfl (by kernel_rfl) (by kernel_rfl) (by kernel_rfl) (fun _ _ _ h => h) (Or.inl ⟨by rfl, fun w' hw' => by go_simp⟩) hS ?_
                          simp only [Act.put, List.setIfInBounds_toArray, List.set_cons_zero, List.set_cons_succ]
                          refine take_at (i := 42) 73 (v := .pointer (some ⟨g, o + a * 3 + 2, none⟩)) rfl rfl (by kernel_rfl) (by kernel_rfl) (by kernel_rfl) (fun _ _ _ h => h) (Or.inl ⟨by rfl, fun w' hw' => by go_simp⟩) hS ?_
                          simp only [Act.put, List.setIfInBounds_toArray, List.set_cons_zero, List.set_cons_succ]
                          refine take_at (i := 43) 74 (v := .int .i64 (x.2.2 : Nat)) rfl rfl (by kernel_rfl) (by kernel_rfl) (by kernel_rfl) (fun _ _ _ h => h) (Or.inl ⟨by rfl, fun w' hw' => by obtain ⟨y0, y1, y2⟩ := HX.out w' hw'; go_simp⟩) hS ?_
                          simp only [Act.put, List.setIfInBounds_toArray, List.set_cons_zero, List.set_cons_succ]
                          refine take_at (i := 44) 75 (v := .int .i64 (j : Int)) rfl rfl (by kernel_rfl) (by kernel_rfl) (by kernel_rfl) (fun _ _ _ h => h) (Or.inl ⟨by rfl, fun w' hw' => by go_simp⟩) hS ?_
                          simp only [Act.put, List.setIfInBounds_toArray, List.set_cons_zero, List.set_cons_succ]
                          refine take_at (i := 45) 76 (v := .bool false) rfl rfl (by kernel_rfl) (by kernel_rfl) (by kernel_rfl) (fun _ _ _ h => h) (Or.inl ⟨by rfl, fun w' hw' => by go_simp⟩) hS ?_
                          simp only [Act.put, List.setIfInBounds_toArray, List.set_cons_zero, List.set_cons_succ]
                          refine take_at (i := 46) 77 (v := .bool false) rfl rfl (by kernel_rfl) (by kernel_rfl) (by kernel_rfl) (fun _ _ _ h => h) (Or.inl ⟨by rfl, fun w' hw' => by go_simp⟩) hS ?_
                          simp only [Act.put, List.setIfInBounds_toArray, List.set_cons_zero, List.set_cons_succ]
                          refine take_at (i := 47) 78 (v := .bool false) rfl rfl (by kernel_rfl) (by kernel_rfl) (by kernel_rfl) (fun _ _ _ h => h) (Or.inl ⟨by rfl, fun w' hw' => by go_simp⟩) hS ?_
                          simp only [Act.put, List.setIfInBounds_toArray, List.set_cons_zero, List.set_cons_succ]
                          refine take_at (i := 48) 79 (v := .bool false) rfl rfl (by kernel_rfl) (by kernel_rfl) (by kernel_rfl) (fun _ _ _ h => h) (Or.inl ⟨by rfl, fun w' hw' => by go_simp⟩) hS ?_
                          simp only [Act.put, List.setIfInBounds_toArray, List.set_cons_zero, List.set_cons_succ]
                          refine take_at (i := 49) 80 (v := .bool false) rfl rfl (by kernel_rfl) (by kernel_rfl) (by kernel_rfl) (fun _ _ _ h => h) (Or.inl ⟨by rfl, fun w' hw' => by go_simp⟩) hS ?_
                          simp only [Act.put, List.setIfInBounds_toArray, List.set_cons_zero, List.set_cons_succ]
                          refine take_at (i := 50) 81 (v := .bool false) rfl rfl (by kernel_rfl) (by kernel_rfl) (by kernel_rfl) (fun _ _ _ h => h) (Or.inl ⟨by rfl, fun w' hw' => by go_simp⟩) hS ?_
                          simp only [Act.put, List.setIfInBounds_toArray, List.set_cons_zero, List.set_cons_succ]
                          refine wpAnyH_done (by kernel_rfl) ?_ _
                          go_wp2_with fail
                          go_meet
                          case rel =>
                            have hl : ltP x (P, i, j) = false := by have h1 : x.1 = P := HC2.out; have h2 : x.2.1 = i := HC4.out; rw [ltP_no]; simp only; omega
                            exact ⟨false, rfl, ⟨fun h => (by cases h), fun _ => HDN.out x HXX.out hl⟩, hS⟩
                      · have d7 : ((x.2.1 : Int) == (i : Int)) = false := by simp; omega
                        have d8 : (x.2.1 == i) = false := by simp [c4]
                        refine wp_region_held_drew (S := Off (fun _ => False) wr) (by kernel_rfl) ((Off.refl _ wr).drew) (fun hS => ?_)
                        refine take_at (i := 0) 31 (v := .int .i64 (a : Int)) rfl rfl (by kernel_rfl) (by kernel_rfl) (by kernel_rfl) (fun _ _ _ h => h) (Or.inl ⟨by rfl, fun w' hw' => by go_simp⟩) hS ?_
                        simp only [Act.put, List.setIfInBounds_toArray, List.set_cons_zero, List.set_cons_succ]
                        refine take_at (i := 1) 32 (v := .slice (some ⟨g, o, none⟩) L.length c) rfl rfl (by kernel_rfl) (by kernel_rfl) (by kernel_rfl) (fun _ _ _ h => h) (Or.inl ⟨by rfl, fun w' hw' => by go_simp⟩) hS ?_
                        simp only [Act.put, List.setIfInBounds_toArray, List.set_cons_zero, List.set_cons_succ]
                        refine take_at (i := 2) 33 (v := .int .i64 (L.length : Int)) rfl rfl (by kernel_rfl) (by kernel_rfl) (by kernel_rfl) (fun _ _ _ h => h) (Or.inl ⟨by rfl, fun w' hw' => by go_simp⟩) hS ?_
                        simp only [Act.put, List.setIfInBounds_toArray, List.set_cons_zero, List.set_cons_succ]
                        refine take_at (i := 3) 34 (v := .bool true) rfl rfl (by kernel_rfl) (by kernel_rfl) (by kernel_rfl) (fun _ _ _ h => h) (Or.inl ⟨by rfl, fun w' hw' => by go_simp⟩) hS ?_
                        simp only [Act.put, List.setIfInBounds_toArray, List.set_cons_zero, List.set_cons_succ]
                        refine take_at (i := 4) 35 (v := .bool true) rfl rfl (by kernel_rfl) (by kernel_rfl) (by kernel_rfl) (fun _ _ _ h => h) (Or.inl ⟨by rfl, fun w' hw' => by go_simp⟩) hS ?_
                        simp only [Act.put, List.setIfInBounds_toArray, List.set_cons_zero, List.set_cons_succ]
                        refine take_at (i := 5) 36 (v := .slice (some ⟨g, o, none⟩) L.length c) rfl rfl (by kernel_rfl) (by kernel_rfl) (by kernel_rfl) (fun _ _ _ h => h) (Or.inl ⟨by rfl, fun w' hw' => by go_simp⟩) hS ?_
                        simp only [Act.put, List.setIfInBounds_toArray, List.set_cons_zero, List.set_cons_succ]
                        refine take_at (i := 6) 37 (v := .int .i64 (a : Int)) rfl rfl (by kernel_rfl) (by kernel_rfl) (by kernel_rfl) (fun _ _ _ h => h) (Or.inl ⟨by rfl, fun w' hw' => by go_simp⟩) hS ?_
                        simp only [Act.put, List.setIfInBounds_toArray, List.set_cons_zero, List.set_cons_succ]
                        refine take_at (i := 7) 38 (v := .pointer (some ⟨g, o + a * 3, none⟩)) rfl rfl (by kernel_rfl) (by kernel_rfl) (by kernel_rfl) (fun _ _ _ h => h) (Or.inl ⟨by rfl, fun w' hw' => by go_simp⟩) hS ?_
                        simp only [Act.put, List.setIfInBounds_toArray, List.set_cons_zero, List.set_cons_succ]
                        refine take_at (i := 8) 39 (v := .pointer (some ⟨g, o + a * 3, none⟩)) rfl rfl (by kernel_rfl) (by kernel_rfl) (by kernel_rfl) (fun _ _ _ h => h) (Or.inl ⟨by rfl, fun w' hw' => by go_simp⟩) hS ?_
                        simp only [Act.put, List.setIfInBounds_toArray, List.set_cons_zero, List.set_cons_succ]
                        refine take_at (i := 9) 40 (v := .int .u32 (x.1 : Nat)) rfl rfl (by kernel_rfl) (by kernel_rfl) (by kernel_rfl) (fun _ _ _ h => h) (Or.inl ⟨by rfl, fun w' hw' => by obtain ⟨y0, y1, y2⟩ := HX.out w' hw'; go_simp⟩) hS ?_
                        simp only [Act.put, List.setIfInBounds_toArray, List.set_cons_zero, List.set_cons_succ]
                        refine take_at (i := 10) 41 (v := .pointer (some ⟨q, 0, none⟩)) rfl rfl (by kernel_rfl) (by kernel_rfl) (by kernel_rfl) (fun _ _ _ h => h) (Or.inl ⟨by rfl, fun w' hw' => by go_simp⟩) hS ?_
                        simp only [Act.put, List.setIfInBounds_toArray, List.set_cons_zero, List.set_cons_succ]
                        refine take_at (i := 11) 42 (v := .int .u32 (P : Nat)) rfl rfl (by kernel_rfl) (by kernel_rfl) (by kernel_rfl) (fun _ _ _ h => h) (Or.inl ⟨by rfl, fun w' hw' => by have y0 := HQ.out w' hw'; go_simp⟩) hS ?_
                        simp only [Act.put, List.setIfInBounds_toArray, List.set_cons_zero, List.set_cons_succ]
                        refine take_at (i := 12) 43 (v := .bool false) rfl rfl (by kernel_rfl) (by kernel_rfl) (by kernel_rfl) (fun _ _ _ h => h) (Or.inl ⟨by rfl, fun w' hw' => by go_simp⟩) hS ?_
                        simp only [Act.put, List.setIfInBounds_toArray, List.set_cons_zero, List.set_cons_succ]
                        refine take_at (i := 13) 44 (v := .bool false) rfl rfl (by kernel_rfl) (by kernel_rfl) (by kernel_rfl) (fun _ _ _ h => h) (Or.inl ⟨by rfl, fun w' hw' => by go_simp⟩) hS ?_
                        simp only [Act.put, List.setIfInBounds_toArray, List.set_cons_zero, List.set_cons_succ]
                        refine take_at (i := 14) 45 (v := .slice (some ⟨g, o, none⟩) L.length c) rfl rfl (by kernel_rfl) (by kernel_rfl) (by kernel_rfl) (fun _ _ _ h => h) (Or.inl ⟨by rfl, fun w' hw' => by go_simp⟩) hS ?_
                        simp only [Act.put, List.setIfInBounds_toArray, List.set_cons_zero, List.set_cons_succ]
                        refine take_at (i := 15) 46 (v := .int .i64 (a : Int)) rfl rfl (by kernel_rfl) (by kernel_rfl) (by kernel_rfl) (fun _ _ _ h => h) (Or.inl ⟨by rfl, fun w' hw' => by go_simp⟩) hS ?_
                        simp only [Act.put, List.setIfInBounds_toArray, List.set_cons_zero, List.set_cons_succ]
                        refine take_at (i := 16) 47 (v := .pointer (some ⟨g, o + a * 3, none⟩)) rfl rfl (by kernel_rfl) (by kernel_rfl) (by kernel_rfl) (fun _ _ _ h => h) (Or.inl ⟨by rfl, fun w' hw' => by go_simp⟩) hS ?_
                        simp only [Act.put, List.setIfInBounds_toArray, List.set_cons_zero, List.set_cons_succ]
                        refine take_at (i := 17) 48 (v := .pointer (some ⟨g, o + a * 3, none⟩)) rfl rfl (by kernel_rfl) (by kernel_rfl) (by kernel_rfl) (fun _ _ _ h => h) (Or.inl ⟨by rfl, fun w' hw' => by go_simp⟩) hS ?_
                        simp only [Act.put, List.setIfInBounds_toArray, List.set_cons_zero, List.set_cons_succ]
                        refine take_at (i := 18) 49 (v := .int .u32 (x.1 : Nat)) rfl rfl (by kernel_rfl) (by kernel_rfl) (by kernel_rfl) (fun _ _ _ h => h) (Or.inl ⟨by rfl, fun w' hw' => by obtain ⟨y0, y1, y2⟩ := HX.out w' hw'; go_simp⟩) hS ?_
                        simp only [Act.put, List.setIfInBounds_toArray, List.set_cons_zero, List.set_cons_succ]
                        refine take_at (i := 19) 50 (v := .pointer (some ⟨q, 0, none⟩)) rfl rfl (by kernel_rfl) (by kernel_rfl) (by kernel_rfl) (fun _ _ _ h => h) (Or.inl ⟨by rfl, fun w' hw' => by go_simp⟩) hS ?_
                        simp only [Act.put, List.setIfInBounds_toArray, List.set_cons_zero, List.set_cons_succ]
                        refine take_at (i := 20) 51 (v := .int .u32 (P : Nat)) rfl rfl (by kernel_rfl) (by kernel_rfl) (by kernel_rfl) (fun _ _ _ h => h) (Or.inl ⟨by rfl, fun w' hw' => by have y0 := HQ.out w' hw'; go_simp⟩) hS ?_
                        simp only [Act.put, List.setIfInBounds_toArray, List.set_cons_zero, List.set_cons_succ]
                        refine take_at (i := 21) 52 (v := .bool true) rfl rfl (by kernel_rfl) (by kernel_rfl) (by kernel_rfl) (fun _ _ _ h => h) (Or.inl ⟨by rfl, fun w' hw' => by go_simp⟩) hS ?_
                        simp only [Act.put, List.setIfInBounds_toArray, List.set_cons_zero, List.set_cons_succ]
                        refine take_at (i := 22) 53 (v := .bool true) rfl rfl (by kernel_rfl) (by kernel_rfl) (by kernel_rfl) (fun _ _ _ h => h) (Or.inl ⟨by rfl, fun w' hw' => by go_simp⟩) hS ?_
                        simp only [Act.put, List.setIfInBounds_toArray, List.set_cons_zero, List.set_cons_succ]
                        refine take_at (i := 23) 54 (v := .slice (some ⟨g, o, none⟩) L.length c) rfl rfl (by kernel_rfl) (by kernel_rfl) (by kernel_rfl) (fun _ _ _ h => h) (Or.inl ⟨by rfl, fun w' hw' => by go_simp⟩) hS ?_
                        simp only [Act.put, List.setIfInBounds_toArray, List.set_cons_zero, List.set_cons_succ]
                        refine take_at (i := 24) 55 (v := .int .i64 (a : Int)) rfl rfl (by kernel_rfl) (by kernel_rfl) (by kernel_rfl) (fun _ _ _ h => h) (Or.inl ⟨by rfl, fun w' hw' => by go_simp⟩) hS ?_
                        simp only [Act.put, List.setIfInBounds_toArray, List.set_cons_zero, List.set_cons_succ]
                        refine take_at (i := 25) 56 (v := .pointer (some ⟨g, o + a * 3, none⟩)) rfl rfl (by kernel_rfl) (by kernel_rfl) (by kernel_rfl) (fun _ _ _ h => h) (Or.inl ⟨by rfl, fun w' hw' => by go_simp⟩) hS ?_
                        simp only [Act.put, List.setIfInBounds_toArray, List.set_cons_zero, List.set_cons_succ]
                        refine take_at (i := 26) 57 (v := .pointer (some ⟨g, o + a * 3 + 1, none⟩)) rfl rfl (by kernel_rfl) (by kernel_rfl) (by kernel_rfl) (fun _ _ _ h => h) (Or.inl ⟨by rfl, fun w' hw' => by go_simp⟩) hS ?_
                        simp only [Act.put, List.setIfInBounds_toArray, List.set_cons_zero, List.set_cons_succ]
                        refine take_at (i := 27) 58 (v := .int .i64 (x.2.1 : Nat)) rfl rfl (by kernel_rfl) (by kernel_rfl) (by kernel_rfl) (fun _ _ _ h => h) (Or.inl ⟨by rfl, fun w' hw' => by obtain ⟨y0, y1, y2⟩ := HX.out w' hw'; go_simp⟩) hS ?_
                        simp only [Act.put, List.setIfInBounds_toArray, List.set_cons_zero, List.set_cons_succ]
                        refine take_at (i := 28) 59 (v := .int .i64 (i : Int)) rfl rfl (by kernel_rfl) (by kernel_rfl) (by kernel_rfl) (fun _ _ _ h => h) (Or.inl ⟨by rfl, fun w' hw' => by go_simp⟩) hS ?_
                        simp only [Act.put, List.setIfInBounds_toArray, List.set_cons_zero, List.set_cons_succ]
                        refine take_at (i := 29) 60 (v := .bool false) rfl rfl (by kernel_rfl) (by kernel_rfl) (by kernel_rfl) (fun _ _ _ h => h) (Or.inl ⟨by rfl, fun w' hw' => by go_simp⟩) hS ?_
                        simp only [Act.put, List.setIfInBounds_toArray, List.set_cons_zero, List.set_cons_succ]
                        refine take_at (i := 30) 61 (v := .bool false) rfl rfl (by kernel_rfl) (by kernel_rfl) (by kernel_rfl) (fun _ _ _ h => h) (Or.inl ⟨by rfl, fun w' hw' => by go_simp⟩) hS ?_
                        simp only [Act.put, List.setIfInBounds_toArray, List.set_cons_zero, List.set_cons_succ]
                        refine take_at (i := 31) 62 (v := .slice (some ⟨g, o, none⟩) L.length c) rfl rfl (by kernel_rfl) (by kernel_rfl) (by kernel_rfl) (fun _ _ _ h => h) (Or.inl ⟨by rfl, fun w' hw' => by go_simp⟩) hS ?_
                        simp only [Act.put, List.setIfInBounds_toArray, List.set_cons_zero, List.set_cons_succ]
                        refine take_at (i := 32) 63 (v := .int .i64 (a : Int)) rfl rfl (by kernel_rfl) (by kernel_rfl) (by kernel_rfl) (fun _ _ _ h => h) (Or.inl ⟨by rfl, fun w' hw' => by go_simp⟩) hS ?_
                        simp only [Act.put, List.setIfInBounds_toArray, List.set_cons_zero, List.set_cons_succ]
                        refine take_at (i := 33) 64 (v := .pointer (some ⟨g, o + a * 3, none⟩)) rfl rfl (by kernel_rfl) (by kernel_rfl) (by kernel_rfl) (fun _ _ _ h => h) (Or.inl ⟨by rfl, fun w' hw' => by go_simp⟩) hS ?_
                        simp only [Act.put, List.setIfInBounds_toArray, List.set_cons_zero, List.set_cons_succ]
                        refine take_at (i := 34) 65 (v := .pointer (some ⟨g, o + a * 3 + 1, none⟩)) rfl rfl (by kernel_rfl) (by kernel_rfl) (by kernel_rfl) (fun _ _ _ h => h) (Or.inl ⟨by rfl, fun w' hw' => by go_simp⟩) hS ?_
                        simp only [Act.put, List.setIfInBounds_toArray, List.set_cons_zero, List.set_cons_succ]
                        refine take_at (i := 35) 66 (v := .int .i64 (x.2.1 : Nat)) rfl rfl (by kernel_rfl) (by kernel_rfl) (by kernel_rfl) (fun _ _ _ h => h) (Or.inl ⟨by rfl, fun w' hw' => by obtain ⟨y0, y1, y2⟩ := HX.out w' hw'; go_simp⟩) hS ?_
                        simp only [Act.put, List.setIfInBounds_toArray, List.set_cons_zero, List.set_cons_succ]
                        refine take_at (i := 36) 67 (v := .int .i64 (i : Int)) rfl rfl (by kernel_rfl) (by kernel_rfl) (by kernel_rfl) (fun _ _ _ h => h) (Or.inl ⟨by rfl, fun w' hw' => by go_simp⟩) hS ?_
                        simp only [Act.put, List.setIfInBounds_toArray, List.set_cons_zero, List.set_cons_succ]
                        refine take_at (i := 37) 68 (v := .bool false) rfl rfl (by kernel_rfl) (by kernel_rfl) (by kernel_rfl) (fun _ _ _ h => h) (Or.inl ⟨by rfl, fun w' hw' => by go_simp⟩) hS ?_
                        simp only [Act.put, List.setIfInBounds_toArray, List.set_cons_zero, List.set_cons_succ]
                        refine take_at (i := 38) 69 (v := .bool false) rfl rfl (by kernel_rfl) (by kernel_rfl) (by kernel_rfl) (fun _ _ _ h => h) (Or.inl ⟨by rfl, fun w' hw' => by go_simp⟩) hS ?_
                        simp only [Act.put, List.setIfInBounds_toArray, List.set_cons_zero, List.set_cons_succ]
                        refine take_at (i := 39) 70 (v := undef) rfl rfl (by kernel_rfl) (by kernel_rfl) (by kernel_rfl) (fun _ _ _ h => h) (Or.inr ⟨by rfl, rfl⟩) hS ?_
                        simp only [Act.put, List.setIfInBounds_toArray, List.set_cons_zero, List.set_cons_succ]
                        refine take_at (i := 40) 71 (v := undef) rfl rfl (by kernel_rfl) (by kernel_rfl) (by kernel_rfl) (fun _ _ _ h => h) (Or.inr ⟨by rfl, rfl⟩) hS ?_
                        simp only [Act.put, List.setIfInBounds_toArray, List.set_cons_zero, List.set_cons_succ]
                        refine take_at (i := 41) 72 (v := undef) rfl rfl (by kernel_rfl) (by kernel_rfl) (by kernel_rfl) (fun _ _ _ h => h) (Or.inr ⟨by rfl, rfl⟩) hS ?_
                        simp only [Act.put, List.setIfInBounds_toArray, List.set_cons_zero, List.set_cons_succ]
                        refine take_at (i := 42) 73 (v := undef) rfl rfl (by kernel_rfl) (by kernel_rfl) (by kernel_rfl) (fun _ _ _ h => h) (Or.inr ⟨by rfl, rfl⟩) hS ?_
                        simp only [Act.put, List.setIfInBounds_toArray, List.set_cons_zero, List.set_cons_succ]
                        refine take_at (i := 43) 74 (v := undef) rfl rfl (by kernel_rfl) (by kernel_rfl) (by kernel_rfl) (fun _ _ _ h => h) (Or.inr ⟨by rfl, rfl⟩) hS ?_
                        simp only [Act.put, List.setIfInBounds_toArray, List.set_cons_zero, List.set_cons_succ]
                        refine take_at (i := 44) 75 (v := undef) rfl rfl (by kernel_rfl) (by kernel_rfl) (by kernel_rfl) (fun _ _ _ h => h) (Or.inr ⟨by rfl, rfl⟩) hS ?_
                        simp only [Act.put, List.setIfInBounds_toArray, List.set_cons_zero, List.set_cons_succ]
                        refine take_at (i := 45) 76 (v := undef) rfl rfl (by kernel_rfl) (by kernel_rfl) (by kernel_rfl) (fun _ _ _ h => h) (Or.inr ⟨by rfl, rfl⟩) hS ?_
                        simp only [Act.put, List.setIfInBounds_toArray, List.set_cons_zero, List.set_cons_succ]
                        refine take_at (i := 46) 77 (v := .bool false) rfl rfl (by kernel_rfl) (by kernel_rfl) (by kernel_rfl) (fun _ _ _ h => h) (Or.inl ⟨by rfl, fun w' hw' => by go_simp⟩) hS ?_
                        simp only [Act.put, List.setIfInBounds_toArray, List.set_cons_zero, List.set_cons_succ]
                        refine take_at (i := 47) 78 (v := .bool false) rfl rfl (by kernel_rfl) (by kernel_rfl) (by kernel_rfl) (fun _ _ _ h => h) (Or.inl ⟨by rfl, fun w' hw' => by go_simp⟩) hS ?_
                        simp only [Act.put, List.setIfInBounds_toArray, List.set_cons_zero, List.set_cons_succ]
                        refine take_at (i := 48) 79 (v := .bool false) rfl rfl (by kernel_rfl) (by kernel_rfl) (by kernel_rfl) (fun _ _ _ h => h) (Or.inl ⟨by rfl, fun w' hw' => by go_simp⟩) hS ?_
                        simp only [Act.put, List.setIfInBounds_toArray, List.set_cons_zero, List.set_cons_succ]
                        refine take_at (i := 49) 80 (v := .bool false) rfl rfl (by kernel_rfl) (by kernel_rfl) (by kernel_rfl) (fun _ _ _ h => h) (Or.inl ⟨by rfl, fun w' hw' => by go_simp⟩) hS ?_
                        simp only [Act.put, List.setIfInBounds_toArray, List.set_cons_zero, List.set_cons_succ]
                        refine take_at (i := 50) 81 (v := .bool false) rfl rfl (by kernel_rfl) (by kernel_rfl) (by kernel_rfl) (fun _ _ _ h => h) (Or.inl ⟨by rfl, fun w' hw' => by go_simp⟩) hS ?_
                        simp only [Act.put, List.setIfInBounds_toArray, List.set_cons_zero, List.set_cons_succ]
                        refine wpAnyH_done (by kernel_rfl) ?_ _
                        go_wp2_with fail
                        go_meet
                        case rel =>
                          have hl : ltP x (P, i, j) = false := by have h1 : x.1 = P := HC2.out; rw [ltP_no]; simp only; omega
                          exact ⟨false, rfl, ⟨fun h => (by cases h), fun _ => HDN.out x HXX.out hl⟩, hS⟩
                  · have d3 : ((x.1 : Int) == (P : Int)) = false := by simp; omega
                    have d4 : (x.1 == P) = false := by simp [c2]
                    refine wp_region_held_drew (S := Off (fun _ => False) wr) (by kernel_rfl) ((Off.refl _ wr).drew) (fun hS => ?_)
                    refine take_at (i := 0) 31 (v := .int .i64 (a : Int)) rfl rfl (by kernel_rfl) (by kernel_rfl) (by kernel_rfl) (fun _ _ _ h => h) (Or.inl ⟨by rfl, fun w' hw' => by go_simp⟩) hS ?_
                    simp only [Act.put, List.setIfInBounds_toArray, List.set_cons_zero, List.set_cons_succ]
                    refine take_at (i := 1) 32 (v := .slice (some ⟨g, o, none⟩) L.length c) rfl rfl (by kernel_rfl) (by kernel_rfl) (by kernel_rfl) (fun _ _ _ h => h) (Or.inl ⟨by rfl, fun w' hw' => by go_simp⟩) hS ?_
                    simp only [Act.put, List.setIfInBounds_toArray, List.set_cons_zero, List.set_cons_succ]
                    refine take_at (i := 2) 33 (v := .int .i64 (L.length : Int)) rfl rfl (by kernel_rfl) (by kernel_rfl) (by kernel_rfl) (fun _ _ _ h => h) (Or.inl ⟨by rfl, fun w' hw' => by go_simp⟩) hS ?_
                    simp only [Act.put, List.setIfInBounds_toArray, List.set_cons_zero, List.set_cons_succ]
                    refine take_at (i := 3) 34 (v := .bool true) rfl rfl (by kernel_rfl) (by kernel_rfl) (by kernel_rfl) (fun _ _ _ h => h) (Or.inl ⟨by rfl, fun w' hw' => by go_simp⟩) hS ?_
                    simp only [Act.put, List.setIfInBounds_toArray, List.set_cons_zero, List.set_cons_succ]
                    refine take_at (i := 4) 35 (v := .bool true) rfl rfl (by kernel_rfl) (by kernel_rfl) (by kernel_rfl) (fun _ _ _ h => h) (Or.inl ⟨by rfl, fun w' hw' => by go_simp⟩) hS ?_
                    simp only [Act.put, List.setIfInBounds_toArray, List.set_cons_zero, List.set_cons_succ]
                    refine take_at (i := 5) 36 (v := .slice (some ⟨g, o, none⟩) L.length c) rfl rfl (by kernel_rfl) (by kernel_rfl) (by kernel_rfl) (fun _ _ _ h => h) (Or.inl ⟨by rfl, fun w' hw' => by go_simp⟩) hS ?_
                    simp only [Act.put, List.setIfInBounds_toArray, List.set_cons_zero, List.set_cons_succ]
                    refine take_at (i := 6) 37 (v := .int .i64 (a : Int)) rfl rfl (by kernel_rfl) (by kernel_rfl) (by kernel_rfl) (fun _ _ _ h => h) (Or.inl ⟨by rfl, fun w' hw' => by go_simp⟩) hS ?_
                    simp only [Act.put, List.setIfInBounds_toArray, List.set_cons_zero, List.set_cons_succ]
                    refine take_at (i := 7) 38 (v := .pointer (some ⟨g, o + a * 3, none⟩)) rfl rfl (by kernel_rfl) (by kernel_rfl) (by kernel_rfl) (fun _ _ _ h => h) (Or.inl ⟨by rfl, fun w' hw' => by go_simp⟩) hS ?_
                    simp only [Act.put, List.setIfInBounds_toArray, List.set_cons_zero, List.set_cons_succ]
                    refine take_at (i := 8) 39 (v := .pointer (some ⟨g, o + a * 3, none⟩)) rfl rfl (by kernel_rfl) (by kernel_rfl) (by kernel_rfl) (fun _ _ _ h => h) (Or.inl ⟨by rfl, fun w' hw' => by go_simp⟩) hS ?_
                    simp only [Act.put, List.setIfInBounds_toArray, List.set_cons_zero, List.set_cons_succ]
                    refine take_at (i := 9) 40 (v := .int .u32 (x.1 : Nat)) rfl rfl (by kernel_rfl) (by kernel_rfl) (by kernel_rfl) (fun _ _ _ h => h) (Or.inl ⟨by rfl, fun w' hw' => by obtain ⟨y0, y1, y2⟩ := HX.out w' hw'; go_simp⟩) hS ?_
                    simp only [Act.put, List.setIfInBounds_toArray, List.set_cons_zero, List.set_cons_succ]
                    refine take_at (i := 10) 41 (v := .pointer (some ⟨q, 0, none⟩)) rfl rfl (by kernel_rfl) (by kernel_rfl) (by kernel_rfl) (fun _ _ _ h => h) (Or.inl ⟨by rfl, fun w' hw' => by go_simp⟩) hS ?_
                    simp only [Act.put, List.setIfInBounds_toArray, List.set_cons_zero, List.set_cons_succ]
                    refine take_at (i := 11) 42 (v := .int .u32 (P : Nat)) rfl rfl (by kernel_rfl) (by kernel_rfl) (by kernel_rfl) (fun _ _ _ h => h) (Or.inl ⟨by rfl, fun w' hw' => by have y0 := HQ.out w' hw'; go_simp⟩) hS ?_
                    simp only [Act.put, List.setIfInBounds_toArray, List.set_cons_zero, List.set_cons_succ]
                    refine take_at (i := 12) 43 (v := .bool false) rfl rfl (by kernel_rfl) (by kernel_rfl) (by kernel_rfl) (fun _ _ _ h => h) (Or.inl ⟨by rfl, fun w' hw' => by go_simp⟩) hS ?_
                    simp only [Act.put, List.setIfInBounds_toArray, List.set_cons_zero, List.set_cons_succ]
                    refine take_at (i := 13) 44 (v := .bool false) rfl rfl (by kernel_rfl) (by kernel_rfl) (by kernel_rfl) (fun _ _ _ h => h) (Or.inl ⟨by rfl, fun w' hw' => by go_simp⟩) hS ?_
                    simp only [Act.put, List.setIfInBounds_toArray, List.set_cons_zero, List.set_cons_succ]
                    refine take_at (i := 14) 45 (v := .slice (some ⟨g, o, none⟩) L.length c) rfl rfl (by kernel_rfl) (by kernel_rfl) (by kernel_rfl) (fun _ _ _ h => h) (Or.inl ⟨by rfl, fun w' hw' => by go_simp⟩) hS ?_
                    simp only [Act.put, List.setIfInBounds_toArray, List.set_cons_zero, List.set_cons_succ]
                    refine take_at (i := 15) 46 (v := .int .i64 (a : Int)) rfl rfl (by kernel_rfl) (by kernel_rfl) (by kernel_rfl) (fun _ _ _ h => h) (Or.inl ⟨by rfl, fun w' hw' => by go_simp⟩) hS ?_
                    simp only [Act.put, List.setIfInBounds_toArray, List.set_cons_zero, List.set_cons_succ]
                    refine take_at (i := 16) 47 (v := .pointer (some ⟨g, o + a * 3, none⟩)) rfl rfl (by kernel_rfl) (by kernel_rfl) (by kernel_rfl) (fun _ _ _ h => h) (Or.inl ⟨by rfl, fun w' hw' => by go_simp⟩) hS ?_
                    simp only [Act.put, List.setIfInBounds_toArray, List.set_cons_zero, List.set_cons_succ]
                    refine take_at (i := 17) 48 (v := .pointer (some ⟨g, o + a * 3, none⟩)) rfl rfl (by kernel_rfl) (by kernel_rfl) (by kernel_rfl) (fun _ _ _ h => h) (Or.inl ⟨by rfl, fun w' hw' => by go_simp⟩) hS ?_
                    simp only [Act.put, List.setIfInBounds_toArray, List.set_cons_zero, List.set_cons_succ]
                    refine take_at (i := 18) 49 (v := .int .u32 (x.1 : Nat)) rfl rfl (by kernel_rfl) (by kernel_rfl) (by kernel_rfl) (fun _ _ _ h => h) (Or.inl ⟨by rfl, fun w' hw' => by obtain ⟨y0, y1, y2⟩ := HX.out w' hw'; go_simp⟩) hS ?_
                    simp only [Act.put, List.setIfInBounds_toArray, List.set_cons_zero, List.set_cons_succ]
                    refine take_at (i := 19) 50 (v := .pointer (some ⟨q, 0, none⟩)) rfl rfl (by kernel_rfl) (by kernel_rfl) (by kernel_rfl) (fun _ _ _ h => h) (Or.inl ⟨by rfl, fun w' hw' => by go_simp⟩) hS ?_
                    simp only [Act.put, List.setIfInBounds_toArray, List.set_cons_zero, List.set_cons_succ]
                    refine take_at (i := 20) 51 (v := .int .u32 (P : Nat)) rfl rfl (by kernel_rfl) (by kernel_rfl) (by kernel_rfl) (fun _ _ _ h => h) (Or.inl ⟨by rfl, fun w' hw' => by have y0 := HQ.out w' hw'; go_simp⟩) hS ?_
                    simp only [Act.put, List.setIfInBounds_toArray, List.set_cons_zero, List.set_cons_succ]
                    refine take_at (i := 21) 52 (v := .bool false) rfl rfl (by kernel_rfl) (by kernel_rfl) (by kernel_rfl) (fun _ _ _ h => h) (Or.inl ⟨by rfl, fun w' hw' => by go_simp⟩) hS ?_
                    simp only [Act.put, List.setIfInBounds_toArray, List.set_cons_zero, List.set_cons_succ]
                    refine take_at (i := 22) 53 (v := .bool false) rfl rfl (by kernel_rfl) (by kernel_rfl) (by kernel_rfl) (fun _ _ _ h => h) (Or.inl ⟨by rfl, fun w' hw' => by go_simp⟩) hS ?_
                    simp only [Act.put, List.setIfInBounds_toArray, List.set_cons_zero, List.set_cons_succ]
                    refine take_at (i := 23) 54 (v := undef) rfl rfl (by kernel_rfl) (by kernel_rfl) (by kernel_rfl) (fun _ _ _ h => h) (Or.inr ⟨by rfl, rfl⟩) hS ?_
                    simp only [Act.put, List.setIfInBounds_toArray, List.set_cons_zero, List.set_cons_succ]
                    refine take_at (i := 24) 55 (v := undef) rfl rfl (by kernel_rfl) (by kernel_rfl) (by kernel_rfl) (fun _ _ _ h => h) (Or.inr ⟨by rfl, rfl⟩) hS ?_
                    simp only [Act.put, List.setIfInBounds_toArray, List.set_cons_zero, List.set_cons_succ]
                    refine take_at (i := 25) 56 (v := undef) rfl rfl (by kernel_rfl) (by kernel_rfl) (by kernel_rfl) (fun _ _ _ h => h) (Or.inr ⟨by rfl, rfl⟩) hS ?_
                    simp only [Act.put, List.setIfInBounds_toArray, List.set_cons_zero, List.set_cons_succ]
                    refine take_at (i := 26) 57 (v := undef) rfl rfl (by kernel_rfl) (by kernel_rfl) (by kernel_rfl) (fun _ _ _ h => h) (Or.inr ⟨by rfl, rfl⟩) hS ?_
                    simp only [Act.put, List.setIfInBounds_toArray, List.set_cons_zero, List.set_cons_succ]
                    refine take_at (i := 27) 58 (v := undef) rfl rfl (by kernel_rfl) (by kernel_rfl) (by kernel_rfl) (fun _ _ _ h => h) (Or.inr ⟨by rfl, rfl⟩) hS ?_
                    simp only [Act.put, List.setIfInBounds_toArray, List.set_cons_zero, List.set_cons_succ]
                    refine take_at (i := 28) 59 (v := undef) rfl rfl (by kernel_rfl) (by kernel_rfl) (by kernel_rfl) (fun _ _ _ h => h) (Or.inr ⟨by rfl, rfl⟩) hS ?_
                    simp only [Act.put, List.setIfInBounds_toArray, List.set_cons_zero, List.set_cons_succ]
                    refine take_at (i := 29) 60 (v := undef) rfl rfl (by kernel_rfl) (by kernel_rfl) (by kernel_rfl) (fun _ _ _ h => h) (Or.inr ⟨by rfl, rfl⟩) hS ?_
                    simp only [Act.put, List.setIfInBounds_toArray, List.set_cons_zero, List.set_cons_succ]
                    refine take_at (i := 30) 61 (v := undef) rfl rfl (by kernel_rfl) (by kernel_rfl) (by kernel_rfl) (fun _ _ _ h => h) (Or.inr ⟨by rfl, rfl⟩) hS ?_
                    simp only [Act.put, List.setIfInBounds_toArray, List.set_cons_zero, List.set_cons_succ]
                    refine take_at (i := 31) 62 (v := undef) rfl rfl (by kernel_rfl) (by kernel_rfl) (by kernel_rfl) (fun _ _ _ h => h) (Or.inr ⟨by rfl, rfl⟩) hS ?_
                    simp only [Act.put, List.setIfInBounds_toArray, List.set_cons_zero, List.set_cons_succ]
                    refine take_at (i := 32) 63 (v := undef) rfl rfl (by kernel_rfl) (by kernel_rfl) (by kernel_rfl) (fun _ _ _ h => h) (Or.inr ⟨by rfl, rfl⟩) hS ?_
                    simp only [Act.put, List.setIfInBounds_toArray, List.set_cons_zero, List.set_cons_succ]
                    refine take_at (i := 33) 64 (v := undef) rfl rfl (by kernel_rfl) (by kernel_rfl) (by kernel_rfl) (fun _ _ _ h => h) (Or.inr ⟨by rfl, rfl⟩) hS ?_
                    simp only [Act.put, List.setIfInBounds_toArray, List.set_cons_zero, List.set_cons_succ]
                    refine take_at (i := 34) 65 (v := undef) rfl rfl (by kernel_rfl) (by kernel_rfl) (by kernel_rfl) (fun _ _ _ h => h) (Or.inr ⟨by rfl, rfl⟩) hS ?_
                    simp only [Act.put, List.setIfInBounds_toArray, List.set_cons_zero, List.set_cons_succ]
                    refine take_at (i := 35) 66 (v := undef) rfl rfl (by kernel_rfl) (by kernel_rfl) (by kernel_rfl) (fun _ _ _ h => h) (Or.inr ⟨by rfl, rfl⟩) hS ?_
                    simp only [Act.put, List.setIfInBounds_toArray, List.set_cons_zero, List.set_cons_succ]
                    refine take_at (i := 36) 67 (v := undef) rfl rfl (by kernel_rfl) (by kernel_rfl) (by kernel_rfl) (fun _ _ _ h => h) (Or.inr ⟨by rfl, rfl⟩) hS ?_
                    simp only [Act.put, List.setIfInBounds_toArray, List.set_cons_zero, List.set_cons_succ]
                    refine take_at (i := 37) 68 (v := undef) rfl rfl (by kernel_rfl) (by kernel_rfl) (by kernel_rfl) (fun _ _ _ h => h) (Or.inr ⟨by rfl, rfl⟩) hS ?_
                    simp only [Act.put, List.setIfInBounds_toArray, List.set_cons_zero, List.set_cons_succ]
                    refine take_at (i := 38) 69 (v := undef) rfl rfl (by kernel_rfl) (by kernel_rfl) (by kernel_rfl) (fun _ _ _ h => h) (Or.inr ⟨by rfl, rfl⟩) hS ?_
                    simp only [Act.put, List.setIfInBounds_toArray, List.set_cons_zero, List.set_cons_succ]
                    refine take_at (i := 39) 70 (v := undef) rfl rfl (by kernel_rfl) (by kernel_rfl) (by kernel_rfl) (fun _ _ _ h => h) (Or.inr ⟨by rfl, rfl⟩) hS ?_
                    simp only [Act.put, List.setIfInBounds_toArray, List.set_cons_zero, List.set_cons_succ]
                    refine take_at (i := 40) 71 (v := undef) rfl rfl (by kernel_rfl) (by kernel_rfl) (by kernel_rfl) (fun _ _ _ h => h) (Or.inr ⟨by rfl, rfl⟩) hS ?_
                    simp only [Act.put, List.setIfInBounds_toArray, List.set_cons_zero, List.set_cons_succ]
                    refine take_at (i := 41) 72 (v := undef) rfl rfl (by kernel_rfl) (by kernel_rfl) (by kernel_rfl) (fun _ _ _ h => h) (Or.inr ⟨by rfl, rfl⟩) hS ?_
                    simp only [Act.put, List.setIfInBounds_toArray, List.set_cons_zero, List.set_cons_succ]
                    refine take_at (i := 42) 73 (v := undef) rfl rfl (by kernel_rfl) (by kernel_rfl) (by kernel_rfl) (fun _ _ _ h => h) (Or.inr ⟨by rfl, rfl⟩) hS ?_
                    simp only [Act.put, List.setIfInBounds_toArray, List.set_cons_zero, List.set_cons_succ]
                    refine take_at (i := 43) 74 (v := undef) rfl rfl (by kernel_rfl) (by kernel_rfl) (by kernel_rfl) (fun _ _ _ h => h) (Or.inr ⟨by rfl, rfl⟩) hS ?_
                    simp only [Act.put, List.setIfInBounds_toArray, List.set_cons_zero, List.set_cons_succ]
                    refine take_at (i := 44) 75 (v := undef) rfl rfl (by kernel_rfl) (by kernel_rfl) (by kernel_rfl) (fun _ _ _ h => h) (Or.inr ⟨by rfl, rfl⟩) hS ?_
                    simp only [Act.put, List.setIfInBounds_toArray, List.set_cons_zero, List.set_cons_succ]
                    refine take_at (i := 45) 76 (v := undef) rfl rfl (by kernel_rfl) (by kernel_rfl) (by kernel_rfl) (fun _ _ _ h => h) (Or.inr ⟨by rfl, rfl⟩) hS ?_
                    simp only [Act.put, List.setIfInBounds_toArray, List.set_cons_zero, List.set_cons_succ]
                    refine take_at (i := 46) 77 (v := undef) rfl rfl (by kernel_rfl) (by kernel_rfl) (by kernel_rfl) (fun _ _ _ h => h) (Or.inr ⟨by rfl, rfl⟩) hS ?_
                    simp only [Act.put, List.setIfInBounds_toArray, List.set_cons_zero, List.set_cons_succ]
                    refine take_at (i := 47) 78 (v := undef) rfl rfl (by kernel_rfl) (by kernel_rfl) (by kernel_rfl) (fun _ _ _ h => h) (Or.inr ⟨by rfl, rfl⟩) hS ?_
                    simp only [Act.put, List.setIfInBounds_toArray, List.set_cons_zero, List.set_cons_succ]
                    refine take_at (i := 48) 79 (v := .bool false) rfl rfl (by kernel_rfl) (by kernel_rfl) (by kernel_rfl) (fun _ _ _ h => h) (Or.inl ⟨by rfl, fun w' hw' => by go_simp⟩) hS ?_
                    simp only [Act.put, List.setIfInBounds_toArray, List.set_cons_zero, List.set_cons_succ]
                    refine take_at (i := 49) 80 (v := .bool false) rfl rfl (by kernel_rfl) (by kernel_rfl) (by kernel_rfl) (fun _ _ _ h => h) (Or.inl ⟨by rfl, fun w' hw' => by go_simp⟩) hS ?_
                    simp only [Act.put, List.setIfInBounds_toArray, List.set_cons_zero, List.set_cons_succ]
                    refine take_at (i := 50) 81 (v := .bool false) rfl rfl (by kernel_rfl) (by kernel_rfl) (by kernel_rfl) (fun _ _ _ h => h) (Or.inl ⟨by rfl, fun w' hw' => by go_simp⟩) hS ?_
                    simp only [Act.put, List.setIfInBounds_toArray, List.set_cons_zero, List.set_cons_succ]
                    refine wpAnyH_done (by kernel_rfl) ?_ _
                    go_wp2_with fail
                    go_meet
                    case rel =>
                      have hl : ltP x (P, i, j) = false := by rw [ltP_no]; simp only; omega
                      exact ⟨false, rfl, ⟨fun h => (by cases h), fun _ => HDN.out x HXX.out hl⟩, hS⟩
              · have z1 : decide ((a : Int) < (L.length : Int)) = false := decide_eq_false (by omega)
                have z2 : decide (a < L.length) = false := decide_eq_false hal
                have HEND : Hid (a = cntP (P, i, j) L) := by have := HA9.out; show _ = _; omega
                refine wp_region_held_drew (S := Off (fun _ => False) wr) (by kernel_rfl) ((Off.refl _ wr).drew) (fun hS => ?_)
                refine take_at (i := 0) 31 (v := .int .i64 (a : Int)) rfl rfl (by kernel_rfl) (by kernel_rfl) (by kernel_rfl) (fun _ _ _ h => h) (Or.inl ⟨by rfl, fun w' hw' => by go_simp⟩) hS ?_
                simp only [Act.put, List.setIfInBounds_toArray, List.set_cons_zero, List.set_cons_succ]
                refine take_at (i := 1) 32 (v := .slice (t) L.length c) rfl rfl (by kernel_rfl) (by kernel_rfl) (by kernel_rfl) (fun _ _ _ h => h) (Or.inl ⟨by rfl, fun w' hw' => by go_simp⟩) hS ?_
                simp only [Act.put, List.setIfInBounds_toArray, List.set_cons_zero, List.set_cons_succ]
                refine take_at (i := 2) 33 (v := .int .i64 (L.length : Int)) rfl rfl (by kernel_rfl) (by kernel_rfl) (by kernel_rfl) (fun _ _ _ h => h) (Or.inl ⟨by rfl, fun w' hw' => by go_simp⟩) hS ?_
                simp only [Act.put, List.setIfInBounds_toArray, List.set_cons_zero, List.set_cons_succ]
                refine take_at (i := 3) 34 (v := .bool false) rfl rfl (by kernel_rfl) (by kernel_rfl) (by kernel_rfl) (fun _ _ _ h => h) (Or.inl ⟨by rfl, fun w' hw' => by go_simp⟩) hS ?_
                simp only [Act.put, List.setIfInBounds_toArray, List.set_cons_zero, List.set_cons_succ]
                refine take_at (i := 4) 35 (v := .bool false) rfl rfl (by kernel_rfl) (by kernel_rfl) (by kernel_rfl) (fun _ _ _ h => h) (Or.inl ⟨by rfl, fun w' hw' => by go_simp⟩) hS ?_
                simp only [Act.put, List.setIfInBounds_toArray, List.set_cons_zero, List.set_cons_succ]
                refine take_at (i := 5) 36 (v := undef) rfl rfl (by kernel_rfl) (by kernel_rfl) (by kernel_rfl) (fun _ _ _ h => h) (Or.inr ⟨by rfl, rfl⟩) hS ?_
                simp only [Act.put, List.setIfInBounds_toArray, List.set_cons_zero, List.set_cons_succ]
                refine take_at (i := 6) 37 (v := undef) rfl rfl (by kernel_rfl) (by kernel_rfl) (by kernel_rfl) (fun _ _ _ h => h) (Or.inr ⟨by rfl, rfl⟩) hS ?_
                simp only [Act.put, List.setIfInBounds_toArray, List.set_cons_zero, List.set_cons_succ]
                refine take_at (i := 7) 38 (v := undef) rfl rfl (by kernel_rfl) (by kernel_rfl) (by kernel_rfl) (fun _ _ _ h => h) (Or.inr ⟨by rfl, rfl⟩) hS ?_
                simp only [Act.put, List.setIfInBounds_toArray, List.set_cons_zero, List.set_cons_succ]
                refine take_at (i := 8) 39 (v := undef) rfl rfl (by kernel_rfl) (by kernel_rfl) (by kernel_rfl) (fun _ _ _ h => h) (Or.inr ⟨by rfl, rfl⟩) hS ?_
                simp only [Act.put, List.setIfInBounds_toArray, List.set_cons_zero, List.set_cons_succ]
                refine take_at (i := 9) 40 (v := undef) rfl rfl (by kernel_rfl) (by kernel_rfl) (by kernel_rfl) (fun _ _ _ h => h) (Or.inr ⟨by rfl, rfl⟩) hS ?_
                simp only [Act.put, List.setIfInBounds_toArray, List.set_cons_zero, List.set_cons_succ]
                refine take_at (i := 10) 41 (v := undef) rfl rfl (by kernel_rfl) (by kernel_rfl) (by kernel_rfl) (fun _ _ _ h => h) (Or.inr ⟨by rfl, rfl⟩) hS ?_
                simp only [Act.put, List.setIfInBounds_toArray, List.set_cons_zero, List.set_cons_succ]
                refine take_at (i := 11) 42 (v := undef) rfl rfl (by kernel_rfl) (by kernel_rfl) (by kernel_rfl) (fun _ _ _ h => h) (Or.inr ⟨by rfl, rfl⟩) hS ?_
                simp only [Act.put, List.setIfInBounds_toArray, List.set_cons_zero, List.set_cons_succ]
                refine take_at (i := 12) 43 (v := undef) rfl rfl (by kernel_rfl) (by kernel_rfl) (by kernel_rfl) (fun _ _ _ h => h) (Or.inr ⟨by rfl, rfl⟩) hS ?_
                simp only [Act.put, List.setIfInBounds_toArray, List.set_cons_zero, List.set_cons_succ]
                refine take_at (i := 13) 44 (v := undef) rfl rfl (by kernel_rfl) (by kernel_rfl) (by kernel_rfl) (fun _ _ _ h => h) (Or.inr ⟨by rfl, rfl⟩) hS ?_
                simp only [Act.put, List.setIfInBounds_toArray, List.set_cons_zero, List.set_cons_succ]
                refine take_at (i := 14) 45 (v := undef) rfl rfl (by kernel_rfl) (by kernel_rfl) (by kernel_rfl) (fun _ _ _ h => h) (Or.inr ⟨by rfl, rfl⟩) hS ?_
                simp only [Act.put, List.setIfInBounds_toArray, List.set_cons_zero, List.set_cons_succ]
                refine take_at (i := 15) 46 (v := undef) rfl rfl (by kernel_rfl) (by kernel_rfl) (by kernel_rfl) (fun _ _ _ h => h) (Or.inr ⟨by rfl, rfl⟩) hS ?_
                simp only [Act.put, List.setIfInBounds_toArray, List.set_cons_zero, List.set_cons_succ]
                refine take_at (i := 16) 47 (v := undef) rfl rfl (by kernel_rfl) (by kernel_rfl) (by kernel_rfl) (fun _ _ _ h => h) (Or.inr ⟨by rfl, rfl⟩) hS ?_
                simp only [Act.put, List.setIfInBounds_toArray, List.set_cons_zero, List.set_cons_succ]
                refine take_at (i := 17) 48 (v := undef) rfl rfl (by kernel_rfl) (by kernel_rfl) (by kernel_rfl) (fun _ _ _ h => h) (Or.inr ⟨by rfl, rfl⟩) hS ?_
                simp only [Act.put, List.setIfInBounds_toArray, List.set_cons_zero, List.set_cons_succ]
                refine take_at (i := 18) 49 (v := undef) rfl rfl (by kernel_rfl) (by kernel_rfl) (by kernel_rfl) (fun _ _ _ h => h) (Or.inr ⟨by rfl, rfl⟩) hS ?_
                simp only [Act.put, List.setIfInBounds_toArray, List.set_cons_zero, List.set_cons_succ]
                refine take_at (i := 19) 50 (v := undef) rfl rfl (by kernel_rfl) (by kernel_rfl) (by kernel_rfl) (fun _ _ _ h => h) (Or.inr ⟨by rfl, rfl⟩) hS ?_
                simp only [Act.put, List.setIfInBounds_toArray, List.set_cons_zero, List.set_cons_succ]
                refine take_at (i := 20) 51 (v := undef) rfl rfl (by kernel_rfl) (by kernel_rfl) (by kernel_rfl) (fun _ _ _ h => h) (Or.inr ⟨by rfl, rfl⟩) hS ?_
                simp only [Act.put, List.setIfInBounds_toArray, List.set_cons_zero, List.set_cons_succ]
                refine take_at (i := 21) 52 (v := undef) rfl rfl (by kernel_rfl) (by kernel_rfl) (by kernel_rfl) (fun _ _ _ h => h) (Or.inr ⟨by rfl, rfl⟩) hS ?_
                simp only [Act.put, List.setIfInBounds_toArray, List.set_cons_zero, List.set_cons_succ]
                refine take_at (i := 22) 53 (v := undef) rfl rfl (by kernel_rfl) (by kernel_rfl) (by kernel_rfl) (fun _ _ _ h => h) (Or.inr ⟨by rfl, rfl⟩) hS ?_
                simp only [Act.put, List.setIfInBounds_toArray, List.set_cons_zero, List.set_cons_succ]
                refine take_at (i := 23) 54 (v := undef) rfl rfl (by kernel_rfl) (by kernel_rfl) (by kernel_rfl) (fun _ _ _ h => h) (Or.inr ⟨by rfl, rfl⟩) hS ?_
                simp only [Act.put, List.setIfInBounds_toArray, List.set_cons_zero, List.set_cons_succ]
                refine take_at (i := 24) 55 (v := undef) rfl rfl (by kernel_rfl) (by kernel_rfl) (by kernel_rfl) (fun _ _ _ h => h) (Or.inr ⟨by rfl, rfl⟩) hS ?_
                simp only [Act.put, List.setIfInBounds_toArray, List.set_cons_zero, List.set_cons_succ]
                refine take_at (i := 25) 56 (v := undef) rfl rfl (by kernel_rfl) (by kernel_rfl) (by kernel_rfl) (fun _ _ _ h => h) (Or.inr ⟨by rfl, rfl⟩) hS ?_
                simp only [Act.put, List.setIfInBounds_toArray, List.set_cons_zero, List.set_cons_succ]
                refine take_at (i := 26) 57 (v := undef) rfl rfl (by kernel_rfl) (by kernel_rfl) (by kernel_rfl) (fun _ _ _ h => h) (Or.inr ⟨by rfl, rfl⟩) hS ?_
                simp only [Act.put, List.setIfInBounds_toArray, List.set_cons_zero, List.set_cons_succ]
                refine take_at (i := 27) 58 (v := undef) rfl rfl (by kernel_rfl) (by kernel_rfl) (by kernel_rfl) (fun _ _ _ h => h) (Or.inr ⟨by rfl, rfl⟩) hS ?_
                simp only [Act.put, List.setIfInBounds_toArray, List.set_cons_zero, List.set_cons_succ]
                refine take_at (i := 28) 59 (v := undef) rfl rfl (by kernel_rfl) (by kernel_rfl) (by kernel_rfl) (fun _ _ _ h => h) (Or.inr ⟨by rfl, rfl⟩) hS ?_
                simp only [Act.put, List.setIfInBounds_toArray, List.set_cons_zero, List.set_cons_succ]
                refine take_at (i := 29) 60 (v := undef) rfl rfl (by kernel_rfl) (by kernel_rfl) (by kernel_rfl) (fun _ _ _ h => h) (Or.inr ⟨by rfl, rfl⟩) hS ?_
                simp only [Act.put, List.setIfInBounds_toArray, List.set_cons_zero, List.set_cons_succ]
                refine take_at (i := 30) 61 (v := undef) rfl rfl (by kernel_rfl) (by kernel_rfl) (by kernel_rfl) (fun _ _ _ h => h) (Or.inr ⟨by rfl, rfl⟩) hS ?_
                simp only [Act.put, List.setIfInBounds_toArray, List.set_cons_zero, List.set_cons_succ]
                refine take_at (i := 31) 62 (v := undef) rfl rfl (by kernel_rfl) (by kernel_rfl) (by kernel_rfl) (fun _ _ _ h => h) (Or.inr ⟨by rfl, rfl⟩) hS ?_
                simp only [Act.put, List.setIfInBounds_toArray, List.set_cons_zero, List.set_cons_succ]
                refine take_at (i := 32) 63 (v := undef) rfl rfl (by kernel_rfl) (by kernel_rfl) (by kernel_rfl) (fun _ _ _ h => h) (Or.inr ⟨by rfl, rfl⟩) hS ?_
                simp only [Act.put, List.setIfInBounds_toArray, List.set_cons_zero, List.set_cons_succ]
                refine take_at (i := 33) 64 (v := undef) rfl rfl (by kernel_rfl) (by kernel_rfl) (by kernel_rfl) (fun _ _ _ h => h) (Or.inr ⟨by rfl, rfl⟩) hS ?_
                simp only [Act.put, List.setIfInBounds_toArray, List.set_cons_zero, List.set_cons_succ]
                refine take_at (i := 34) 65 (v := undef) rfl rfl (by kernel_rfl) (by kernel_rfl) (by kernel_rfl) (fun _ _ _ h => h) (Or.inr ⟨by rfl, rfl⟩) hS ?_
                simp only [Act.put, List.setIfInBounds_toArray, List.set_cons_zero, List.set_cons_succ]
                refine take_at (i := 35) 66 (v := undef) rfl rfl (by kernel_rfl) (by kernel_rfl) (by kernel_rfl) (fun _ _ _ h => h) (Or.inr ⟨by rfl, rfl⟩) hS ?_
                simp only [Act.put, List.setIfInBounds_toArray, List.set_cons_zero, List.set_cons_succ]
                refine take_at (i := 36) 67 (v := undef) rfl rfl (by kernel_rfl) (by kernel_rfl) (by kernel_rfl) (fun _ _ _ h => h) (Or.inr ⟨by rfl, rfl⟩) hS ?_
                simp only [Act.put, List.setIfInBounds_toArray, List.set_cons_zero, List.set_cons_succ]
                refine take_at (i := 37) 68 (v := undef) rfl rfl (by kernel_rfl) (by kernel_rfl) (by kernel_rfl) (fun _ _ _ h => h) (Or.inr ⟨by rfl, rfl⟩) hS ?_
                simp only [Act.put, List.setIfInBounds_toArray, List.set_cons_zero, List.set_cons_succ]
                refine take_at (i := 38) 69 (v := undef) rfl rfl (by kernel_rfl) (by kernel_rfl) (by kernel_rfl) (fun _ _ _ h => h) (Or.inr ⟨by rfl, rfl⟩) hS ?_
                simp only [Act.put, List.setIfInBounds_toArray, List.set_cons_zero, List.set_cons_succ]
                refine take_at (i := 39) 70 (v := undef) rfl rfl (by kernel_rfl) (by kernel_rfl) (by kernel_rfl) (fun _ _ _ h => h) (Or.inr ⟨by rfl, rfl⟩) hS ?_
                simp only [Act.put, List.setIfInBounds_toArray, List.set_cons_zero, List.set_cons_succ]
                refine take_at (i := 40) 71 (v := undef) rfl rfl (by kernel_rfl) (by kernel_rfl) (by kernel_rfl) (fun _ _ _ h => h) (Or.inr ⟨by rfl, rfl⟩) hS ?_
                simp only [Act.put, List.setIfInBounds_toArray, List.set_cons_zero, List.set_cons_succ]
                refine take_at (i := 41) 72 (v := undef) rfl rfl (by kernel_rfl) (by kernel_rfl) (by kernel_rfl) (fun _ _ _ h => h) (Or.inr ⟨by rfl, rfl⟩) hS ?_
                simp only [Act.put, List.setIfInBounds_toArray, List.set_cons_zero, List.set_cons_succ]
                refine take_at (i := 42) 73 (v := undef) rfl rfl (by kernel_rfl) (by kernel_rfl) (by kernel_rfl) (fun _ _ _ h => h) (Or.inr ⟨by rfl, rfl⟩) hS ?_
                simp only [Act.put, List.setIfInBounds_toArray, List.set_cons_zero, List.set_cons_succ]
                refine take_at (i := 43) 74 (v := undef) rfl rfl (by kernel_rfl) (by kernel_rfl) (by kernel_rfl) (fun _ _ _ h => h) (Or.inr ⟨by rfl, rfl⟩) hS ?_
                simp only [Act.put, List.setIfInBounds_toArray, List.set_cons_zero, List.set_cons_succ]
                refine take_at (i := 44) 75 (v := undef) rfl rfl (by kernel_rfl) (by kernel_rfl) (by kernel_rfl) (fun _ _ _ h => h) (Or.inr ⟨by rfl, rfl⟩) hS ?_
                simp only [Act.put, List.setIfInBounds_toArray, List.set_cons_zero, List.set_cons_succ]
                refine take_at (i := 45) 76 (v := undef) rfl rfl (by kernel_rfl) (by kernel_rfl) (by kernel_rfl) (fun _ _ _ h => h) (Or.inr ⟨by rfl, rfl⟩) hS ?_
                simp only [Act.put, List.setIfInBounds_toArray, List.set_cons_zero, List.set_cons_succ]
                refine take_at (i := 46) 77 (v := undef) rfl rfl (by kernel_rfl) (by kernel_rfl) (by kernel_rfl) (fun _ _ _ h => h) (Or.inr ⟨by rfl, rfl⟩) hS ?_
                simp only [Act.put, List.setIfInBounds_toArray, List.set_cons_zero, List.set_cons_succ]
                refine take_at (i := 47) 78 (v := undef) rfl rfl (by kernel_rfl) (by kernel_rfl) (by kernel_rfl) (fun _ _ _ h => h) (Or.inr ⟨by rfl, rfl⟩) hS ?_
                simp only [Act.put, List.setIfInBounds_toArray, List.set_cons_zero, List.set_cons_succ]
                refine take_at (i := 48) 79 (v := undef) rfl rfl (by kernel_rfl) (by kernel_rfl) (by kernel_rfl) (fun _ _ _ h => h) (Or.inr ⟨by rfl, rfl⟩) hS ?_
                simp only [Act.put, List.setIfInBounds_toArray, List.set_cons_zero, List.set_cons_succ]
                refine take_at (i := 49) 80 (v := undef) rfl rfl (by kernel_rfl) (by kernel_rfl) (by kernel_rfl) (fun _ _ _ h => h) (Or.inr ⟨by rfl, rfl⟩) hS ?_
                simp only [Act.put, List.setIfInBounds_toArray, List.set_cons_zero, List.set_cons_succ]
                refine take_at (i := 50) 81 (v := .bool false) rfl rfl (by kernel_rfl) (by kernel_rfl) (by kernel_rfl) (fun _ _ _ h => h) (Or.inl ⟨by rfl, fun w' hw' => by go_simp⟩) hS ?_
                simp only [Act.put, List.setIfInBounds_toArray, List.set_cons_zero, List.set_cons_succ]
                refine wpAnyH_done (by kernel_rfl) ?_ _
                go_wp2_with fail
                go_meet
                case rel =>
                  exact ⟨false, rfl, ⟨fun h => (by cases h), fun _ => HEND.out⟩, hS⟩
            case rest =>
              obtain ⟨bb, rfl, hb, o⟩ := hcut
              have HBB : Hid _ := hb
              have HOB : Hid _ := HO3.out.trans o (fun _ _ h => h)
              clear hb o HUP HDN HQ HRL HQW
              cases bb
              · have HEQ : Hid (a = cntP (P, i, j) L) := HBB.out.dn rfl
                have HIN : Hid (insP (P, i, j) L = L.take a ++ (P, i, j) :: L.drop a) := by show _ = _; rw [ins_cut, ← HEQ.out]
                have HLLa : Hid (a ≤ L.length) := haL
                have hrow := (HOW2.out.off HOB.out (fun _ _ _ h => h)).rowP
                have HZT : Hid (t = none → c = 0) := HOW2.out.none0
                obtain ⟨t9, c9, hsl9, rp9, hb9, hz9⟩ := hrow.dropR HLLa.out
                obtain ⟨hsl3, rp3⟩ := hrow.takeR HZT.out HLLa.out
                have HZ9 : Hid (t9 = none → c9 = 0) := hz9 HZT.out
                have HLTL : Hid ((L.take a).length ≤ 32) := by show _ ≤ _; rw [List.length_take]; omega
                have HLDL : Hid ((L.drop a).length ≤ 32) := by show _ ≤ _; rw [List.length_drop]; omega
                have hcq := HCQ.out.off HOB.out (fun h => h)
                have HOD : Hid _ := HO2.out.trans HOB.out (fun _ _ h => h)
                generalize hvd : wc = vd at *
                clear hvd
                have HQ3 : Hid (∀ w', Off (fun _ => False) vd w' → w'.cell? ⟨q, 0, none⟩ = some (.int .u32 (P : Nat)) ∧ w'.cell? ⟨q, 1, none⟩ = some (.int .i64 (i : Int)) ∧ w'.cell? ⟨q, 2, none⟩ = some (.int .i64 (j : Int))) := fun w' hw' => ⟨(hcq.off hw' (fun h => h)).cell 0, (hcq.off hw' (fun h => h)).cell 1, (hcq.off hw' (fun h => h)).cell 2⟩
                generalize L.take a = lt at HIN hsl3 rp3 HLTL
                generalize L.drop a = ld at HIN hsl9 rp9 HLDL
                have HLT : Hid _ := rp3
                have HLD : Hid _ := rp9
                clear rp3 rp9 hrow hb9 hz9 hcq HOB HBB HEQ
                go_upto_region 12 with fail
                refine wp_region_held_drew (S := Off (fun _ => False) vd) (by kernel_rfl) ((Off.refl _ vd).drew) (fun hS => ?_)
                have HOC : Hid _ := (Off.refl (fun _ => False) vd).drew
                generalize hdr : vd.drew = vd0 at HOC hS ⊢
                clear hdr
                refine take_at (i := 0) 84 (v := .slice t L.length c) rfl rfl (by kernel_rfl) (by kernel_rfl) (by kernel_rfl) (fun _ _ _ h => h) (Or.inl ⟨by rfl, fun w' hw' => by go_simp⟩) hS ?_
                simp only [Act.put, List.setIfInBounds_toArray, List.set_cons_zero, List.set_cons_succ]
                refine take_at (i := 1) 85 (v := .int .i64 (a : Int)) rfl rfl (by kernel_rfl) (by kernel_rfl) (by kernel_rfl) (fun _ _ _ h => h) (Or.inl ⟨by rfl, fun w' hw' => by go_simp⟩) hS ?_
                simp only [Act.put, List.setIfInBounds_toArray, List.set_cons_zero, List.set_cons_succ]
                refine take_at (i := 2) 86 (v := .slice t lt.length c) rfl rfl (by kernel_rfl) (by kernel_rfl) (by kernel_rfl) (fun _ _ _ h => h) (Or.inl ⟨by rfl, fun w' hw' => by go_simp⟩) hS ?_
                simp only [Act.put, List.setIfInBounds_toArray, List.set_cons_zero, List.set_cons_succ]
                refine take_at (i := 7) 91 (v := .slice t L.length c) rfl rfl (by kernel_rfl) (by kernel_rfl) (by kernel_rfl) (fun _ _ _ h => h) (Or.inl ⟨by rfl, fun w' hw' => by go_simp⟩) hS ?_
                simp only [Act.put, List.setIfInBounds_toArray, List.set_cons_zero, List.set_cons_succ]
                refine take_at (i := 8) 92 (v := .int .i64 (a : Int)) rfl rfl (by kernel_rfl) (by kernel_rfl) (by kernel_rfl) (fun _ _ _ h => h) (Or.inl ⟨by rfl, fun w' hw' => by go_simp⟩) hS ?_
                simp only [Act.put, List.setIfInBounds_toArray, List.set_cons_zero, List.set_cons_succ]
                refine take_at (i := 9) 93 (v := .slice t9 ld.length c9) rfl rfl (by kernel_rfl) (by kernel_rfl) (by kernel_rfl) (fun _ _ _ h => h) (Or.inl ⟨by rfl, fun w' hw' => by go_simp⟩) hS ?_
                simp only [Act.put, List.setIfInBounds_toArray, List.set_cons_zero, List.set_cons_succ]
                refine take_at (i := 4) 88 (v := .agg #[.int .u32 (P : Nat), .int .i64 (i : Int), .int .i64 (j : Int)]) rfl rfl (by kernel_rfl) (by kernel_rfl) (by kernel_rfl) (fun _ _ _ h => h) (Or.inl ⟨by rfl, fun w' hw' => by obtain ⟨y0, y1, y2⟩ := HQ3.out w' hw'; go_simp⟩) hS ?_
                simp only [Act.put, List.setIfInBounds_toArray, List.set_cons_zero, List.set_cons_succ]
                refine wpAnyH_ready (rs := [3, 5]) (by kernel_rfl) (by simp) ?_
                refine AllReadyH.cons rfl (fun K' hK' => ?_) (AllReadyH.cons rfl (fun K' hK' => ?_) AllReadyH.nil)
                · obtain ⟨t3, c3, v3, hr, own3, o3, at3⟩ := appP_run Try.underlying67 Try.infoR (OwnG.nil 69 3 pcs vd0) (HLT.out.off HOC.out) HZT.out (by have : lt.length ≤ 32 := HLTL.out; simp; omega) 67
                  rw [List.nil_append] at hr own3
                  replace o3 : Off (fun _ => False) vd0 v3 := o3.mono (fun _ _ h => by simp [blk] at h)
                  have hn3 : ∀ k, blk t3 = some k → vd.heap.size ≤ k := fun k hk => by
                    have hsz := HOC.out.size
                    rcases at3 with e | e
                    · rw [e] at hk
                      simp [blk] at hk
                    · rw [e] at hk
                      cases hk
                      exact hsz
                  refine wp_append_if rfl (.const (.slice none 0 0)) (.tmp 86) rfl rfl rfl hr 87 rfl ?_
                  simp only [Act.put, List.setIfInBounds_toArray, List.set_cons_zero, List.set_cons_succ]
                  have hS1 := hS.trans o3 (fun _ _ h => h)
                  refine hK'.out _ _ hS1 (fun hS => ?_)
                  replace HOC : Hid (Off (fun _ => False) vd v3) := HOC.out.trans o3 (fun _ _ h => h)
                  clear hK' K' hr hS1
                  have HOW3 : Hid _ := own3
                  have HN3 : Hid _ := hn3
                  have HO3 : Hid _ := o3
                  clear own3 hn3 o3 at3
                  refine wpAnyH_ready (rs := [5]) (by kernel_rfl) (by simp) ?_
                  refine AllReadyH.cons rfl (fun K' hK' => ?_) AllReadyH.nil
                  go_simp
                  have RP := rowP_new v3 69 (P, i, j)
                  have hS1 := hS.alloc (.cells #[.int .u32 (P : Nat), .int .i64 (i : Int), .int .i64 (j : Int)] 69)
                  have HOA := HOC.out.alloc (.cells #[.int .u32 (P : Nat), .int .i64 (i : Int), .int .i64 (j : Int)] 69)
                  have OA1 : Off (fun _ => False) v3 (World.alloc v3 (.cells #[.int .u32 (P : Nat), .int .i64 (i : Int), .int .i64 (j : Int)] 69)) := (Off.refl _ _).alloc _
                  refine hK'.out _ _ hS1 (fun hS => ?_)
                  clear hK' K' hS1 HOC
                  generalize hq5 : (World.heap v3).size = q5 at RP ⊢
                  generalize hv5 : World.alloc v3 (.cells #[.int .u32 (P : Nat), .int .i64 (i : Int), .int .i64 (j : Int)] 69) = v5 at RP HOA OA1 hS ⊢
                  have HOC : Hid _ := HOA
                  have HRP : Hid _ := RP
                  have HO5 : Hid _ := OA1
                  clear hq5 hv5 RP HOA OA1
                  refine wpAnyH_ready (rs := [6]) (by kernel_rfl) (by simp) ?_
                  refine AllReadyH.cons rfl (fun K' hK' => ?_) AllReadyH.nil
                  obtain ⟨t6, c6, v6, hr, own6, o6, at6⟩ := appP_run Try.underlying67 Try.infoR (HOW3.out.off HO5.out (fun _ _ _ h => h)) HRP.out (fun e => by cases e) (by have : lt.length ≤ 32 := HLTL.out; simp; omega) 67
                  have hn6 : ∀ k, blk t6 = some k → vd.heap.size ≤ k := fun k hk => by
                    have hsz := HOC.out.size
                    rcases at6 with e | e
                    · exact HN3.out k (e ▸ hk)
                    · rw [e] at hk
                      cases hk
                      exact hsz
                  have hS1 := hS.trans o6 (fun k hk e => by have := HN3.out k e; omega)
                  refine wp_append_if rfl (.tmp 87) (.tmp 89) rfl rfl rfl hr 90 rfl ?_
                  simp only [Act.put, List.setIfInBounds_toArray, List.set_cons_zero, List.set_cons_succ]
                  refine hK'.out _ _ hS1 (fun hS => ?_)
                  replace HOC : Hid (Off (fun _ => False) vd v6) := HOC.out.trans o6 (fun k hk e => by have := HN3.out k e; omega)
                  clear hK' K' hr hS1
                  refine wpAnyH_ready (rs := [10]) (by kernel_rfl) (by simp) ?_
                  refine AllReadyH.cons rfl (fun K' hK' => ?_) AllReadyH.nil
                  obtain ⟨t7, c7, v7, hr, own7, o7, at7⟩ := appP_run Try.underlying67 Try.infoR own6 (HLD.out.off HOC.out) HZ9.out (by have : lt.length ≤ 32 := HLTL.out; have : ld.length ≤ 32 := HLDL.out; simp; omega) 67
                  have hn7 : ∀ k, blk t7 = some k → vd.heap.size ≤ k := fun k hk => by
                    have hsz := HOC.out.size
                    rcases at7 with e | e
                    · exact hn6 k (e ▸ hk)
                    · rw [e] at hk
                      cases hk
                      exact hsz
                  have hS1 := hS.trans o7 (fun k hk e => by have := hn6 k e; omega)
                  refine wp_append_if rfl (.tmp 90) (.tmp 93) rfl rfl rfl hr 94 rfl ?_
                  simp only [Act.put, List.setIfInBounds_toArray, List.set_cons_zero, List.set_cons_succ]
                  refine hK'.out _ _ hS1 (fun hS => ?_)
                  replace HOC : Hid (Off (fun _ => False) vd v7) := HOC.out.trans o7 (fun k hk e => by have := hn6 k e; omega)
                  clear hK' K' hr hS1
                  have HYS : Hid ((lt ++ [(P, i, j)]) ++ ld = srtP (preP i (j + 1))) := by
                    show _ = _
                    rw [HNX.out, HIN.out, List.append_assoc]
                    rfl
                  rw [HYS.out] at own7 ⊢
                  have HOW7 : Hid _ := own7
                  have HN7 : Hid _ := hn7
                  clear own6 o6 at6 hn6 own7 o7 at7 hn7
                  refine take_at (i := 11) 5 (v := .slice t7 (srtP (preP i (j + 1))).length c7) rfl rfl (by kernel_rfl) (by kernel_rfl) (by kernel_rfl) (fun _ _ _ h => h) (Or.inl ⟨by rfl, fun w' hw' => by go_simp⟩) hS ?_
                  simp only [Act.put, List.setIfInBounds_toArray, List.set_cons_zero, List.set_cons_succ]
                  refine wpAnyH_done (by kernel_rfl) ?_ _
                  have HFF : Hid _ := HOD.out.trans HOC.out (fun _ _ h => h)
                  have HFN : Hid (∀ k, blk t7 = some k → w.heap.size ≤ k) := fun k hk => Nat.le_trans HOD.out.size (HN7.out k hk)
                  clear hS HOC
                  go_wp2_with fail
                  go_roundw
                  case rel => exact ⟨j + 1, t7, c7, rfl, by go_num, by omega, HOW7.out, HFN.out, HFF.out⟩
                  case measure => simp [intOf]; omega
                · go_simp
                  have RP := rowP_new vd0 69 (P, i, j)
                  have hS1 := hS.alloc (.cells #[.int .u32 (P : Nat), .int .i64 (i : Int), .int .i64 (j : Int)] 69)
                  have HOA := HOC.out.alloc (.cells #[.int .u32 (P : Nat), .int .i64 (i : Int), .int .i64 (j : Int)] 69)
                  have OA1 : Off (fun _ => False) vd0 (World.alloc vd0 (.cells #[.int .u32 (P : Nat), .int .i64 (i : Int), .int .i64 (j : Int)] 69)) := (Off.refl _ _).alloc _
                  refine hK'.out _ _ hS1 (fun hS => ?_)
                  clear hK' K' hS1 HOC
                  generalize hq5 : (World.heap vd0).size = q5 at RP ⊢
                  generalize hv5 : World.alloc vd0 (.cells #[.int .u32 (P : Nat), .int .i64 (i : Int), .int .i64 (j : Int)] 69) = v5 at RP HOA OA1 hS ⊢
                  have HOC : Hid _ := HOA
                  have HRP : Hid _ := RP
                  have HO5 : Hid _ := OA1
                  clear hq5 hv5 RP HOA OA1
                  refine wpAnyH_ready (rs := [3]) (by kernel_rfl) (by simp) ?_
                  refine AllReadyH.cons rfl (fun K' hK' => ?_) AllReadyH.nil
                  obtain ⟨t3, c3, v3, hr, own3, o3, at3⟩ := appP_run Try.underlying67 Try.infoR (OwnG.nil 69 3 pcs v5) (HLT.out.off HOC.out) HZT.out (by have : lt.length ≤ 32 := HLTL.out; simp; omega) 67
                  rw [List.nil_append] at hr own3
                  replace o3 : Off (fun _ => False) v5 v3 := o3.mono (fun _ _ h => by simp [blk] at h)
                  have hn3 : ∀ k, blk t3 = some k → vd.heap.size ≤ k := fun k hk => by
                    have hsz := HOC.out.size
                    rcases at3 with e | e
                    · rw [e] at hk
                      simp [blk] at hk
                    · rw [e] at hk
                      cases hk
                      exact hsz
                  refine wp_append_if rfl (.const (.slice none 0 0)) (.tmp 86) rfl rfl rfl hr 87 rfl ?_
                  simp only [Act.put, List.setIfInBounds_toArray, List.set_cons_zero, List.set_cons_succ]
                  have hS1 := hS.trans o3 (fun _ _ h => h)
                  refine hK'.out _ _ hS1 (fun hS => ?_)
                  replace HOC : Hid (Off (fun _ => False) vd v3) := HOC.out.trans o3 (fun _ _ h => h)
                  clear hK' K' hr hS1
                  have HOW3 : Hid _ := own3
                  have HN3 : Hid _ := hn3
                  have HO3 : Hid _ := o3
                  clear own3 hn3 o3 at3
                  refine wpAnyH_ready (rs := [6]) (by kernel_rfl) (by simp) ?_
                  refine AllReadyH.cons rfl (fun K' hK' => ?_) AllReadyH.nil
                  obtain ⟨t6, c6, v6, hr, own6, o6, at6⟩ := appP_run Try.underlying67 Try.infoR HOW3.out (HRP.out.off HO3.out) (fun e => by cases e) (by have : lt.length ≤ 32 := HLTL.out; simp; omega) 67
                  have hn6 : ∀ k, blk t6 = some k → vd.heap.size ≤ k := fun k hk => by
                    have hsz := HOC.out.size
                    rcases at6 with e | e
                    · exact HN3.out k (e ▸ hk)
                    · rw [e] at hk
                      cases hk
                      exact hsz
                  have hS1 := hS.trans o6 (fun k hk e => by have := HN3.out k e; omega)
                  refine wp_append_if rfl (.tmp 87) (.tmp 89) rfl rfl rfl hr 90 rfl ?_
                  simp only [Act.put, List.setIfInBounds_toArray, List.set_cons_zero, List.set_cons_succ]
                  refine hK'.out _ _ hS1 (fun hS => ?_)
                  replace HOC : Hid (Off (fun _ => False) vd v6) := HOC.out.trans o6 (fun k hk e => by have := HN3.out k e; omega)
                  clear hK' K' hr hS1
                  refine wpAnyH_ready (rs := [10]) (by kernel_rfl) (by simp) ?_
                  refine AllReadyH.cons rfl (fun K' hK' => ?_) AllReadyH.nil
                  obtain ⟨t7, c7, v7, hr, own7, o7, at7⟩ := appP_run Try.underlying67 Try.infoR own6 (HLD.out.off HOC.out) HZ9.out (by have : lt.length ≤ 32 := HLTL.out; have : ld.length ≤ 32 := HLDL.out; simp; omega) 67
                  have hn7 : ∀ k, blk t7 = some k → vd.heap.size ≤ k := fun k hk => by
                    have hsz := HOC.out.size
                    rcases at7 with e | e
                    · exact hn6 k (e ▸ hk)
                    · rw [e] at hk
                      cases hk
                      exact hsz
                  have hS1 := hS.trans o7 (fun k hk e => by have := hn6 k e; omega)
                  refine wp_append_if rfl (.tmp 90) (.tmp 93) rfl rfl rfl hr 94 rfl ?_
                  simp only [Act.put, List.setIfInBounds_toArray, List.set_cons_zero, List.set_cons_succ]
                  refine hK'.out _ _ hS1 (fun hS => ?_)
                  replace HOC : Hid (Off (fun _ => False) vd v7) := HOC.out.trans o7 (fun k hk e => by have := hn6 k e; omega)
                  clear hK' K' hr hS1
                  have HYS : Hid ((lt ++ [(P, i, j)]) ++ ld = srtP (preP i (j + 1))) := by
                    show _ = _
                    rw [HNX.out, HIN.out, List.append_assoc]
                    rfl
                  rw [HYS.out] at own7 ⊢
                  have HOW7 : Hid _ := own7
                  have HN7 : Hid _ := hn7
                  clear own6 o6 at6 hn6 own7 o7 at7 hn7
                  refine take_at (i := 11) 5 (v := .slice t7 (srtP (preP i (j + 1))).length c7) rfl rfl (by kernel_rfl) (by kernel_rfl) (by kernel_rfl) (fun _ _ _ h => h) (Or.inl ⟨by rfl, fun w' hw' => by go_simp⟩) hS ?_
                  simp only [Act.put, List.setIfInBounds_toArray, List.set_cons_zero, List.set_cons_succ]
                  refine wpAnyH_done (by kernel_rfl) ?_ _
                  have HFF : Hid _ := HOD.out.trans HOC.out (fun _ _ h => h)
                  have HFN : Hid (∀ k, blk t7 = some k → w.heap.size ≤ k) := fun k hk => Nat.le_trans HOD.out.size (HN7.out k hk)
                  clear hS HOC
                  go_wp2_with fail
                  go_roundw
                  case rel => exact ⟨j + 1, t7, c7, rfl, by go_num, by omega, HOW7.out, HFN.out, HFF.out⟩
                  case measure => simp [intOf]; omega
              · have HA1 : Hid (a + 1 ≤ cntP (P, i, j) L) := HBB.out.up rfl
                have HA2 : Hid (a + 1 ≤ L.length) := Nat.le_trans HA1.out HA9.out.2
                go_wp2_with fail
                go_roundw
                case rel => exact ⟨a + 1, by go_num, HA1.out, HOB.out⟩
                case measure => have := HA2.out; simp [intOf]; omega
        · obtain rfl : j = 4 := by omega
          have HRW : Hid _ := pre_row i
          rw [HRW.out] at HOW
          go_wp2_with fail
          go_roundw
          case rel => exact ⟨i + 1, t, c, by rw [HRW.out], by go_num, by omega, HOW.out, HAT.out, HO.out⟩
          case measure => simp [intOf]; omega
    · obtain rfl : n = i := by omega
      have HOWL : Hid _ := HOW0.out
      have HPQ : Hid (srtP (preP n 0) = ptsP n) := rfl
      have HPL : Hid _ := pts_len n
      rw [HPQ.out] at HOWL ⊢
      have HL32 : Hid ((ptsP n).length ≤ 32) := by show _ ≤ _; rw [HPL.out]; omega
      have HSPN : Hid (∀ j, (ojP M (ptsP n) j).length ≤ 8) := fun j => by have := oj_len M n j; omega
      obtain ⟨L, hL⟩ : ∃ L, ptsP n = L := ⟨_, rfl⟩
      have HLQ : Hid (ptsP n = L) := hL
      rw [hL] at HOWL HL32 HSPN ⊢
      clear hL HPQ HPL HOW0
      obtain ⟨cap, W, hcv, o3, hm⟩ := HMX.out wr
      have HF9 : Hid _ := HO0.out.trans o3 (fun _ _ h => h)
      have HRP9 : Hid _ := (HOWL.out.off o3 (fun _ _ _ h => h)).rowP
      have HM3 : Hid _ := hm
      clear hm o3 HMX HO0 HAT0
      go_wp2_with fail
      refine Calls.mono HM3.out ?_
      rintro e w8 ⟨rfl, hw⟩
      rw [hw]
      clear hw w8 HM3 hcv HOWL
      generalize hW : W = w9 at *
      clear hW
      have hix0 : ∀ W, (Instr.index 70 (.agg #[.bool true, .bool false]) (.int .i64 0)).run Try.prog W = .ok (.bool true) W := fun W => by kernel_rfl
      have hix1 : ∀ W, (Instr.index 70 (.agg #[.bool true, .bool false]) (.int .i64 1)).run Try.prog W = .ok (.bool false) W := fun W => by kernel_rfl
      go_wp2_with fail
      go_loopw [11, 101] (fun y z wr => ∃ (j : Nat) (t0 : Option Addr) (c0 : Nat), y = .slice t0 (ojP M L j).length c0 ∧ z = .int .i64 (j : Int) ∧ j ≤ 2 ∧ OwnG 3 1 ics wr t0 c0 (ojP M L j) ∧ (∀ k, blk t0 = some k → w9.heap.size ≤ k) ∧ Off (fun _ => False) w9 wr) (fun _ z _ => (2 - intOf z).toNat)
      case atStart => exact ⟨0, none, 0, rfl, rfl, by omega, OwnG.nil _ _ _ _, fun k hk => by simp [blk] at hk, Off.refl _ _⟩
      case round =>
        obtain ⟨j, t0, c0, rfl, rfl, hj, own, hat, O⟩ := hrel
        have HOWJ : Hid _ := own
        have HATJ : Hid _ := hat
        have HOJ : Hid _ := O
        have HO8 : Hid _ := HSPN.out j
        clear own hat O
        obtain rfl | rfl | rfl : j = 0 ∨ j = 1 ∨ j = 2 := by omega
        · obtain ⟨o0, ho0⟩ : ∃ o0, ojP M L 0 = o0 := ⟨_, rfl⟩
          have HO0 : Hid (o0 = ojP M L 0) := ho0.symm
          rw [ho0] at HOWJ HO8 ⊢
          have z9 : ((0 : Nat) : Int) = 0 := rfl
          rw [z9]
          clear ho0 z9
          go_wp2_with fail
          go_loopw [11, 106] (fun y z wr => ∃ (i : Nat) (t1 : Option Addr) (c1 : Nat), y = .slice t1 (addN o0 ((L.take i).filter (fun p => decide (M ≤ p.1)))).length c1 ∧ z = .int .i64 (i : Int) ∧ i ≤ L.length ∧ OwnG 3 1 ics wr t1 c1 (addN o0 ((L.take i).filter (fun p => decide (M ≤ p.1)))) ∧ (∀ k, blk t1 = some k → w9.heap.size ≤ k) ∧ Off (fun _ => False) w9 wr) (fun _ z _ => ((L.length : Int) - intOf z).toNat)
          case atStart => exact ⟨0, t0, c0, rfl, rfl, by omega, HOWJ.out, HATJ.out, HOJ.out⟩
          case round =>
            clear HOWJ HATJ HOJ
            obtain ⟨i, t1, c1, rfl, rfl, hi, own, hat, O⟩ := hrel
            have HAT : Hid _ := hat
            have HO : Hid _ := O
            have hL32 : L.length ≤ 32 := HL32.out
            by_cases hil : i < L.length
            · obtain ⟨x, hx⟩ : ∃ x, L[i]? = some x := ⟨_, List.getElem?_eq_getElem hil⟩
              have HST : Hid ((L.take (i + 1)).filter (fun p => decide (M ≤ p.1)) = (L.take i).filter (fun p => decide (M ≤ p.1)) ++ (if (decide (M ≤ x.1)) = true then [x] else [])) := by
                show _ = _
                rw [List.take_add_one, hx, List.filter_append]
                congr 1
                simp only [Option.toList_some, List.filter_cons, List.filter_nil]
              have HLN : Hid ((addN o0 ((L.take i).filter (fun p => decide (M ≤ p.1)))).length ≤ 40) := by
                have h1 := addN_len ((L.take i).filter (fun p => decide (M ≤ p.1))) o0
                have h2 := List.length_filter_le (fun p => decide (M ≤ p.1)) (L.take i)
                have h3 : (L.take i).length ≤ L.length := by rw [List.length_take]; omega
                have h4 : o0.length ≤ 8 := HO8.out
                have h5 : L.length ≤ 32 := HL32.out
                show _ ≤ _
                omega
              obtain ⟨qs, hqs⟩ : ∃ qs, addN o0 ((L.take i).filter (fun p => decide (M ≤ p.1))) = qs := ⟨_, rfl⟩
              have HQS : Hid (addN o0 ((L.take i).filter (fun p => decide (M ≤ p.1))) = qs) := hqs
              rw [hqs] at HLN own ⊢
              clear hqs
              obtain ⟨g, of, rfl, k0, k1, k2⟩ := (HRP9.out.off HO.out).at_ i x hx
              have C0 := Cel.new wr 69 #[.int .u32 (x.1 : Nat), .int .i64 (x.2.1 : Nat), .int .i64 (x.2.2 : Nat)]
              have O1 : Off (fun _ => False) wr (wr.alloc (.cells #[.int .u32 (x.1 : Nat), .int .i64 (x.2.1 : Nat), .int .i64 (x.2.2 : Nat)] 69)) := (Off.refl _ wr).alloc _
              have HC0 : Hid _ := C0
              have HO1 : Hid _ := O1
              have HOW1 : Hid _ := own.off O1 (fun _ _ _ h => h)
              clear own hat O C0 O1 hx
              go_upto_region 23 with fail
              generalize wr.heap.size = q at HC0 ⊢
              generalize wr.alloc (.cells #[.int .u32 (x.1 : Nat), .int .i64 (x.2.1 : Nat), .int .i64 (x.2.2 : Nat)] 69) = V at HC0 HO1 HOW1 ⊢
              have z0 : V.cell? ⟨q, 0, none⟩ = some (.int .u32 (x.1 : Nat)) := HC0.out.cell 0
              have z1 : V.cell? ⟨q, 1, none⟩ = some (.int .i64 (x.2.1 : Nat)) := HC0.out.cell 1
              clear k0 k1 k2
              by_cases hge : M ≤ x.1
              · have FX : (decide (M ≤ x.1)) = true := decide_eq_true hge
                have g1 : decide ((x.1 : Int) ≥ (M : Int)) = true := decide_eq_true (by omega)
                have g2 : decide ((M : Int) ≤ (x.1 : Int)) = true := decide_eq_true (by omega)
                have HSX : Hid (addN o0 ((L.take (i + 1)).filter (fun p => decide (M ≤ p.1))) = addO qs x.2.1) := by
                  show _ = _
                  rw [HST.out, if_pos FX, addN_next, HQS.out]
                clear FX
                have HN : Hid _ := in_any t1 c1 qs (x.2.1 : Nat) V HOW1.out.its (by have : qs.length ≤ 40 := HLN.out; omega)
                go_wp2_with fail
                refine Calls.mono HN.out ?_
                rintro e w8 ⟨rfl, hw⟩
                rw [hw]
                clear hw w8 HN
                cases hb : inB qs (x.2.1 : Nat)
                · have HB : Hid _ := addO_yes hb
                  clear hb
                  have OA : Off (fun _ => False) V (V.alloc (.cells #[.int .i64 (x.2.1 : Nat)] 3)) := (Off.refl _ V).alloc _
                  have own4 := HOW1.out.off OA (fun _ _ _ h => h)
                  have cn := Cel.new V 3 #[.int .i64 (x.2.1 : Nat)]
                  have hcn : ∀ j u, (ics x.2.1)[j]? = some u → (V.alloc (.cells #[.int .i64 (x.2.1 : Nat)] 3)).cell? ⟨V.heap.size, j, none⟩ = some u := fun j u hj => by
                    rw [cn.cell j]
                    simpa [ics] using hj
                  have HOA : Hid _ := OA
                  clear OA cn
                  go_wp2_with (at_builtin; refine wpList_appG (cs := ics) rfl (.tmp 123) (.tmp 126) Try.underlying24 Try.infoN rfl (by decide) (by decide) ics_len ics_one rfl t1 c1 qs rfl own4 V.heap.size 1 x.2.1 rfl hcn (by have : qs.length ≤ 40 := HLN.out; omega) ?_; intro t' c' w' ys hys own' off' at')
                  have HYS : Hid (ys = addN o0 ((L.take (i + 1)).filter (fun p => decide (M ≤ p.1)))) := by
                    show ys = _
                    rw [hys.out, HSX.out, HB.out]
                  have HOW' : Hid _ := own'
                  have HOF' : Hid _ := off'
                  clear own' off' own4 hcn hys
                  go_wp2_with fail
                  go_roundw
                  case rel =>
                    have s1 := HO1.out.size
                    have s0 := HO.out.size
                    simp only [World.size_alloc] at at'
                    rw [HYS.out] at HOW'
                    refine ⟨i + 1, t', c', by rw [HYS.out], by go_num, by omega, HOW'.out, fun k hk => ?_, ?_⟩
                    · rcases at' with h9 | h9
                      · exact HAT.out k (h9 ▸ hk)
                      · rw [h9] at hk
                        cases hk
                        omega
                    · exact ((HO.out.trans HO1.out (fun _ _ h => h)).trans HOA.out (fun _ _ h => h)).trans HOF'.out (fun k hk e => by have := HAT.out k e; omega)
                  case measure => simp [intOf]; omega
                · have HB : Hid _ := addO_no hb
                  clear hb
                  go_wp2_with fail
                  go_roundw
                  case rel =>
                    have e9 : addN o0 ((L.take (i + 1)).filter (fun p => decide (M ≤ p.1))) = qs := by rw [HSX.out, HB.out]
                    exact ⟨i + 1, t1, c1, by rw [e9], by go_num, by omega, by rw [e9]; exact HOW1.out, HAT.out, HO.out.trans HO1.out (fun _ _ h => h)⟩
                  case measure => simp [intOf]; omega
              · have FX : ¬ (decide (M ≤ x.1)) = true := by simpa using hge
                have g1 : decide ((x.1 : Int) ≥ (M : Int)) = false := decide_eq_false (by omega)
                have g2 : decide ((M : Int) ≤ (x.1 : Int)) = false := decide_eq_false (by omega)
                have HE8 : Hid (addN o0 ((L.take (i + 1)).filter (fun p => decide (M ≤ p.1))) = qs) := by
                  show _ = _
                  rw [HST.out, if_neg FX, List.append_nil, HQS.out]
                clear FX
                go_wp2_with fail
                go_roundw
                case rel => exact ⟨i + 1, t1, c1, by rw [HE8.out], by go_num, by omega, by rw [HE8.out]; exact HOW1.out, HAT.out, HO.out.trans HO1.out (fun _ _ h => h)⟩
                case measure => simp [intOf]; omega
            · obtain rfl : L.length = i := by omega
              have e1 : L.take L.length = L := List.take_of_length_le (Nat.le_refl _)
              rw [e1] at own ⊢
              have HFIN : Hid (addN o0 (L.filter (fun p => decide (M ≤ p.1))) = ojP M L 1) := by
                show _ = _
                rw [HO0.out]
                rfl
              rw [HFIN.out] at own ⊢
              have HOWF : Hid _ := own
              clear e1 own hat O
              go_wp2_with fail
              go_roundw
              case rel => exact ⟨1, t1, c1, rfl, rfl, by omega, HOWF.out, HAT.out, HO.out⟩
              case measure => simp [intOf]
        · obtain ⟨o0, ho0⟩ : ∃ o0, ojP M L 1 = o0 := ⟨_, rfl⟩
          have HO0 : Hid (o0 = ojP M L 1) := ho0.symm
          rw [ho0] at HOWJ HO8 ⊢
          have z9 : ((1 : Nat) : Int) = 1 := rfl
          rw [z9]
          clear ho0 z9
          go_wp2_with fail
          go_loopw [11, 106] (fun y z wr => ∃ (i : Nat) (t1 : Option Addr) (c1 : Nat), y = .slice t1 (addN o0 ((L.take i).filter (fun p => !decide (M ≤ p.1)))).length c1 ∧ z = .int .i64 (i : Int) ∧ i ≤ L.length ∧ OwnG 3 1 ics wr t1 c1 (addN o0 ((L.take i).filter (fun p => !decide (M ≤ p.1)))) ∧ (∀ k, blk t1 = some k → w9.heap.size ≤ k) ∧ Off (fun _ => False) w9 wr) (fun _ z _ => ((L.length : Int) - intOf z).toNat)
          case atStart => exact ⟨0, t0, c0, rfl, rfl, by omega, HOWJ.out, HATJ.out, HOJ.out⟩
          case round =>
            clear HOWJ HATJ HOJ
            obtain ⟨i, t1, c1, rfl, rfl, hi, own, hat, O⟩ := hrel
            have HAT : Hid _ := hat
            have HO : Hid _ := O
            have hL32 : L.length ≤ 32 := HL32.out
            by_cases hil : i < L.length
            · obtain ⟨x, hx⟩ : ∃ x, L[i]? = some x := ⟨_, List.getElem?_eq_getElem hil⟩
              have HST : Hid ((L.take (i + 1)).filter (fun p => !decide (M ≤ p.1)) = (L.take i).filter (fun p => !decide (M ≤ p.1)) ++ (if (!decide (M ≤ x.1)) = true then [x] else [])) := by
                show _ = _
                rw [List.take_add_one, hx, List.filter_append]
                congr 1
                simp only [Option.toList_some, List.filter_cons, List.filter_nil]
              have HLN : Hid ((addN o0 ((L.take i).filter (fun p => !decide (M ≤ p.1)))).length ≤ 40) := by
                have h1 := addN_len ((L.take i).filter (fun p => !decide (M ≤ p.1))) o0
                have h2 := List.length_filter_le (fun p => !decide (M ≤ p.1)) (L.take i)
                have h3 : (L.take i).length ≤ L.length := by rw [List.length_take]; omega
                have h4 : o0.length ≤ 8 := HO8.out
                have h5 : L.length ≤ 32 := HL32.out
                show _ ≤ _
                omega
              obtain ⟨qs, hqs⟩ : ∃ qs, addN o0 ((L.take i).filter (fun p => !decide (M ≤ p.1))) = qs := ⟨_, rfl⟩
              have HQS : Hid (addN o0 ((L.take i).filter (fun p => !decide (M ≤ p.1))) = qs) := hqs
              rw [hqs] at HLN own ⊢
              clear hqs
              obtain ⟨g, of, rfl, k0, k1, k2⟩ := (HRP9.out.off HO.out).at_ i x hx
              have C0 := Cel.new wr 69 #[.int .u32 (x.1 : Nat), .int .i64 (x.2.1 : Nat), .int .i64 (x.2.2 : Nat)]
              have O1 : Off (fun _ => False) wr (wr.alloc (.cells #[.int .u32 (x.1 : Nat), .int .i64 (x.2.1 : Nat), .int .i64 (x.2.2 : Nat)] 69)) := (Off.refl _ wr).alloc _
              have HC0 : Hid _ := C0
              have HO1 : Hid _ := O1
              have HOW1 : Hid _ := own.off O1 (fun _ _ _ h => h)
              clear own hat O C0 O1 hx
              go_upto_region 23 with fail
              generalize wr.heap.size = q at HC0 ⊢
              generalize wr.alloc (.cells #[.int .u32 (x.1 : Nat), .int .i64 (x.2.1 : Nat), .int .i64 (x.2.2 : Nat)] 69) = V at HC0 HO1 HOW1 ⊢
              have z0 : V.cell? ⟨q, 0, none⟩ = some (.int .u32 (x.1 : Nat)) := HC0.out.cell 0
              have z1 : V.cell? ⟨q, 1, none⟩ = some (.int .i64 (x.2.1 : Nat)) := HC0.out.cell 1
              clear k0 k1 k2
              by_cases hge : M ≤ x.1
              · have FX : ¬ (!decide (M ≤ x.1)) = true := by simpa using hge
                have g1 : decide ((x.1 : Int) ≥ (M : Int)) = true := decide_eq_true (by omega)
                have g2 : decide ((M : Int) ≤ (x.1 : Int)) = true := decide_eq_true (by omega)
                have HE8 : Hid (addN o0 ((L.take (i + 1)).filter (fun p => !decide (M ≤ p.1))) = qs) := by
                  show _ = _
                  rw [HST.out, if_neg FX, List.append_nil, HQS.out]
                clear FX
                go_wp2_with fail
                go_roundw
                case rel => exact ⟨i + 1, t1, c1, by rw [HE8.out], by go_num, by omega, by rw [HE8.out]; exact HOW1.out, HAT.out, HO.out.trans HO1.out (fun _ _ h => h)⟩
                case measure => simp [intOf]; omega
              · have FX : (!decide (M ≤ x.1)) = true := by simpa using hge
                have g1 : decide ((x.1 : Int) ≥ (M : Int)) = false := decide_eq_false (by omega)
                have g2 : decide ((M : Int) ≤ (x.1 : Int)) = false := decide_eq_false (by omega)
                have HSX : Hid (addN o0 ((L.take (i + 1)).filter (fun p => !decide (M ≤ p.1))) = addO qs x.2.1) := by
                  show _ = _
                  rw [HST.out, if_pos FX, addN_next, HQS.out]
                clear FX
                have HN : Hid _ := in_any t1 c1 qs (x.2.1 : Nat) V HOW1.out.its (by have : qs.length ≤ 40 := HLN.out; omega)
                go_wp2_with fail
                refine Calls.mono HN.out ?_
                rintro e w8 ⟨rfl, hw⟩
                rw [hw]
                clear hw w8 HN
                cases hb : inB qs (x.2.1 : Nat)
                · have HB : Hid _ := addO_yes hb
                  clear hb
                  have OA : Off (fun _ => False) V (V.alloc (.cells #[.int .i64 (x.2.1 : Nat)] 3)) := (Off.refl _ V).alloc _
                  have own4 := HOW1.out.off OA (fun _ _ _ h => h)
                  have cn := Cel.new V 3 #[.int .i64 (x.2.1 : Nat)]
                  have hcn : ∀ j u, (ics x.2.1)[j]? = some u → (V.alloc (.cells #[.int .i64 (x.2.1 : Nat)] 3)).cell? ⟨V.heap.size, j, none⟩ = some u := fun j u hj => by
                    rw [cn.cell j]
                    simpa [ics] using hj
                  have HOA : Hid _ := OA
                  clear OA cn
                  go_wp2_with (at_builtin; refine wpList_appG (cs := ics) rfl (.tmp 123) (.tmp 126) Try.underlying24 Try.infoN rfl (by decide) (by decide) ics_len ics_one rfl t1 c1 qs rfl own4 V.heap.size 1 x.2.1 rfl hcn (by have : qs.length ≤ 40 := HLN.out; omega) ?_; intro t' c' w' ys hys own' off' at')
                  have HYS : Hid (ys = addN o0 ((L.take (i + 1)).filter (fun p => !decide (M ≤ p.1)))) := by
                    show ys = _
                    rw [hys.out, HSX.out, HB.out]
                  have HOW' : Hid _ := own'
                  have HOF' : Hid _ := off'
                  clear own' off' own4 hcn hys
                  go_wp2_with fail
                  go_roundw
                  case rel =>
                    have s1 := HO1.out.size
                    have s0 := HO.out.size
                    simp only [World.size_alloc] at at'
                    rw [HYS.out] at HOW'
                    refine ⟨i + 1, t', c', by rw [HYS.out], by go_num, by omega, HOW'.out, fun k hk => ?_, ?_⟩
                    · rcases at' with h9 | h9
                      · exact HAT.out k (h9 ▸ hk)
                      · rw [h9] at hk
                        cases hk
                        omega
                    · exact ((HO.out.trans HO1.out (fun _ _ h => h)).trans HOA.out (fun _ _ h => h)).trans HOF'.out (fun k hk e => by have := HAT.out k e; omega)
                  case measure => simp [intOf]; omega
                · have HB : Hid _ := addO_no hb
                  clear hb
                  go_wp2_with fail
                  go_roundw
                  case rel =>
                    have e9 : addN o0 ((L.take (i + 1)).filter (fun p => !decide (M ≤ p.1))) = qs := by rw [HSX.out, HB.out]
                    exact ⟨i + 1, t1, c1, by rw [e9], by go_num, by omega, by rw [e9]; exact HOW1.out, HAT.out, HO.out.trans HO1.out (fun _ _ h => h)⟩
                  case measure => simp [intOf]; omega
            · obtain rfl : L.length = i := by omega
              have e1 : L.take L.length = L := List.take_of_length_le (Nat.le_refl _)
              rw [e1] at own ⊢
              have HFIN : Hid (addN o0 (L.filter (fun p => !decide (M ≤ p.1))) = ojP M L 2) := by
                show _ = _
                rw [HO0.out]
                rfl
              rw [HFIN.out] at own ⊢
              have HOWF : Hid _ := own
              clear e1 own hat O
              go_wp2_with fail
              go_roundw
              case rel => exact ⟨2, t1, c1, rfl, rfl, by omega, HOWF.out, HAT.out, HO.out⟩
              case measure => simp [intOf]
        · have HFQ : Hid (ojP M L 2 = ordP M L) := rfl
          rw [HFQ.out] at HOWJ ⊢
          have HFF : Hid _ := HF9.out.trans HOJ.out (fun _ _ h => h)
          have HFN : Hid (∀ k, blk t0 = some k → w.heap.size ≤ k) := fun k hk => Nat.le_trans HF9.out.size (HATJ.out k hk)
          go_wp2_with fail
          go_ret
          rw [HLQ.out]
          exact ⟨t0, c0, rfl, HOWJ.out, HFN.out, HFF.out⟩
end Go.Proofs.Ytpiknkgnmjcjjaa
