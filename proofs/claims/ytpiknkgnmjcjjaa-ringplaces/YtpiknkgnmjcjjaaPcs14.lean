/- The walk of RingPlaces. -/
import Derived.Test.YtpiknkgnmjcjjaaFar14
namespace Go.Proofs.Ytpiknkgnmjcjjaa
set_option maxRecDepth 100000
open Go.RowKit

set_option maxHeartbeats 1000000 in
theorem places_walk (p : Int) (s : ByteArray) (w : World) (_ : -9223372036854775808 ≤ p ∧ p ≤ 9223372036854775807) (hs : s.size ≤ 140737488351232) :
    Calls Try.prog 7 #[.int .i64 p, .string s] w fun e w' => e = .returned (.bool true) ∧ Off (fun _ => False) w w' := by
  obtain ⟨N, hN, ep⟩ := u64_mod p 8 (by omega) (by omega)
  obtain ⟨x, hx⟩ : ∃ x : Nat, x = N + 1 := ⟨_, rfl⟩
  have ex : (N : Int) + 1 = (x : Int) := by omega
  have hx8 : x ≤ 8 := by omega
  have hx1 : 1 ≤ x := by omega
  clear hx
  have HML : Hid _ := mixL_lt (tx s)
  have HLL : Hid _ := ord_len (mixL (tx s)) x
  have HLM : Hid _ := ord_mem (mixL (tx s)) x
  have HFR : Hid _ := ord_far (mixL (tx s)) x (mixL_lt _)
  have HOR : Hid (∀ D b m w, Rng D b x m w → Calls Try.prog 12 #[.pointer (some ⟨b, 0, none⟩), .string s] w fun e w' => ∃ t c, e = .returned (.slice t (ordP (mixL (tx s)) (ptsP x)).length c) ∧ ∃ D', Rng D' b x 1 w' ∧ OwnG 3 1 ics w' t c (ordP (mixL (tx s)) (ptsP x)) ∧ (∀ k, blk t = some k → w.heap.size ≤ k ∧ ¬ D' k) ∧ (∀ k, D' k → D k ∨ w.heap.size ≤ k) ∧ Off D w w') := fun D b m w h => order_any D b x m hx8 s hs w h
  have HMX : Hid (∀ V, ∃ cap W, (convert 9 42 (.string s)).run Try.prog V = .ok (.slice (some ⟨V.heap.size, 0, none⟩) (tx s).length cap) W ∧ Off (fun _ => False) V W ∧ Calls Try.prog 19 #[.slice (some ⟨V.heap.size, 0, none⟩) (tx s).length cap] W fun e w' => e = .returned (.int .u32 (mixL (tx s) : Nat)) ∧ w' = W) := fun V => by
    obtain ⟨cap, W, hcv, src, off⟩ := conv_tx s V
    have hl := tx_len s
    exact ⟨cap, W, hcv, off, rmix_any (some ⟨V.heap.size, 0, none⟩) (tx s).length cap (by omega) (fun i => (tx s).getD i 0) W (src_at src (tx_lt s))⟩
  generalize ordP (mixL (tx s)) (ptsP x) = l at *
  generalize mixL (tx s) = M at *
  go_enter Try.func7, Try.ntmps7
  go_wp2_with fail
  refine (new_nat x hx8 w).mono ?_
  rintro e w1 ⟨rfl, r1, o1⟩
  have HC3 : Hid _ := HOR.out _ _ _ w1 r1
  have HO1 : Hid _ := o1
  clear o1 r1
  go_wp2_with fail
  refine Calls.mono HC3.out ?_
  rintro e w2 ⟨t, c, rfl, D2, r2, own2, hat2, hD2, o2⟩
  have HI2 : Hid _ := own2.its
  have HO2 : Hid _ := HO1.out.trans o2 (fun k hk e => by have e : k = w.heap.size := e; omega)
  clear r2 own2 hat2 hD2 o2 HC3 HO1 HOR
  rw [HLL.out]
  have q0 : ((x : Int) != (x : Int)) = false := by simp
  have q1 : (x != x) = false := by simp
  obtain ⟨cap, W, hcv, o3, hm⟩ := HMX.out w2
  have HO3 : Hid _ := HO2.out.trans o3 (fun _ _ h => h)
  have HI3 : Hid _ := HI2.out.off o3
  have HM3 : Hid _ := hm
  clear hm o3 HI2 HO2 HMX
  go_wp2_with fail
  refine Calls.mono HM3.out ?_
  rintro e w9 ⟨rfl, hw⟩
  rw [hw]
  clear hw w9 HM3 hcv
  go_upto_region 6 with fail
  have CQ := Cel.new W 40 #[.int .u32 (M : Nat)]
  have O4 : Off (fun _ => False) W (W.alloc (.cells #[.int .u32 (M : Nat)] 40)) := (Off.refl _ W).alloc _
  generalize W.heap.size = q at CQ ⊢
  generalize W.alloc (.cells #[.int .u32 (M : Nat)] 40) = w4 at CQ O4 ⊢
  have HI4 : Hid _ := HI3.out.off O4
  have HO4 : Hid _ := HO3.out.trans O4 (fun _ _ h => h)
  have HQ4 : Hid _ := CQ
  clear CQ O4 HI3 HO3
  have hmf : ∀ (fn : Fn) (first cap : Array Value) (w : World), (Instr.makeFunc fn first cap).run Try.prog w = .ok (.func fn first cap) w := fun _ _ _ _ => rfl
  go_wp2_with fail
  go_loopw [8] (fun i wr => ∃ j : Nat, i = .int .i64 (j : Int) ∧ 1 ≤ j ∧ j ≤ x ∧ Off (fun _ => False) w4 wr) (fun i _ => ((x : Int) - intOf i).toNat)
  case atStart => exact ⟨1, rfl, by omega, by omega, Off.refl _ _⟩
  case round =>
    obtain ⟨j, rfl, hj1, hj, o⟩ := hrel
    have HO : Hid _ := o
    clear o
    by_cases hlt : j < x
    · obtain ⟨k, hk⟩ : ∃ k, j = k + 1 := ⟨j - 1, by omega⟩
      have ek : (j : Int) - 1 = (k : Int) := by omega
      have hkx : k < x := by omega
      obtain ⟨y, hy⟩ : ∃ y, l[k]? = some y := ⟨_, List.getElem?_eq_getElem (by rw [HLL.out]; exact hkx)⟩
      obtain ⟨z, hz⟩ : ∃ z, l[j]? = some z := ⟨_, List.getElem?_eq_getElem (by rw [HLL.out]; exact hlt)⟩
      obtain ⟨g, rfl, -⟩ := HI4.out.at_ k y hy
      have HX : Hid (∀ w', Off (fun _ => False) wr w' → w'.cell? ⟨g, k, none⟩ = some (.int .i64 (y : Nat))) := fun w' hw' => by
        obtain ⟨g', e', kk⟩ := ((HI4.out.off HO.out).off hw').at_ k y hy
        simp only [Option.some.injEq, Addr.mk.injEq, and_true] at e'
        subst e'
        exact kk
      have HZ : Hid (∀ w', Off (fun _ => False) wr w' → w'.cell? ⟨g, j, none⟩ = some (.int .i64 (z : Nat))) := fun w' hw' => by
        obtain ⟨g', e', kk⟩ := ((HI4.out.off HO.out).off hw').at_ j z hz
        simp only [Option.some.injEq, Addr.mk.injEq, and_true] at e'
        subst e'
        exact kk
      have hyx : y < x := (HLM.out y).1 (List.mem_of_getElem? hy)
      have hzx : z < x := (HLM.out z).1 (List.mem_of_getElem? hz)
      have hle : frP M y 4 ≤ frP M z 4 := by
        obtain ⟨h1, e1⟩ := List.getElem?_eq_some_iff.1 hy
        obtain ⟨h2, e2⟩ := List.getElem?_eq_some_iff.1 hz
        have := List.pairwise_iff_getElem.1 HFR.out k j h1 h2 (by omega)
        rw [e1, e2] at this
        exact this
      have HFY : Hid (∀ w', Off (fun _ => False) wr w' → Calls Try.prog 20 #[.int .i64 (y : Int), .pointer (some ⟨q, 0, none⟩)] w' fun e w'' => e = .returned (.int .u32 (frP M y 4 : Nat)) ∧ Off (fun _ => False) w' w'') := fun w' hw' => far_any q M y (by omega) HML.out w' ((HQ4.out.off HO.out (fun h => h)).off hw' (fun h => h))
      have HFZ : Hid (∀ w', Off (fun _ => False) wr w' → Calls Try.prog 20 #[.int .i64 (z : Int), .pointer (some ⟨q, 0, none⟩)] w' fun e w'' => e = .returned (.int .u32 (frP M z 4 : Nat)) ∧ Off (fun _ => False) w' w'') := fun w' hw' => far_any q M z (by omega) HML.out w' ((HQ4.out.off HO.out (fun h => h)).off hw' (fun h => h))
      generalize frP M y 4 = F1 at hle HFY
      generalize frP M z 4 = F2 at hle HFZ
      have d1 : decide ((F1 : Int) > (F2 : Int)) = false := decide_eq_false (by omega)
      have d2 : decide ((F2 : Int) < (F1 : Int)) = false := decide_eq_false (by omega)
      have d3 : decide (F2 < F1) = false := decide_eq_false (by omega)
      clear hy hz hk
      go_upto_region 10 with fail
      refine wp_region_held_drew (S := Off (fun _ => False) wr) (by kernel_rfl) ((Off.refl _ wr).drew) (fun hS => ?_)
      refine take_at (i := 0) 31 (v := .func (.func 20) #[] #[.pointer (some ⟨q, 0, none⟩)]) rfl rfl (by kernel_rfl) (by kernel_rfl) (by kernel_rfl) (fun _ _ _ h => h) (Or.inl ⟨by rfl, fun w' hw' => by go_simp⟩) hS ?_
      simp only [Act.put, List.setIfInBounds_toArray, List.set_cons_zero, List.set_cons_succ]
      refine take_at (i := 1) 32 (v := .slice (some ⟨g, 0, none⟩) x c) rfl rfl (by kernel_rfl) (by kernel_rfl) (by kernel_rfl) (fun _ _ _ h => h) (Or.inl ⟨by rfl, fun w' hw' => by go_simp⟩) hS ?_
      simp only [Act.put, List.setIfInBounds_toArray, List.set_cons_zero, List.set_cons_succ]
      refine take_at (i := 2) 33 (v := .int .i64 (j : Int)) rfl rfl (by kernel_rfl) (by kernel_rfl) (by kernel_rfl) (fun _ _ _ h => h) (Or.inl ⟨by rfl, fun w' hw' => by go_simp⟩) hS ?_
      simp only [Act.put, List.setIfInBounds_toArray, List.set_cons_zero, List.set_cons_succ]
      refine take_at (i := 3) 34 (v := .int .i64 (k : Int)) rfl rfl (by kernel_rfl) (by kernel_rfl) (by kernel_rfl) (fun _ _ _ h => h) (Or.inl ⟨by rfl, fun w' hw' => by go_simp; rw [IntKind.wrap_i64]; omega⟩) hS ?_
      simp only [Act.put, List.setIfInBounds_toArray, List.set_cons_zero, List.set_cons_succ]
      refine take_at (i := 4) 35 (v := .pointer (some ⟨g, k, none⟩)) rfl rfl (by kernel_rfl) (by kernel_rfl) (by kernel_rfl) (fun _ _ _ h => h) (Or.inl ⟨by rfl, fun w' hw' => by go_simp⟩) hS ?_
      simp only [Act.put, List.setIfInBounds_toArray, List.set_cons_zero, List.set_cons_succ]
      refine take_at (i := 5) 36 (v := .int .i64 (y : Nat)) rfl rfl (by kernel_rfl) (by kernel_rfl) (by kernel_rfl) (fun _ _ _ h => h) (Or.inl ⟨by rfl, fun w' hw' => by have x0 := HX.out w' hw'; go_simp⟩) hS ?_
      simp only [Act.put, List.setIfInBounds_toArray, List.set_cons_zero, List.set_cons_succ]
      refine take_at (i := 7) 38 (v := .func (.func 20) #[] #[.pointer (some ⟨q, 0, none⟩)]) rfl rfl (by kernel_rfl) (by kernel_rfl) (by kernel_rfl) (fun _ _ _ h => h) (Or.inl ⟨by rfl, fun w' hw' => by go_simp⟩) hS ?_
      simp only [Act.put, List.setIfInBounds_toArray, List.set_cons_zero, List.set_cons_succ]
      refine take_at (i := 8) 39 (v := .slice (some ⟨g, 0, none⟩) x c) rfl rfl (by kernel_rfl) (by kernel_rfl) (by kernel_rfl) (fun _ _ _ h => h) (Or.inl ⟨by rfl, fun w' hw' => by go_simp⟩) hS ?_
      simp only [Act.put, List.setIfInBounds_toArray, List.set_cons_zero, List.set_cons_succ]
      refine take_at (i := 9) 40 (v := .int .i64 (j : Int)) rfl rfl (by kernel_rfl) (by kernel_rfl) (by kernel_rfl) (fun _ _ _ h => h) (Or.inl ⟨by rfl, fun w' hw' => by go_simp⟩) hS ?_
      simp only [Act.put, List.setIfInBounds_toArray, List.set_cons_zero, List.set_cons_succ]
      refine take_at (i := 10) 41 (v := .pointer (some ⟨g, j, none⟩)) rfl rfl (by kernel_rfl) (by kernel_rfl) (by kernel_rfl) (fun _ _ _ h => h) (Or.inl ⟨by rfl, fun w' hw' => by go_simp⟩) hS ?_
      simp only [Act.put, List.setIfInBounds_toArray, List.set_cons_zero, List.set_cons_succ]
      refine take_at (i := 11) 42 (v := .int .i64 (z : Nat)) rfl rfl (by kernel_rfl) (by kernel_rfl) (by kernel_rfl) (fun _ _ _ h => h) (Or.inl ⟨by rfl, fun w' hw' => by have x0 := HZ.out w' hw'; go_simp⟩) hS ?_
      simp only [Act.put, List.setIfInBounds_toArray, List.set_cons_zero, List.set_cons_succ]
      refine wpAnyH_ready (rs := [6]) (by kernel_rfl) (by simp) ?_
      refine AllReadyH.cons rfl (fun K' hK' => ?_) AllReadyH.nil
      go_simp
      refine (HFY.out _ hS).mono ?_
      rintro e v ⟨rfl, o1⟩
      have hS1 := hS.trans o1 (fun _ _ h => h)
      refine hK'.out _ _ hS1 (fun hS => ?_)
      clear hK' K' hS1 o1
      refine wpAnyH_ready (rs := [12]) (by kernel_rfl) (by simp) ?_
      refine AllReadyH.cons rfl (fun K' hK' => ?_) AllReadyH.nil
      go_simp
      refine (HFZ.out _ hS).mono ?_
      rintro e v ⟨rfl, o1⟩
      have hS1 := hS.trans o1 (fun _ _ h => h)
      refine hK'.out _ _ hS1 (fun hS => ?_)
      clear hK' K' hS1 o1
      refine take_at (i := 13) 44 (v := .bool false) rfl rfl (by kernel_rfl) (by kernel_rfl) (by kernel_rfl) (fun _ _ _ h => h) (Or.inl ⟨by rfl, fun w' hw' => by go_simp⟩) hS ?_
      simp only [Act.put, List.setIfInBounds_toArray, List.set_cons_zero, List.set_cons_succ]
      refine wpAnyH_done (by kernel_rfl) ?_ _
      go_wp2_with fail
      go_roundw
      case rel => exact ⟨j + 1, by go_num, by omega, by omega, HO.out.trans hS (fun _ _ h => h)⟩
      case measure => simp [intOf]; omega
    · obtain rfl : x = j := by omega
      have HF : Hid _ := HO4.out.trans HO.out (fun _ _ h => h)
      go_wp2_with fail
      refine (awake_any _).mono ?_
      rintro e wB ⟨rfl, oB⟩
      have HFC : Hid _ := HF.out.trans oB (fun _ _ h => h)
      clear oB
      go_wp2_with fail
      go_ret
      exact ⟨rfl, HFC.out⟩
end Go.Proofs.Ytpiknkgnmjcjjaa
