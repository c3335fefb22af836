/- The walk of ViewPlays. -/
import Derived.Test.YtakijikehpblfaaDo16
namespace Go.Proofs.Ytakijikehpblfaa
set_option maxRecDepth 100000
open Go.RowKit

theorem Off.keep {D : Nat → Prop} {w w' : World} (h : Off D w w') {b o : Nat} {v : Value} (hc : w.cell? ⟨b, o, none⟩ = some v) (hD : ¬ D b) : w'.cell? ⟨b, o, none⟩ = some v := by
  rw [← hc]
  exact World.cell?_of_block (a := ⟨b, o, none⟩) (h.block b (cell_lt hc) hD)
section
variable {P : Program} {ops : Array Oper} {Q : Exit → Act → World → Prop} {md : Region.Mode}
/-- What stands may be said anew, and more of it, in the middle of a region. -/
theorem wpAnyH_mono {S S' : World → Prop} (h : ∀ w, S' w → S w) : ∀ (fuel : Nat) (listed : Array Bool) (a : Act) (w : World), wpAnyH P md ops Q S' fuel listed a w → wpAnyH P md ops Q S fuel listed a w
  | 0, _, _, _, k => k
  | fuel + 1, _, _, _, k => ⟨k.1, fun i hi => wpOp_mono (fun a' w' h' => ⟨h _ h'.1, wpAnyH_mono h fuel _ a' w' h'.2⟩) (k.2 i hi)⟩
end
set_option maxHeartbeats 4000000 in
theorem plays_walk (q0 q1 : Int) (ad : Option Addr) (cap : Nat) (es : List C) (w : World) (_ : -9223372036854775808 ≤ q0 ∧ q0 ≤ 9223372036854775807) (_ : -9223372036854775808 ≤ q1 ∧ q1 ≤ 9223372036854775807) (hcs : Cas w ad cap es) :
    Calls Try.prog 3 #[.int .i64 q0, .int .i64 q1, .slice ad es.length cap] w fun e w' => e = .returned (.bool true) ∧ Off (fun _ => False) w w' := by
  have HCS : Hid _ := hcs
  have hel := hcs.len
  clear hcs
  cases hh : hasB (clN q0) q1
  · have HN1 : Hid _ := new_no hh w
    have HN2 : Hid (∀ W, _) := fun W => rnew_no hh W
    clear hh
    go_enter Try.func3, Try.ntmps3
    go_wp2_with fail
    refine Calls.mono HN1.out ?_
    rintro e0 w1 ⟨rfl, o1⟩
    have HO : Hid _ := o1
    clear o1
    go_wp2_with fail
    refine Calls.mono (HN2.out w1) ?_
    rintro e0 w2 ⟨rfl, hw⟩
    rw [hw]
    clear hw w2
    go_wp2_with fail
    refine (awake_any _).mono ?_
    rintro e0 wB ⟨rfl, oB⟩
    have HFC : Hid _ := HO.out.trans oB (fun _ _ h => h)
    clear oB
    go_wp2_with fail
    go_ret
    exact ⟨rfl, HFC.out⟩
  · obtain ⟨i, rfl, hi⟩ := hasB_of hh
    have HN1 : Hid _ := new_yes hi w
    have HN2 : Hid (∀ W, _) := fun W => rnew_yes hi W
    have hn8 := clN_le q0
    clear hh
    generalize clN q0 = n at *
    have HI : Hid (i < n) := hi
    clear hi
    go_enter Try.func3, Try.ntmps3
    go_wp2_with fail
    refine Calls.mono HN1.out ?_
    rintro e0 w1 ⟨rfl, v1, o1⟩
    have HW1 : Hid (w.heap.size ≤ w1.heap.size) := o1.size
    generalize hp : w.heap.size = p at v1 ⊢
    have HPW : Hid (w.heap.size = p) := hp
    have HV1 : Hid _ := v1
    have HO1 : Hid _ := o1
    clear v1 o1 hp HN1
    go_wp2_with fail
    refine Calls.mono (HN2.out w1) ?_
    rintro e0 w2 ⟨q, a, b, c, rfl, r2, hnew, o2⟩
    have HV2 : Hid _ := HV1.out.off o2 (fun h => h)
    have HR2 : Hid _ := r2
    have HO2 : Hid _ := HO1.out.trans o2 (fun _ _ h => h)
    have HNW : Hid (w.heap.size ≤ p ∧ w.heap.size ≤ a ∧ w.heap.size ≤ b ∧ w.heap.size ≤ c) := by
      have h1 := HW1.out
      have h2 := HPW.out
      show _ ∧ _ ∧ _ ∧ _
      omega
    clear r2 hnew o2 HN2 HV1 HO1 HW1
    go_wp2_with fail
    go_loopw [9] (fun s9 wr => ∃ (j : Nat) (d e : VD), s9 = .int .i64 (j : Int) ∧ j ≤ es.length ∧ j ≤ 120 ∧ d.n = n ∧ Rel d e (j : Int) ∧ Vw p d wr ∧ RVw q a b c e wr ∧ Off (fun _ => False) w wr) (fun i _ => ((es.length : Int) - intOf i).toNat)
    case atStart => exact ⟨0, d0 n i, d0 n i, rfl, by omega, by omega, rfl, Rel.start HI.out, HV2.out, HR2.out, HO2.out⟩
    case round =>
      obtain ⟨j, d, e, rfl, hj, hj2, hdn, hrl, v, r, o⟩ := hrel
      clear HV2 HR2 HO2
      have HV : Hid _ := v
      have HR : Hid _ := r
      have HO : Hid _ := o
      have HRL : Hid _ := hrl
      have HDN : Hid (d.n = n) := hdn
      clear v r o hrl hdn
      by_cases hlt : j < es.length
      · by_cases h120 : 120 ≤ j
        · have t1 : decide ((j : Int) < 120) = false := decide_eq_false (by omega)
          have t2 : decide (j < 120) = false := decide_eq_false (by omega)
          go_wp2_with fail
          refine (awake_any _).mono ?_
          rintro e0 wB ⟨rfl, oB⟩
          have HFC : Hid _ := HO.out.trans oB (fun _ _ h => h)
          clear oB
          go_wp2_with fail
          go_ret
          exact ⟨rfl, HFC.out⟩
        · have t1 : decide ((j : Int) < 120) = true := decide_eq_true (by omega)
          have t2 : decide (j < 120) = true := decide_eq_true (by omega)
          obtain ⟨x, hx⟩ : ∃ x, es[j]? = some x := ⟨_, List.getElem?_eq_getElem hlt⟩
          obtain ⟨g, of, rfl, ⟨k0, k1, k2⟩, hml, hkl⟩ := HCS.out.at_ j x hx
          obtain ⟨k, node, la, lc, l⟩ := x
          simp only at k0 k1 k2 hml hkl
          have K0 : Hid _ := k0
          have K1 : Hid _ := k1
          have K2 : Hid _ := k2
          have HML : Hid _ := hml
          have HDO : Hid (∀ W, Vw p d W → RVw q a b c e W → Mls W la lc l → Calls Try.prog 12 #[.pointer (some ⟨p, 0, none⟩), .pointer (some ⟨q, 0, none⟩), .agg #[.int .i64 k, .int .i64 node, .slice la l.length lc]] W fun E w' => E = .returned (.bool true) ∧ Vw p (doD d ⟨k, node, la, lc, l⟩) w' ∧ RVw q a b c (doE e ⟨k, node, la, lc, l⟩) w' ∧ Off (fun k => k = p ∨ k = a ∨ k = b ∨ k = c) W w') := fun W hv hr hm =>
            do_any HRL.out (by omega) k node la lc l hm (fun hl => by
              have h := HNW.out
              refine ⟨fun e => ?_, fun e => ?_, fun e => ?_, fun e => ?_⟩ <;> (have := hkl _ e hl; omega)) hv hr
          have HRL1 : Hid _ := HRL.out.do_ ⟨k, node, la, lc, l⟩
          have HDN1 : Hid ((doD d ⟨k, node, la, lc, l⟩).n = n) := (doD_n _ _).1.trans HDN.out
          have HEN : Hid ((doE e ⟨k, node, la, lc, l⟩).n = n) := HRL1.out.n.trans HDN1.out
          clear k0 k1 k2 hml hkl hx
          generalize doD d ⟨k, node, la, lc, l⟩ = d1 at *
          generalize doE e ⟨k, node, la, lc, l⟩ = e1 at *
          go_upto_region 9 with fail
          clear t1 t2
          refine wp_region_held_drew (S := Off (fun _ => False) w) (by kernel_rfl) (HO.out.drew) (fun hS => ?_)
          refine take_at (i := 0) 35 (v := .pointer (some ⟨p, 0, none⟩)) rfl rfl (by kernel_rfl) (by kernel_rfl) (by kernel_rfl) (fun _ _ _ h => h) (Or.inl ⟨by rfl, fun w' hw' => by go_simp⟩) hS ?_
          simp only [Act.put, List.setIfInBounds_toArray, List.set_cons_zero, List.set_cons_succ]
          refine take_at (i := 1) 36 (v := .pointer (some ⟨q, 0, none⟩)) rfl rfl (by kernel_rfl) (by kernel_rfl) (by kernel_rfl) (fun _ _ _ h => h) (Or.inl ⟨by rfl, fun w' hw' => by go_simp⟩) hS ?_
          simp only [Act.put, List.setIfInBounds_toArray, List.set_cons_zero, List.set_cons_succ]
          refine take_at (i := 2) 37 (v := .slice (some ⟨g, of, none⟩) es.length cap) rfl rfl (by kernel_rfl) (by kernel_rfl) (by kernel_rfl) (fun _ _ _ h => h) (Or.inl ⟨by rfl, fun w' hw' => by go_simp⟩) hS ?_
          simp only [Act.put, List.setIfInBounds_toArray, List.set_cons_zero, List.set_cons_succ]
          refine take_at (i := 3) 38 (v := .int .i64 (j : Int)) rfl rfl (by kernel_rfl) (by kernel_rfl) (by kernel_rfl) (fun _ _ _ h => h) (Or.inl ⟨by rfl, fun w' hw' => by go_simp⟩) hS ?_
          simp only [Act.put, List.setIfInBounds_toArray, List.set_cons_zero, List.set_cons_succ]
          refine take_at (i := 4) 39 (v := .pointer (some ⟨g, of + j * 3, none⟩)) rfl rfl (by kernel_rfl) (by kernel_rfl) (by kernel_rfl) (fun _ _ _ h => h) (Or.inl ⟨by rfl, fun w' hw' => by go_simp⟩) hS ?_
          simp only [Act.put, List.setIfInBounds_toArray, List.set_cons_zero, List.set_cons_succ]
          refine take_at (i := 5) 40 (v := .agg #[.int .i64 k, .int .i64 node, .slice la l.length lc]) rfl rfl (by kernel_rfl) (by kernel_rfl) (by kernel_rfl) (fun _ _ _ h => h) (Or.inl ⟨by rfl, fun w' hw' => by have z0 := hw'.keep K0.out (fun h => h); have z1 := hw'.keep K1.out (fun h => h); have z2 := hw'.keep K2.out (fun h => h); go_simp⟩) hS ?_
          simp only [Act.put, List.setIfInBounds_toArray, List.set_cons_zero, List.set_cons_succ]
          refine wpAnyH_ready (rs := [6]) (by kernel_rfl) (by simp) ?_
          refine AllReadyH.cons rfl (fun K' hK' => ?_) AllReadyH.nil
          go_simp
          refine (HDO.out _ HV.out.drew HR.out.drew ((HML.out.offD HO.out (fun _ _ _ h => h)).drew)).mono ?_
          rintro e0 V1 ⟨rfl, v1, r1, o1⟩
          have HV1 : Hid _ := v1
          have HR1 : Hid _ := r1
          have HO1 : Hid (Off (fun _ => False) w V1) := HO.out.drew.trans o1 (fun k hk e => by have h := HNW.out; omega)
          refine hK'.out _ _ HO1.out (fun hS => ?_)
          clear hK' K' v1 r1 o1 HV HR
          refine wpAnyH_mono (S' := Off (fun _ => False) V1) (fun _ h => HO1.out.trans h (fun _ _ h => h)) _ _ _ _ ?_
          clear hS
          have hS : Off (fun _ => False) V1 V1 := Off.refl _ V1
          have L1 : Hid _ := HO1.out.keep K1.out (fun h => h)
          refine take_at (i := 7) 42 (v := .bool false) rfl rfl (by kernel_rfl) (by kernel_rfl) (by kernel_rfl) (fun _ _ _ h => h) (Or.inl ⟨by rfl, fun w' hw' => by go_simp⟩) hS ?_
          simp only [Act.put, List.setIfInBounds_toArray, List.set_cons_zero, List.set_cons_succ]
          refine take_at (i := 8) 43 (v := .bool false) rfl rfl (by kernel_rfl) (by kernel_rfl) (by kernel_rfl) (fun _ _ _ h => h) (Or.inl ⟨by rfl, fun w' hw' => by go_simp⟩) hS ?_
          simp only [Act.put, List.setIfInBounds_toArray, List.set_cons_zero, List.set_cons_succ]
          refine take_at (i := 9) 44 (v := .pointer (some ⟨p, 0, none⟩)) rfl rfl (by kernel_rfl) (by kernel_rfl) (by kernel_rfl) (fun _ _ _ h => h) (Or.inl ⟨by rfl, fun w' hw' => by go_simp⟩) hS ?_
          simp only [Act.put, List.setIfInBounds_toArray, List.set_cons_zero, List.set_cons_succ]
          refine take_at (i := 10) 45 (v := .slice (some ⟨g, of, none⟩) es.length cap) rfl rfl (by kernel_rfl) (by kernel_rfl) (by kernel_rfl) (fun _ _ _ h => h) (Or.inl ⟨by rfl, fun w' hw' => by go_simp⟩) hS ?_
          simp only [Act.put, List.setIfInBounds_toArray, List.set_cons_zero, List.set_cons_succ]
          refine take_at (i := 11) 46 (v := .int .i64 (j : Int)) rfl rfl (by kernel_rfl) (by kernel_rfl) (by kernel_rfl) (fun _ _ _ h => h) (Or.inl ⟨by rfl, fun w' hw' => by go_simp⟩) hS ?_
          simp only [Act.put, List.setIfInBounds_toArray, List.set_cons_zero, List.set_cons_succ]
          refine take_at (i := 12) 47 (v := .pointer (some ⟨g, of + j * 3, none⟩)) rfl rfl (by kernel_rfl) (by kernel_rfl) (by kernel_rfl) (fun _ _ _ h => h) (Or.inl ⟨by rfl, fun w' hw' => by go_simp⟩) hS ?_
          simp only [Act.put, List.setIfInBounds_toArray, List.set_cons_zero, List.set_cons_succ]
          refine take_at (i := 13) 48 (v := .pointer (some ⟨g, of + j * 3 + 1, none⟩)) rfl rfl (by kernel_rfl) (by kernel_rfl) (by kernel_rfl) (fun _ _ _ h => h) (Or.inl ⟨by rfl, fun w' hw' => by go_simp⟩) hS ?_
          simp only [Act.put, List.setIfInBounds_toArray, List.set_cons_zero, List.set_cons_succ]
          refine take_at (i := 14) 49 (v := .int .i64 node) rfl rfl (by kernel_rfl) (by kernel_rfl) (by kernel_rfl) (fun _ _ _ h => h) (Or.inl ⟨by rfl, fun w' hw' => by have z1 := hw'.keep L1.out (fun h => h); go_simp⟩) hS ?_
          simp only [Act.put, List.setIfInBounds_toArray, List.set_cons_zero, List.set_cons_succ]
          refine take_at (i := 16) 51 (v := .pointer (some ⟨q, 0, none⟩)) rfl rfl (by kernel_rfl) (by kernel_rfl) (by kernel_rfl) (fun _ _ _ h => h) (Or.inl ⟨by rfl, fun w' hw' => by go_simp⟩) hS ?_
          simp only [Act.put, List.setIfInBounds_toArray, List.set_cons_zero, List.set_cons_succ]
          refine take_at (i := 17) 52 (v := .slice (some ⟨g, of, none⟩) es.length cap) rfl rfl (by kernel_rfl) (by kernel_rfl) (by kernel_rfl) (fun _ _ _ h => h) (Or.inl ⟨by rfl, fun w' hw' => by go_simp⟩) hS ?_
          simp only [Act.put, List.setIfInBounds_toArray, List.set_cons_zero, List.set_cons_succ]
          refine take_at (i := 18) 53 (v := .int .i64 (j : Int)) rfl rfl (by kernel_rfl) (by kernel_rfl) (by kernel_rfl) (fun _ _ _ h => h) (Or.inl ⟨by rfl, fun w' hw' => by go_simp⟩) hS ?_
          simp only [Act.put, List.setIfInBounds_toArray, List.set_cons_zero, List.set_cons_succ]
          refine take_at (i := 19) 54 (v := .pointer (some ⟨g, of + j * 3, none⟩)) rfl rfl (by kernel_rfl) (by kernel_rfl) (by kernel_rfl) (fun _ _ _ h => h) (Or.inl ⟨by rfl, fun w' hw' => by go_simp⟩) hS ?_
          simp only [Act.put, List.setIfInBounds_toArray, List.set_cons_zero, List.set_cons_succ]
          refine take_at (i := 20) 55 (v := .pointer (some ⟨g, of + j * 3 + 1, none⟩)) rfl rfl (by kernel_rfl) (by kernel_rfl) (by kernel_rfl) (fun _ _ _ h => h) (Or.inl ⟨by rfl, fun w' hw' => by go_simp⟩) hS ?_
          simp only [Act.put, List.setIfInBounds_toArray, List.set_cons_zero, List.set_cons_succ]
          refine take_at (i := 21) 56 (v := .int .i64 node) rfl rfl (by kernel_rfl) (by kernel_rfl) (by kernel_rfl) (fun _ _ _ h => h) (Or.inl ⟨by rfl, fun w' hw' => by have z1 := hw'.keep L1.out (fun h => h); go_simp⟩) hS ?_
          simp only [Act.put, List.setIfInBounds_toArray, List.set_cons_zero, List.set_cons_succ]
          have HS1 : Hid _ := state_any node HV1.out
          have HS2 : Hid _ := rstate_any node HR1.out
          rw [HRL1.out.n, HRL1.out.m] at HS2
          generalize (if hasB d1.n node = true then (d1.m node.toNat).1 else 2) = sv at HS1 HS2
          refine wpAnyH_ready (rs := [15]) (by kernel_rfl) (by simp) ?_
          refine AllReadyH.cons rfl (fun K' hK' => ?_) AllReadyH.nil
          go_simp
          refine Calls.mono HS1.out ?_
          rintro e0 V2 ⟨rfl, hw⟩
          rw [hw]
          clear hw V2
          refine hK'.out _ _ hS (fun hS => ?_)
          clear hK' K'
          refine wpAnyH_ready (rs := [22]) (by kernel_rfl) (by simp) ?_
          refine AllReadyH.cons rfl (fun K' hK' => ?_) AllReadyH.nil
          go_simp
          refine Calls.mono HS2.out ?_
          rintro e0 V2 ⟨rfl, hw⟩
          rw [hw]
          clear hw V2
          refine hK'.out _ _ hS (fun hS => ?_)
          clear hK' K'
          refine take_at (i := 23) 58 (v := .bool false) rfl rfl (by kernel_rfl) (by kernel_rfl) (by kernel_rfl) (fun _ _ _ h => h) (Or.inl ⟨by rfl, fun w' hw' => by go_simp⟩) hS ?_
          simp only [Act.put, List.setIfInBounds_toArray, List.set_cons_zero, List.set_cons_succ]
          refine take_at (i := 24) 59 (v := .bool false) rfl rfl (by kernel_rfl) (by kernel_rfl) (by kernel_rfl) (fun _ _ _ h => h) (Or.inl ⟨by rfl, fun w' hw' => by go_simp⟩) hS ?_
          simp only [Act.put, List.setIfInBounds_toArray, List.set_cons_zero, List.set_cons_succ]
          refine take_at (i := 25) 60 (v := .bool false) rfl rfl (by kernel_rfl) (by kernel_rfl) (by kernel_rfl) (fun _ _ _ h => h) (Or.inl ⟨by rfl, fun w' hw' => by go_simp⟩) hS ?_
          simp only [Act.put, List.setIfInBounds_toArray, List.set_cons_zero, List.set_cons_succ]
          refine take_at (i := 26) 61 (v := .pointer (some ⟨p, 0, none⟩)) rfl rfl (by kernel_rfl) (by kernel_rfl) (by kernel_rfl) (fun _ _ _ h => h) (Or.inl ⟨by rfl, fun w' hw' => by go_simp⟩) hS ?_
          simp only [Act.put, List.setIfInBounds_toArray, List.set_cons_zero, List.set_cons_succ]
          refine take_at (i := 28) 63 (v := .pointer (some ⟨q, 0, none⟩)) rfl rfl (by kernel_rfl) (by kernel_rfl) (by kernel_rfl) (fun _ _ _ h => h) (Or.inl ⟨by rfl, fun w' hw' => by go_simp⟩) hS ?_
          simp only [Act.put, List.setIfInBounds_toArray, List.set_cons_zero, List.set_cons_succ]
          refine take_at (i := 29) 64 (v := .pointer (some ⟨q, 0, none⟩)) rfl rfl (by kernel_rfl) (by kernel_rfl) (by kernel_rfl) (fun _ _ _ h => h) (Or.inl ⟨by rfl, fun w' hw' => by go_simp⟩) hS ?_
          simp only [Act.put, List.setIfInBounds_toArray, List.set_cons_zero, List.set_cons_succ]
          refine take_at (i := 30) 65 (v := .pointer (some ⟨q, 1, none⟩)) rfl rfl (by kernel_rfl) (by kernel_rfl) (by kernel_rfl) (fun _ _ _ h => h) (Or.inl ⟨by rfl, fun w' hw' => by go_simp⟩) hS ?_
          simp only [Act.put, List.setIfInBounds_toArray, List.set_cons_zero, List.set_cons_succ]
          refine take_at (i := 31) 66 (v := .slice (some ⟨a, 0, none⟩) n n) rfl rfl (by kernel_rfl) (by kernel_rfl) (by kernel_rfl) (fun _ _ _ h => h) (Or.inl ⟨by rfl, fun w' hw' => by have z1 := (HR1.out.cel.off hw' (fun h => h)).cell 1; rw [HEN.out] at z1; simp at z1; go_simp⟩) hS ?_
          simp only [Act.put, List.setIfInBounds_toArray, List.set_cons_zero, List.set_cons_succ]
          have HAL : Hid _ := all_any HV1.out
          rw [HDN1.out] at HAL
          refine wpAnyH_ready (rs := [27]) (by kernel_rfl) (by simp) ?_
          refine AllReadyH.cons rfl (fun K' hK' => ?_) AllReadyH.nil
          go_simp
          refine Calls.mono HAL.out ?_
          rintro e0 V3 ⟨rfl, m3, o3⟩
          have HM3 : Hid _ := m3
          have HO3 : Hid _ := o3
          refine hK'.out _ _ (hS.trans o3 (fun _ _ h => h)) (fun hS => ?_)
          clear hK' K' m3 o3
          have HMA : Hid (MRow a n d1.m V3) := by
            have h := (HR1.out.m.off HO3.out (fun h => h))
            rw [HEN.out, HRL1.out.m] at h
            exact h
          refine wpAnyH_ready (rs := [32]) (by kernel_rfl) (by simp) ?_
          refine AllReadyH.cons rfl (fun K' hK' => ?_) AllReadyH.nil
          go_simp
          refine (same_rows _ _ _ _ HM3.out HMA.out (by omega)).mono ?_
          rintro e0 V4 ⟨rfl, o4⟩
          have HO4 : Hid _ := HO3.out.trans o4 (fun _ _ h => h)
          refine hK'.out _ _ (hS.trans o4 (fun _ _ h => h)) (fun hS => ?_)
          clear hK' K' o4
          refine take_at (i := 33) 68 (v := .bool false) rfl rfl (by kernel_rfl) (by kernel_rfl) (by kernel_rfl) (fun _ _ _ h => h) (Or.inl ⟨by rfl, fun w' hw' => by go_simp⟩) hS ?_
          simp only [Act.put, List.setIfInBounds_toArray, List.set_cons_zero, List.set_cons_succ]
          refine take_at (i := 34) 69 (v := .bool false) rfl rfl (by kernel_rfl) (by kernel_rfl) (by kernel_rfl) (fun _ _ _ h => h) (Or.inl ⟨by rfl, fun w' hw' => by go_simp⟩) hS ?_
          simp only [Act.put, List.setIfInBounds_toArray, List.set_cons_zero, List.set_cons_succ]
          have HV4 : Hid _ := HV1.out.off HO4.out (fun h => h)
          have HR4 : Hid _ := HR1.out.off HO4.out ⟨fun h => h, fun h => h, fun h => h, fun h => h⟩
          have HO5 : Hid _ := HO1.out.trans HO4.out (fun _ _ h => h)
          clear hS
          refine wpAnyH_done (by kernel_rfl) ?_ _
          go_wp2_with fail
          go_roundw
          case rel => exact ⟨j + 1, d1, e1, by go_num, by omega, by omega, HDN1.out, HRL1.out.more (by omega), HV4.out, HR4.out, HO5.out⟩
          case measure => simp [intOf]; omega
      · obtain rfl : j = es.length := by omega
        go_wp2_with fail
        refine (awake_any _).mono ?_
        rintro e0 wB ⟨rfl, oB⟩
        have HFC : Hid _ := HO.out.trans oB (fun _ _ h => h)
        clear oB
        go_wp2_with fail
        go_ret
        exact ⟨rfl, HFC.out⟩
end Go.Proofs.Ytakijikehpblfaa
