/- The walk of ViewCounts. -/
import Derived.Test.YtakijikehpblfabVn16
import Derived.Test.YtakijikehpblfabIr16
import Derived.Test.YtakijikehpblfabArb
namespace Go.Proofs.Ytakijikehpblfab
set_option maxRecDepth 100000
open Go.RowKit

theorem Off.keep {D : Nat → Prop} {w w' : World} (h : Off D w w') {b o : Nat} {v : Value} (hc : w.cell? ⟨b, o, none⟩ = some v) (hD : ¬ D b) : w'.cell? ⟨b, o, none⟩ = some v := by
  rw [← hc]
  exact World.cell?_of_block (a := ⟨b, o, none⟩) (h.block b (cell_lt hc) hD)
theorem askD_n (d : VD) (k : Nat) : (askD d (k : Int)).n = d.n ∧ (askD d (k : Int)).self = d.self := by unfold askD; split <;> exact ⟨rfl, rfl⟩
theorem hearD_n (d : VD) (k : Nat) : (hearD d (k : Int)).n = d.n ∧ (hearD d (k : Int)).self = d.self := by unfold hearD; split <;> exact ⟨rfl, rfl⟩
theorem askD_op (d : VD) (k : Nat) (hk : k < d.n) (i : Nat) : (askD d (k : Int)).op i = if i = k ∧ k ≠ d.self then d.op k + 1 else d.op i := by
  unfold askD
  by_cases h : k = d.self
  · rw [if_neg (by unfold othB; simp; omega), if_neg (fun e => e.2 h)]
  · rw [if_pos (by unfold othB; simp; omega)]
    simp only [Int.toNat_natCast, upd]
    by_cases e : i = k <;> simp [e, h]
theorem hearD_op (d : VD) (k : Nat) (hk : k < d.n) (i : Nat) : (hearD d (k : Int)).op i = if i = k then 0 else d.op i := by
  unfold hearD
  rw [hasB_nat, decide_eq_true hk, if_pos rfl]
  simp only [Int.toNat_natCast, upd]
set_option maxHeartbeats 4000000 in
theorem counts_walk (q0 : Int) (a : Option Addr) (len cap : Nat) (zs : List Int) (w : World) (_ : -9223372036854775808 ≤ q0 ∧ q0 ≤ 9223372036854775807) (hr : IsRow .i64 w a len cap zs) :
    Calls Try.prog 3 #[.int .i64 q0, .slice a len cap] w fun e w' => e = .returned (.bool true) ∧ Off (fun _ => False) w w' := by
  have HRW : Hid (∀ i, i < len → ∃ b off, a = some ⟨b, off, none⟩ ∧ b < w.heap.size ∧ w.cell? ⟨b, off + i, none⟩ = some (.int .i64 (zs.getD i 0))) := hr.cells
  have hlen := hr.len
  clear hr
  have HAW : Hid _ := awake_any
  have n0 : 0 ≤ (IntKind.u64.wrap q0).tmod 7 ∧ (IntKind.u64.wrap q0).tmod 7 < 7 := by
    have hnn : 0 ≤ IntKind.u64.wrap q0 := by rw [IntKind.wrap_u64]; omega
    rw [Int.tmod_eq_emod_of_nonneg hnn]
    exact ⟨Int.emod_nonneg _ (by omega), Int.emod_lt_of_pos _ (by omega)⟩
  obtain ⟨k7, ek⟩ := Int.eq_ofNat_of_zero_le n0.1
  have hk7 : k7 < 7 := by omega
  clear n0
  obtain ⟨n, hn⟩ : ∃ n : Nat, n = k7 + 2 := ⟨_, rfl⟩
  go_enter Try.func3, Try.ntmps3
  go_upto_region 2 with fail
  rw [show ((k7 : Int) + 2) = (n : Int) by omega]
  have HCL : Hid (clN (n : Int) = n) := by show _ = _; unfold clN; omega
  have HN : Hid _ := new_yes (q := (n : Int)) (i := 0) (by rw [HCL.out]; omega) w
  rw [HCL.out] at HN
  have hn2 : 2 ≤ n := by omega
  have hn8 : n ≤ 8 := by omega
  clear ek hk7 hn
  have hmk := makeI n (by omega)
  go_wp2_with fail
  refine Calls.mono HN.out ?_
  rintro e w1 ⟨rfl, v1, o1⟩
  generalize hp : w.heap.size = p at v1 ⊢
  have HPW : Hid (w.heap.size = p) := hp
  have HV1 : Hid _ := v1
  have HO1 : Hid _ := o1
  clear v1 o1 hp HN
  go_upto_region 4 with fail
  generalize hW : w1.alloc (.cells (madeI n) 3) = W
  have HR1 : Hid (IRow w1.heap.size n (fun _ => 0) W) := by rw [← hW]; exact IRow.new w1 n
  have HV : Hid (Vw p (d0 n 0) W) := by rw [← hW]; exact HV1.out.alloc _
  have HO : Hid (Off (fun _ => False) w W) := by rw [← hW]; exact HO1.out.alloc _
  have HQP : Hid (¬ w1.heap.size = p) := by show ¬ _; have := HV1.out.lt; omega
  have HQW : Hid (w.heap.size ≤ w1.heap.size) := HO1.out.size
  clear hW hmk HV1 HO1
  generalize w1.heap.size = q at *
  go_wp2_with fail
  go_loopw [22] (fun s22 wr => ∃ (j : Nat) (d : VD) (g : Nat → Int), s22 = .int .i64 (j : Int) ∧ j ≤ len ∧ j ≤ 100 ∧ d.n = n ∧ d.self = 0 ∧ (∀ i, i < n → g i = d.op i) ∧ g 0 = 0 ∧ (∀ i, 0 ≤ g i ∧ g i ≤ (j : Int)) ∧ Vw p d wr ∧ IRow q n g wr ∧ Off (fun _ => False) w wr) (fun i _ => ((len : Int) - intOf i).toNat)
  case atStart => exact ⟨0, d0 n 0, fun _ => 0, rfl, by omega, by omega, rfl, rfl, fun _ _ => rfl, rfl, fun _ => ⟨Int.le_refl 0, Int.le_refl 0⟩, HV.out, HR1.out, HO.out⟩
  case round =>
    obtain ⟨j, d, g, rfl, hj, hj1, hdn, hds, hgd, hg0, hgb, v, r, o⟩ := hrel
    clear HV HO HR1
    have HV : Hid _ := v
    have HR : Hid _ := r
    have HO : Hid _ := o
    have HDN : Hid (d.n = n) := hdn
    have HDS : Hid (d.self = 0) := hds
    have HGD : Hid (∀ i, i < n → g i = d.op i) := hgd
    have HG0 : Hid (g 0 = 0) := hg0
    have HGB : Hid (∀ i, 0 ≤ g i ∧ g i ≤ (j : Int)) := hgb
    clear v r o hdn hds hgd hg0 hgb
    by_cases hlt : j < len
    · obtain ⟨b, off, rfl, hb, x0⟩ := HRW.out j hlt
      replace x0 := HO.out.keep x0 (fun h => h)
      generalize zs.getD j 0 = x at x0
      by_cases h100 : 100 ≤ j
      · go_wp2_with fail
        refine Calls.mono (HAW.out _) ?_
        rintro e wB ⟨rfl, oB⟩
        have HFC : Hid _ := HO.out.trans oB (fun _ _ h => h)
        clear oB
        go_wp2_with fail
        go_ret
        exact ⟨rfl, HFC.out⟩
      · have m0 : 0 ≤ (IntKind.u64.wrap x).tmod (2 * (n : Int)) ∧ (IntKind.u64.wrap x).tmod (2 * (n : Int)) < 2 * (n : Int) := by
          have hnn : 0 ≤ IntKind.u64.wrap x := by rw [IntKind.wrap_u64]; omega
          rw [Int.tmod_eq_emod_of_nonneg hnn]
          exact ⟨Int.emod_nonneg _ (by omega), Int.emod_lt_of_pos _ (by omega)⟩
        obtain ⟨r2, er⟩ := Int.eq_ofNat_of_zero_le m0.1
        obtain ⟨k, hkk⟩ : ∃ k : Nat, k = r2 / 2 := ⟨_, rfl⟩
        have hk : k < n := by omega
        have hrr : (r2 : Int) < 2 * (n : Int) := by omega
        have ed : (r2 : Int).tdiv 2 = (k : Int) := by rw [Int.tdiv_eq_ediv_of_nonneg (by omega)]; omega
        have ew : IntKind.u64.wrap (2 * (n : Int)) = 2 * (n : Int) := by rw [IntKind.wrap_u64]; omega
        clear m0 hkk
        by_cases hx : x.tmod 2 = 0
        · have HC : Hid _ := asked_any (k : Int) (fun i hi => by have h1 := HGD.out i (HDN.out ▸ hi); have h2 := HGB.out i; omega) HV.out
          go_wp2_with fail
          refine Calls.mono HC.out ?_
          rintro e w2 ⟨rfl, v2, o2⟩
          have HV2 : Hid _ := v2
          have HR2 : Hid _ := HR.out.off o2 HQP.out
          have HO2 : Hid _ := HO.out.trans o2 (fun k hk e => absurd hk (by have e : k = p := e; have := HPW.out; omega))
          clear v2 o2 HC HV HR HO x0
          have y0 := HR2.out.at_ hk
          have fr := HR2.out.free
          have gk := HGB.out k
          go_upto_region 14 with fail
          have HS : Hid (IRow q n (upd g k (g k + 1)) (w2.setCell ⟨q, k, none⟩ (.int .i64 (g k + 1)))) := HR2.out.set k hk _
          generalize hW2 : w2.setCell ⟨q, k, none⟩ (.int .i64 (g k + 1)) = W2 at HS ⊢
          have HV2' : Hid (Vw p (askD d (k : Int)) W2) := by rw [← hW2]; exact HV2.out.off ((Off.refl (fun c => c = q) w2).setCell (.inl rfl) _) (fun e => HQP.out e.symm)
          have HO2' : Hid (Off (fun _ => False) w W2) := by rw [← hW2]; exact HO2.out.setCell (.inr HQW.out) _
          clear hW2 y0 fr HV2 HO2
          have y0 := HS.out.at_ (show 0 < n by omega)
          have fr := HS.out.free
          go_upto_region 15 with fail
          have HS2 : Hid (IRow q n (upd (upd g k (g k + 1)) 0 0) (W2.setCell ⟨q, 0, none⟩ (.int .i64 0))) := HS.out.set 0 (by omega) _
          generalize hW3 : W2.setCell ⟨q, 0, none⟩ (.int .i64 0) = W3 at HS2 ⊢
          have HV3 : Hid (Vw p (askD d (k : Int)) W3) := by rw [← hW3]; exact HV2'.out.off ((Off.refl (fun c => c = q) W2).setCell (.inl rfl) _) (fun e => HQP.out e.symm)
          have HO3 : Hid (Off (fun _ => False) w W3) := by rw [← hW3]; exact HO2'.out.setCell (.inr HQW.out) _
          clear hW3 y0 fr HV2' HO2' HS HR2
          have HR3 : Hid _ := HS2.out
          clear HS2
          have HDN3 : Hid ((askD d (k : Int)).n = n) := by show _ = _; rw [(askD_n d k).1, HDN.out]
          have HDS3 : Hid ((askD d (k : Int)).self = 0) := by show _ = _; rw [(askD_n d k).2, HDS.out]
          have HGD3 : Hid (∀ i, i < n → upd (upd g k (g k + 1)) 0 0 i = (askD d (k : Int)).op i) := fun i hi => by
            rw [askD_op d k (by rw [HDN.out]; exact hk), HDS.out]
            have h0 := HGD.out 0 (by omega)
            have h1 := HGD.out i hi
            have h2 := HGD.out k hk
            have h3 := HG0.out
            unfold upd
            by_cases e0 : i = 0
            · subst e0
              by_cases ek : k = 0
              · subst ek; simp; omega
              · have ek2 : ¬ 0 = k := fun e => ek e.symm
                simp [ek2]; omega
            · by_cases ek : i = k
              · subst ek; simp [e0]; omega
              · simp [e0, ek]; omega
          have HG03 : Hid (upd (upd g k (g k + 1)) 0 0 0 = 0) := upd_same _ _ _
          have HGB3 : Hid (∀ i, 0 ≤ upd (upd g k (g k + 1)) 0 0 i ∧ upd (upd g k (g k + 1)) 0 0 i ≤ ((j + 1 : Nat) : Int)) := fun i => by
            have h1 := HGB.out i
            unfold upd
            by_cases e0 : i = 0
            · simp [e0]; omega
            · by_cases ek : i = k
              · subst ek; simp [e0]; omega
              · simp [e0, ek]; omega
          clear HDN HDS HGD HG0 HGB gk
          generalize (askD d (k : Int)) = D at *
          generalize upd (upd g k (g k + 1)) 0 0 = G at *
          go_wp2_with fail
          go_loopw [58] (fun s58 wx => ∃ i : Nat, s58 = .int .i64 (i : Int) ∧ i ≤ n ∧ Vw p D wx ∧ IRow q n G wx ∧ Off (fun _ => False) w wx) (fun i _ => ((n : Int) - intOf i).toNat)
          case atStart => exact ⟨0, rfl, by omega, HV3.out, HR3.out, HO3.out⟩
          case round =>
            obtain ⟨i, rfl, hi, vi, ri, oi⟩ := hrel
            have HVI : Hid _ := vi
            have HRI : Hid _ := ri
            have HOI : Hid _ := oi
            clear vi ri oi
            by_cases hin : i < n
            · have HMS : Hid (∀ m, Calls Try.prog 7 #[.pointer (some ⟨p, 0, none⟩), .int .i64 (i : Int)] (wr.drewN m) fun e w'' => e = .returned (.int .i64 (G i)) ∧ w'' = wr.drewN m) := fun m => by
                have h := missed_any (i : Int) (HVI.out.drewN m)
                rw [hasB_nat, HDN3.out, decide_eq_true hin, if_pos rfl, Int.toNat_natCast, ← HGD3.out i hin] at h
                exact h
              have z0 := HRI.out.at_ hin
              generalize G i = z at z0 HMS
              go_wp2_with fail
              go_quiet (first | (go_at_call 7; refine Calls.quiet_of_same (HMS.out _)))
              go_wp2_with fail
              go_roundw
              case rel => exact ⟨i + 1, by go_num, by omega, HVI.out.drewN _, HRI.out.off ((Off.refl (fun _ => False) _).drewN _) (fun h => h), HOI.out.drewN _⟩
              case measure => simp [intOf]; omega
            · obtain rfl : i = n := by omega
              go_wp2_with fail
              go_roundw
              case rel => exact ⟨j + 1, D, G, by go_num, by omega, by omega, HDN3.out, HDS3.out, HGD3.out, HG03.out, HGB3.out, HVI.out, HRI.out, HOI.out⟩
              case measure => simp [intOf]; omega
        · have HC : Hid _ := heard_any (k : Int) HV.out
          go_wp2_with fail
          refine Calls.mono HC.out ?_
          rintro e w2 ⟨rfl, v2, o2⟩
          have HV2 : Hid _ := v2
          have HR2 : Hid _ := HR.out.off o2 HQP.out
          have HO2 : Hid _ := HO.out.trans o2 (fun k hk e => absurd hk (by have e : k = p := e; have := HPW.out; omega))
          clear v2 o2 HC HV HR HO x0
          have y0 := HR2.out.at_ hk
          have fr := HR2.out.free
          have gk := HGB.out k
          go_upto_region 14 with fail
          have HS : Hid (IRow q n (upd g k 0) (w2.setCell ⟨q, k, none⟩ (.int .i64 0))) := HR2.out.set k hk _
          generalize hW2 : w2.setCell ⟨q, k, none⟩ (.int .i64 0) = W2 at HS ⊢
          have HV2' : Hid (Vw p (hearD d (k : Int)) W2) := by rw [← hW2]; exact HV2.out.off ((Off.refl (fun c => c = q) w2).setCell (.inl rfl) _) (fun e => HQP.out e.symm)
          have HO2' : Hid (Off (fun _ => False) w W2) := by rw [← hW2]; exact HO2.out.setCell (.inr HQW.out) _
          clear hW2 y0 fr HV2 HO2
          have y0 := HS.out.at_ (show 0 < n by omega)
          have fr := HS.out.free
          go_upto_region 15 with fail
          have HS2 : Hid (IRow q n (upd (upd g k 0) 0 0) (W2.setCell ⟨q, 0, none⟩ (.int .i64 0))) := HS.out.set 0 (by omega) _
          generalize hW3 : W2.setCell ⟨q, 0, none⟩ (.int .i64 0) = W3 at HS2 ⊢
          have HV3 : Hid (Vw p (hearD d (k : Int)) W3) := by rw [← hW3]; exact HV2'.out.off ((Off.refl (fun c => c = q) W2).setCell (.inl rfl) _) (fun e => HQP.out e.symm)
          have HO3 : Hid (Off (fun _ => False) w W3) := by rw [← hW3]; exact HO2'.out.setCell (.inr HQW.out) _
          clear hW3 y0 fr HV2' HO2' HS HR2
          have HR3 : Hid _ := HS2.out
          clear HS2
          have HDN3 : Hid ((hearD d (k : Int)).n = n) := by show _ = _; rw [(hearD_n d k).1, HDN.out]
          have HDS3 : Hid ((hearD d (k : Int)).self = 0) := by show _ = _; rw [(hearD_n d k).2, HDS.out]
          have HGD3 : Hid (∀ i, i < n → upd (upd g k 0) 0 0 i = (hearD d (k : Int)).op i) := fun i hi => by
            rw [hearD_op d k (by rw [HDN.out]; exact hk)]
            have h0 := HGD.out 0 (by omega)
            have h1 := HGD.out i hi
            have h3 := HG0.out
            unfold upd
            by_cases e0 : i = 0
            · subst e0
              by_cases ek : k = 0
              · subst ek; simp
              · have ek2 : ¬ 0 = k := fun e => ek e.symm
                simp [ek2]; omega
            · by_cases ek : i = k
              · subst ek; simp [e0]
              · simp [e0, ek]; omega
          have HG03 : Hid (upd (upd g k 0) 0 0 0 = 0) := upd_same _ _ _
          have HGB3 : Hid (∀ i, 0 ≤ upd (upd g k 0) 0 0 i ∧ upd (upd g k 0) 0 0 i ≤ ((j + 1 : Nat) : Int)) := fun i => by
            have h1 := HGB.out i
            unfold upd
            by_cases e0 : i = 0
            · simp [e0]; omega
            · by_cases ek : i = k
              · subst ek; simp [e0]; omega
              · simp [e0, ek]; omega
          clear HDN HDS HGD HG0 HGB gk
          generalize (hearD d (k : Int)) = D at *
          generalize upd (upd g k 0) 0 0 = G at *
          go_wp2_with fail
          go_loopw [58] (fun s58 wx => ∃ i : Nat, s58 = .int .i64 (i : Int) ∧ i ≤ n ∧ Vw p D wx ∧ IRow q n G wx ∧ Off (fun _ => False) w wx) (fun i _ => ((n : Int) - intOf i).toNat)
          case atStart => exact ⟨0, rfl, by omega, HV3.out, HR3.out, HO3.out⟩
          case round =>
            obtain ⟨i, rfl, hi, vi, ri, oi⟩ := hrel
            have HVI : Hid _ := vi
            have HRI : Hid _ := ri
            have HOI : Hid _ := oi
            clear vi ri oi
            by_cases hin : i < n
            · have HMS : Hid (∀ m, Calls Try.prog 7 #[.pointer (some ⟨p, 0, none⟩), .int .i64 (i : Int)] (wr.drewN m) fun e w'' => e = .returned (.int .i64 (G i)) ∧ w'' = wr.drewN m) := fun m => by
                have h := missed_any (i : Int) (HVI.out.drewN m)
                rw [hasB_nat, HDN3.out, decide_eq_true hin, if_pos rfl, Int.toNat_natCast, ← HGD3.out i hin] at h
                exact h
              have z0 := HRI.out.at_ hin
              generalize G i = z at z0 HMS
              go_wp2_with fail
              go_quiet (first | (go_at_call 7; refine Calls.quiet_of_same (HMS.out _)))
              go_wp2_with fail
              go_roundw
              case rel => exact ⟨i + 1, by go_num, by omega, HVI.out.drewN _, HRI.out.off ((Off.refl (fun _ => False) _).drewN _) (fun h => h), HOI.out.drewN _⟩
              case measure => simp [intOf]; omega
            · obtain rfl : i = n := by omega
              go_wp2_with fail
              go_roundw
              case rel => exact ⟨j + 1, D, G, by go_num, by omega, by omega, HDN3.out, HDS3.out, HGD3.out, HG03.out, HGB3.out, HVI.out, HRI.out, HOI.out⟩
              case measure => simp [intOf]; omega
    · obtain rfl : j = len := by omega
      go_wp2_with fail
      refine Calls.mono (HAW.out _) ?_
      rintro e wB ⟨rfl, oB⟩
      have HFC : Hid _ := HO.out.trans oB (fun _ _ h => h)
      clear oB
      go_wp2_with fail
      go_ret
      exact ⟨rfl, HFC.out⟩
end Go.Proofs.Ytakijikehpblfab
