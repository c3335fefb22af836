/- The walk of RingOnce. -/
import Derived.Test.YtpiknkgnmjcjjaaOwn14
import Derived.Test.YtpiknkgnmjcjjaaArg14
namespace Go.Proofs.Ytpiknkgnmjcjjaa
set_option maxRecDepth 100000
open Go.RowKit

theorem OwnG.cel1 {w : World} {t : Option Addr} {c : Nat} {l : List Nat} (h : OwnG 3 1 ics w t c l) : l.length = 0 ∨ ∃ g cs, t = some ⟨g, 0, none⟩ ∧ l.length ≤ Array.size cs ∧ Cel g 3 cs w := by
  rcases h.row.2 with ⟨hv, h0⟩ | ⟨g, cap, cur, hv, hb, hh, hc, hm, hs, -⟩
  · exact .inl h0
  · simp only [Value.slice.injEq] at hv
    obtain ⟨rfl, -, rfl⟩ := hv
    exact .inr ⟨g, cur, rfl, by omega, ⟨hh⟩⟩
set_option maxHeartbeats 2000000 in
theorem once_walk (p : Int) (a : Option Addr) (cap : Nat) (ss : List ByteArray) (w : World) (_ : -9223372036854775808 ≤ p ∧ p ≤ 9223372036854775807) (hss : Strs w a cap ss) :
    Calls Try.prog 4 #[.int .i64 p, .slice a ss.length cap] w fun e w' => e = .returned (.bool true) ∧ Off (fun _ => False) w w' := by
  have HSS : Hid _ := hss
  have hsl : ss.length ≤ 9223372036854775807 := Nat.le_trans hss.len hss.bound
  have HN : Hid _ := new_any p w
  have hn8 := capN_le p 8
  clear hss
  generalize capN p 8 = n at *
  go_enter Try.func4, Try.ntmps4
  go_wp2_with fail
  refine Calls.mono HN.out ?_
  rintro e w1 ⟨rfl, r1, o1⟩
  obtain ⟨d1, ps1, rc1⟩ := r1.rc
  have HM1 : Hid _ := made_any rc1
  have HR1 : Hid _ := r1
  have HO1 : Hid _ := o1
  generalize hb : w.heap.size = b at HM1 HR1 ⊢
  have HBW : Hid (∀ k, k = b → w.heap.size ≤ k) := fun k h => by omega
  clear hb
  have q0 : ((0 : Int) != 0) = false := by decide
  clear r1 o1 rc1 HN
  go_wp2_with fail
  refine Calls.mono HM1.out ?_
  rintro e w9 ⟨rfl, hw⟩
  rw [hw]
  clear hw w9 HM1
  go_wp2_with fail
  go_loopw [18] (fun i wr => ∃ j : Nat, i = .int .i64 (j : Int) ∧ j ≤ ss.length ∧ ∃ (D : Nat → Prop) (m : Nat), m ≤ 1 ∧ Rng D b n m wr ∧ (∀ k, D k → w.heap.size ≤ k) ∧ Off (fun _ => False) w wr) (fun i _ => ((ss.length : Int) - intOf i).toNat)
  case atStart => exact ⟨0, rfl, by omega, _, 0, by omega, HR1.out, HBW.out, HO1.out⟩
  case round =>
    obtain ⟨j, rfl, hj, D, m, hm, hr, hD, o⟩ := hrel
    have HR : Hid _ := hr
    have HD : Hid _ := hD
    have HO : Hid _ := o
    obtain ⟨d5, ps5, RC5⟩ := hr.rc
    clear hr hD o
    by_cases hlt : j < ss.length
    · obtain ⟨s, hs⟩ : ∃ s, ss[j]? = some s := ⟨_, List.getElem?_eq_getElem hlt⟩
      obtain ⟨g, of, rfl, k0, hsz⟩ := (HSS.out.offD HO.out (fun _ _ h => h)).at_ j s hs
      have hsz2 : s.size ≤ 140737488351232 := hsz
      clear hs hsz
      by_cases h20 : 20 ≤ j
      · have e20 : decide ((j : Int) ≥ 20) = true := decide_eq_true (by omega)
        have e21 : decide ((20 : Int) ≤ (j : Int)) = true := decide_eq_true (by omega)
        have HMD : Hid _ := made_any RC5
        clear RC5
        have q1 : decide ((m : Int) ≤ 1) = true := decide_eq_true (by omega)
        go_wp2_with fail
        refine Calls.mono HMD.out ?_
        rintro e w9 ⟨rfl, hw⟩
        rw [hw]
        clear hw w9
        go_wp2_with fail
        refine (awake_any _).mono ?_
        rintro e wB ⟨rfl, oB⟩
        have HFC : Hid _ := HO.out.trans oB (fun _ _ h => h)
        clear oB
        go_wp2_with fail
        go_ret
        exact ⟨rfl, HFC.out⟩
      · have e20 : decide ((j : Int) ≥ 20) = false := decide_eq_false (by omega)
        have e21 : decide ((20 : Int) ≤ (j : Int)) = false := decide_eq_false (by omega)
        clear RC5
        have HLL : Hid _ := ord_len (mixL (tx s)) n
        have HOR : Hid (∀ D b m w, Rng D b n m w → Calls Try.prog 12 #[.pointer (some ⟨b, 0, none⟩), .string s] w fun e w' => ∃ t c, e = .returned (.slice t (ordP (mixL (tx s)) (ptsP n)).length c) ∧ ∃ D', Rng D' b n 1 w' ∧ OwnG 3 1 ics w' t c (ordP (mixL (tx s)) (ptsP n)) ∧ (∀ k, blk t = some k → w.heap.size ≤ k ∧ ¬ D' k) ∧ (∀ k, D' k → D k ∨ w.heap.size ≤ k) ∧ Off D w w') := fun D b m w h => order_any D b n m hn8 s hsz2 w h
        generalize ordP (mixL (tx s)) (ptsP n) = l at *
        rw [HLL.out] at HOR
        have HC1 : Hid _ := HOR.out D b m wr HR.out
        go_wp2_with fail
        refine Calls.mono HC1.out ?_
        rintro e w1 ⟨t1, c1, rfl, D1, r1, own1, hat1, hD1, o1⟩
        have HOW1 : Hid _ := own1
        have HAT1 : Hid _ := hat1
        have HD1 : Hid _ := hD1
        have HF1 : Hid _ := HO.out.trans o1 (fun k hk e => absurd hk (by have := HD.out k e; omega))
        have HS1 : Hid (wr.heap.size ≤ w1.heap.size) := o1.size
        have HC2 : Hid _ := HOR.out D1 b 1 w1 r1
        have HDN1 : Hid (∀ k, D1 k → w.heap.size ≤ k) := fun k hk => by
          rcases hD1 k hk with h | h
          · exact HD.out k h
          · exact Nat.le_trans HO.out.size h
        clear r1 own1 hat1 hD1 o1 HC1
        go_wp2_with fail
        refine Calls.mono HC2.out ?_
        rintro e w2 ⟨t2, c2, rfl, D2, r2, own2, hat2, hD2, o2⟩
        have HOW2 : Hid _ := own2
        have HAT2 : Hid _ := hat2
        have HR2 : Hid _ := r2
        have HOA : Hid _ := HOW1.out.off o2 (fun k _ e => (HAT1.out k e).2)
        have HF2 : Hid _ := HF1.out.trans o2 (fun k hk e => absurd hk (by have := HDN1.out k e; omega))
        have HDN2 : Hid (∀ k, D2 k → w.heap.size ≤ k) := fun k hk => by
          rcases hD2 k hk with h | h
          · exact HDN1.out k h
          · exact Nat.le_trans HF1.out.size h
        have HN1 : Hid (∀ k, blk t1 = some k → ¬ D2 k) := fun k hk e => by
          rcases hD2 k e with h | h
          · exact (HAT1.out k hk).2 h
          · have := HOW1.out.lt k hk
            omega
        have HN2 : Hid (∀ k, blk t1 = some k → ¬ blk t2 = some k) := fun k hk e => by
          have h1 := HOW1.out.lt k hk
          have h2 := (hat2 k e).1
          omega
        obtain ⟨d2, ps2, rc2⟩ := r2.rc
        have HM2 : Hid _ := made_any rc2
        have HSM : Hid _ := sameints_any t1 t2 c1 c2 l w2 HOA.out.its own2.its (by rw [HLL.out]; omega)
        rw [HLL.out] at HSM
        clear r2 own2 hat2 hD2 o2 HC2 rc2
        have q1 : ((1 : Int) != 1) = false := by decide
        go_wp2_with fail
        refine Calls.mono HM2.out ?_
        rintro e w9 ⟨rfl, hw⟩
        rw [hw]
        clear hw w9 HM2
        go_wp2_with fail
        refine Calls.mono HSM.out ?_
        rintro e w3 ⟨rfl, o3⟩
        have HF3 : Hid _ := HF2.out.trans o3 (fun _ _ h => h)
        have HR3 : Hid _ := HR2.out.off o3 (fun _ _ h => h)
        have HO23 : Hid _ := HOW2.out.off o3 (fun _ _ _ h => h)
        have HOA3 : Hid _ := (HOA.out.off o3 (fun _ _ _ h => h)).cel1
        rw [HLL.out] at HOA3
        have HF1L : Hid (∀ k, blk t1 = some k → w.heap.size ≤ k) := fun k hk => Nat.le_trans HO.out.size (HAT1.out k hk).1
        clear o3 HSM HOA HR2 HOW2
        go_wp2_with fail
        go_loopw [42] (fun z wq => ∃ i : Nat, z = .int .i64 (i : Int) ∧ i ≤ n ∧ (n = 0 ∨ ∃ g cs, t1 = some ⟨g, 0, none⟩ ∧ n ≤ Array.size cs ∧ Cel g 3 cs wq) ∧ Off (fun k => blk t1 = some k) w3 wq) (fun z _ => ((n : Int) - intOf z).toNat)
        case atStart => exact ⟨0, rfl, by omega, HOA3.out, Off.refl _ _⟩
        case round =>
          obtain ⟨i, rfl, hi, hcel, o⟩ := hrel
          have HOI : Hid _ := o
          clear o
          by_cases hin : i < n
          · rcases hcel with h0 | ⟨g1, cs, rfl, hcs, cel⟩
            · omega
            · have k1 : wr.cell? ⟨g1, i, none⟩ = some cs[i] := by rw [cel.cell i]; exact Array.getElem?_eq_getElem (by omega)
              have f1 : wr.frozen? ⟨g1, i, none⟩ = false := cel.free i
              have HNC : Hid (Cel g1 3 (cs.setIfInBounds i (.int .i64 (-1))) (wr.setCell ⟨g1, i, none⟩ (.int .i64 (-1)))) := cel.set i _
              have HCZ : Hid (n ≤ (cs.setIfInBounds i (.int .i64 (-1))).size) := by show _ ≤ _; rw [Array.size_setIfInBounds]; exact hcs
              have HNO : Hid _ := HOI.out.setCell (p := ⟨g1, i, none⟩) (.inl rfl) (.int .i64 (-1))
              clear cel
              generalize cs[i] = cv at k1
              generalize cs.setIfInBounds i (.int .i64 (-1)) = cs' at HNC HCZ
              clear hcs
              go_wp2_with fail
              go_roundw
              case rel => exact ⟨i + 1, by go_num, by omega, .inr ⟨g1, cs', rfl, HCZ.out, HNC.out⟩, HNO.out⟩
              case measure => simp [intOf]; omega
          · obtain rfl : n = i := by omega
            clear hcel
            have HR4 : Hid _ := HR3.out.off HOI.out (fun k hk e => HN1.out k e hk)
            have HO24 : Hid _ := HO23.out.off HOI.out (fun k _ e e' => HN2.out k e' e)
            have HF4 : Hid _ := HF3.out.trans HOI.out (fun k hk e => absurd hk (by have := HF1L.out k e; omega))
            have HC3 : Hid _ := HOR.out D2 b 1 _ HR4.out
            go_wp2_with fail
            refine Calls.mono HC3.out ?_
            rintro e w5 ⟨t5, c5, rfl, D5, r5, own5, hat5, hD5, o5⟩
            have HSM5 : Hid _ := sameints_any t5 t2 c5 c2 l w5 own5.its (HO24.out.its.offD o5 (fun k _ e => (HAT2.out k e).2)) (by rw [HLL.out]; omega)
            rw [HLL.out] at HSM5
            have HR5 : Hid _ := r5
            have HF5 : Hid _ := HF4.out.trans o5 (fun k hk e => absurd hk (by have := HDN2.out k e; omega))
            have HD5 : Hid (∀ k, D5 k → w.heap.size ≤ k) := fun k hk => by
              rcases hD5 k hk with h | h
              · exact HDN2.out k h
              · exact Nat.le_trans HF4.out.size h
            clear r5 own5 hat5 hD5 o5 HC3
            go_wp2_with fail
            refine Calls.mono HSM5.out ?_
            rintro e w6 ⟨rfl, o6⟩
            have HR6 : Hid _ := HR5.out.off o6 (fun _ _ h => h)
            have HF6 : Hid _ := HF5.out.trans o6 (fun _ _ h => h)
            clear o6
            go_wp2_with fail
            go_roundw
            case rel => exact ⟨j + 1, by go_num, by omega, D5, 1, by omega, HR6.out, HD5.out, HF6.out⟩
            case measure => simp [intOf]; omega
    · obtain rfl : j = ss.length := by omega
      have HMD : Hid _ := made_any RC5
      clear RC5
      have q1 : decide ((m : Int) ≤ 1) = true := decide_eq_true (by omega)
      go_wp2_with fail
      refine Calls.mono HMD.out ?_
      rintro e w9 ⟨rfl, hw⟩
      rw [hw]
      clear hw w9
      go_wp2_with fail
      refine (awake_any _).mono ?_
      rintro e wB ⟨rfl, oB⟩
      have HFC : Hid _ := HO.out.trans oB (fun _ _ h => h)
      clear oB
      go_wp2_with fail
      go_ret
      exact ⟨rfl, HFC.out⟩
end Go.Proofs.Ytpiknkgnmjcjjaa
