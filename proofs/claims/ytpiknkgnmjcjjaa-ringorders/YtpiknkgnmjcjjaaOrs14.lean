/- The reference's Owners; the walk of RingOrders. -/
import Derived.Test.YtpiknkgnmjcjjaaRef14
namespace Go.Proofs.Ytpiknkgnmjcjjaa
set_option maxRecDepth 100000
open Go.RowKit

theorem rowners_any (q0 q : Int) (s : ByteArray) (w : World) (hs : s.size ≤ 140737488351232) :
    Calls Try.prog 9 #[.int .i64 q0, .string s, .int .i64 q] w fun e w' => ∃ t c, e = .returned (.slice t ((ordP (mixL (tx s)) (ptsP (capN q0 8))).take (capN q (capN q0 8))).length c) ∧ OwnG 3 1 ics w' t c ((ordP (mixL (tx s)) (ptsP (capN q0 8))).take (capN q (capN q0 8))) ∧ (∀ k, blk t = some k → w.heap.size ≤ k) ∧ Off (fun _ => False) w w' := by
  have HOR : Hid _ := rorder_any q0 s w hs
  generalize capN q0 8 = n at *
  have HLN : Hid _ := ord_len (mixL (tx s)) n
  generalize ordP (mixL (tx s)) (ptsP n) = l at *
  have HLE := capN_le q n
  have hmn := min_int q (n : Int)
  have hmx : ∀ ts t W, (Builtin.max_ ts t #[.int .i64 0, .int .i64 (min q (n : Int))]).run Try.prog W = .ok (.int .i64 (capN q n : Nat)) W := fun ts t W => by
    rw [max_int, show max 0 (min q (n : Int)) = ((capN q n : Nat) : Int) by unfold capN; omega]
  generalize capN q n = K at *
  go_enter Try.func9, Try.ntmps9
  go_wp2_with fail
  refine Calls.mono HOR.out ?_
  rintro e w1 ⟨t, c, rfl, own, hat, o⟩
  have hsl := own.its.slice own.none0 (k := K) (by rw [HLN.out]; exact HLE)
  rw [HLN.out] at hsl ⊢
  have HF : Hid (OwnG 3 1 ics w1 t c (l.take K) ∧ (∀ k, blk t = some k → w.heap.size ≤ k) ∧ Off (fun _ => False) w w1) := ⟨own.take ics_len (by rw [HLN.out]; exact HLE), hat, o⟩
  clear own hat o
  generalize hlt : l.take K = lt at hsl HF
  have HT : Hid (l.take K = lt) := hlt
  clear hlt
  go_wp2_with fail
  go_ret
  rw [HT.out]
  exact ⟨t, c, rfl, HF.out⟩
set_option maxHeartbeats 1000000 in
theorem orders_walk (q0 : Int) (s : ByteArray) (q v : Int) (w : World) (_ : -9223372036854775808 ≤ q0 ∧ q0 ≤ 9223372036854775807) (hs : s.size ≤ 140737488351232) (_ : -9223372036854775808 ≤ q ∧ q ≤ 9223372036854775807) (_ : -9223372036854775808 ≤ v ∧ v ≤ 9223372036854775807) :
    Calls Try.prog 3 #[.int .i64 q0, .string s, .int .i64 q, .int .i64 v] w fun e w' => e = .returned (.bool true) ∧ Off (fun _ => False) w w' := by
  have hn8 := capN_le q0 8
  have HN : Hid _ := new_any q0 w
  have HRW : Hid (∀ W, Calls Try.prog 9 #[.int .i64 q0, .string s, .int .i64 q] W fun e w' => ∃ t c, e = .returned (.slice t ((ordP (mixL (tx s)) (ptsP (capN q0 8))).take (capN q (capN q0 8))).length c) ∧ OwnG 3 1 ics w' t c ((ordP (mixL (tx s)) (ptsP (capN q0 8))).take (capN q (capN q0 8))) ∧ (∀ k, blk t = some k → W.heap.size ≤ k) ∧ Off (fun _ => False) W w') := fun W => rowners_any q0 q s W hs
  have HRO : Hid (∀ W, Calls Try.prog 13 #[.int .i64 q0, .string s] W fun e w' => ∃ t c, e = .returned (.slice t (ordP (mixL (tx s)) (ptsP (capN q0 8))).length c) ∧ OwnG 3 1 ics w' t c (ordP (mixL (tx s)) (ptsP (capN q0 8))) ∧ (∀ k, blk t = some k → W.heap.size ≤ k) ∧ Off (fun _ => False) W w') := fun W => rorder_any q0 s W hs
  have hmn := min_int q0 8
  have hmx : ∀ ts t W, (Builtin.max_ ts t #[.int .i64 0, .int .i64 (min q0 8)]).run Try.prog W = .ok (.int .i64 (capN q0 8 : Nat)) W := fun ts t W => by
    rw [max_int, show max 0 (min q0 8) = ((capN q0 8 : Nat) : Int) by unfold capN; omega]
  generalize capN q0 8 = n at *
  have HLN : Hid _ := ord_len (mixL (tx s)) n
  have HOR : Hid (∀ D b m w, Rng D b n m w → Calls Try.prog 12 #[.pointer (some ⟨b, 0, none⟩), .string s] w fun e w' => ∃ t c, e = .returned (.slice t (ordP (mixL (tx s)) (ptsP n)).length c) ∧ ∃ D', Rng D' b n 1 w' ∧ OwnG 3 1 ics w' t c (ordP (mixL (tx s)) (ptsP n)) ∧ (∀ k, blk t = some k → w.heap.size ≤ k ∧ ¬ D' k) ∧ (∀ k, D' k → D k ∨ w.heap.size ≤ k) ∧ Off D w w') := fun D b m w h => order_any D b n m hn8 s hs w h
  have HOW : Hid (∀ D b m w, Rng D b n m w → Calls Try.prog 14 #[.pointer (some ⟨b, 0, none⟩), .string s, .int .i64 q] w fun e w' => ∃ t c, e = .returned (.slice t ((ordP (mixL (tx s)) (ptsP n)).take (capN q n)).length c) ∧ ∃ D', Rng D' b n 1 w' ∧ OwnG 3 1 ics w' t c ((ordP (mixL (tx s)) (ptsP n)).take (capN q n)) ∧ (∀ k, blk t = some k → w.heap.size ≤ k ∧ ¬ D' k) ∧ (∀ k, D' k → D k ∨ w.heap.size ≤ k) ∧ Off D w w') := fun D b m w h => owners_any D b n m hn8 s hs q w h
  have HOS : Hid (∀ D b m w, Rng D b n m w → Calls Try.prog 15 #[.pointer (some ⟨b, 0, none⟩), .int .i64 v, .string s, .int .i64 q] w fun e w' => e = .returned (.bool (inB ((ordP (mixL (tx s)) (ptsP n)).take (capN q n)) v)) ∧ ∃ D', Rng D' b n 1 w' ∧ (∀ k, D' k → D k ∨ w.heap.size ≤ k) ∧ Off D w w') := fun D b m w h => owns_any D b n m hn8 s hs q v w h
  generalize ordP (mixL (tx s)) (ptsP n) = l at *
  have HL2 : Hid ((l.take (capN q n)).length ≤ 8) := by have h1 : l.length = n := HLN.out; show _ ≤ _; rw [List.length_take]; omega
  generalize l.take (capN q n) = l2 at *
  have HL1 : Hid (l.length ≤ 8) := by have h1 : l.length = n := HLN.out; show _ ≤ _; omega
  have HE2 : Hid (l2.length ≤ 1000000) := by have h1 : l2.length ≤ 8 := HL2.out; show _ ≤ _; omega
  have HE1 : Hid (l.length ≤ 1000000) := by have h1 : l.length ≤ 8 := HL1.out; show _ ≤ _; omega
  clear HLN
  go_enter Try.func3, Try.ntmps3
  go_wp2_with fail
  refine Calls.mono HN.out ?_
  rintro e w1 ⟨rfl, r1, o1⟩
  have hbw : w.heap.size < w1.heap.size := r1.old _ rfl
  generalize hb : w.heap.size = b at r1 hbw ⊢
  have HB : Hid (w.heap.size = b) := hb
  have HR1 : Hid _ := r1
  have HO1 : Hid _ := o1
  have HS1 : Hid (b < w1.heap.size) := hbw
  clear hb r1 o1 hbw HN
  go_wp2_with fail
  refine (HRW.out w1).mono ?_
  rintro e w2 ⟨tl, cl, rfl, ownl, hatl, o2⟩
  have HIL2 : Hid _ := ownl.its
  have HLT2 : Hid _ := ownl.lt
  have HAL : Hid _ := hatl
  have r2 := HR1.out.off o2 (fun _ _ h => h)
  have HO2 : Hid _ := HO1.out.trans o2 (fun _ _ h => h)
  obtain ⟨d2, ps2, rc2⟩ := r2.rc
  have HND : Hid _ := nodes_any rc2
  have HR2 : Hid _ := r2
  have HS2 : Hid (w1.heap.size ≤ w2.heap.size) := o2.size
  clear ownl hatl o2 rc2 r2 HR1 HO1
  have e0 : ((n : Int) == (n : Int)) = true := by simp
  have e1 : (n == n) = true := by simp
  go_wp2_with fail
  refine Calls.mono HND.out ?_
  rintro e w9 ⟨rfl, hw⟩
  rw [hw]
  clear hw w9 HND
  have HC3 : Hid _ := HOR.out _ b 0 w2 HR2.out
  go_wp2_with fail
  refine Calls.mono HC3.out ?_
  rintro e w3 ⟨t3, c3, rfl, D3, r3, own3, hat3, hD3, o3⟩
  have HI3 : Hid _ := own3.its
  have HR3 : Hid _ := r3
  have HD3 : Hid (∀ k, D3 k → k = b ∨ w2.heap.size ≤ k) := hD3
  have HIL3 : Hid _ := HIL2.out.offD o3 (fun k _ e e' => by have e' : k = b := e'; have h1 := HAL.out k e; have h2 : b < w1.heap.size := HS1.out; omega)
  have HO3 : Hid _ := HO2.out.trans o3 (fun k hk e => by have e : k = b := e; have := HB.out; omega)
  have HZ3 : Hid (w2.heap.size ≤ w3.heap.size) := o3.size
  clear r3 own3 hat3 hD3 o3 HC3 HR2 HIL2 HO2
  go_wp2_with fail
  refine (HRO.out w3).mono ?_
  rintro e w4 ⟨t4, c4, rfl, own4, hat4, o4⟩
  have HSM : Hid _ := sameints_any t3 t4 c3 c4 l w4 (HI3.out.off o4) own4.its HE1.out
  have HR4 : Hid _ := HR3.out.off o4 (fun _ _ h => h)
  have HIL4 : Hid _ := HIL3.out.off o4
  have HO4 : Hid _ := HO3.out.trans o4 (fun _ _ h => h)
  have HZ4 : Hid (w2.heap.size ≤ w4.heap.size) := Nat.le_trans HZ3.out o4.size
  clear own4 hat4 o4 HR3 HIL3 HO3
  go_wp2_with fail
  refine Calls.mono HSM.out ?_
  rintro e w5 ⟨rfl, o5⟩
  have HR5 : Hid _ := HR4.out.off o5 (fun _ _ h => h)
  have HIL5 : Hid _ := HIL4.out.off o5
  have HO5 : Hid _ := HO4.out.trans o5 (fun _ _ h => h)
  have HZ5 : Hid (w2.heap.size ≤ w5.heap.size) := Nat.le_trans HZ4.out o5.size
  clear o5 HR4 HIL4 HO4 HSM
  have HDN3 : Hid (∀ k, D3 k → w.heap.size ≤ k) := fun k hk => by have := HD3.out k hk; have h1 := HB.out; have h2 : b < w1.heap.size := HS1.out; have h3 : w1.heap.size ≤ w2.heap.size := HS2.out; omega
  have HNL3 : Hid (∀ k, blk tl = some k → ¬ D3 k) := fun k hk e => by
    have h0 := HD3.out k e
    have h1 := HAL.out k hk
    have h2 : b < w1.heap.size := HS1.out
    have h3 := HLT2.out k hk
    omega
  have HC6 : Hid _ := HOW.out D3 b 1 w5 HR5.out
  go_wp2_with fail
  refine Calls.mono HC6.out ?_
  rintro e w6 ⟨t6, c6, rfl, D6, r6, own6, hat6, hD6, o6⟩
  have HIL6 : Hid _ := HIL5.out.offD o6 (fun k _ e e' => HNL3.out k e e')
  have HSM6 : Hid _ := sameints_any t6 tl c6 cl l2 w6 own6.its HIL6.out HE2.out
  have HR6 : Hid _ := r6
  have HO6 : Hid _ := HO5.out.trans o6 (fun k hk e => absurd hk (by have := HDN3.out k e; omega))
  have HDN6 : Hid (∀ k, D6 k → w.heap.size ≤ k) := fun k hk => by
    rcases hD6 k hk with h | h
    · exact HDN3.out k h
    · exact Nat.le_trans HO5.out.size h
  have HNL6 : Hid (∀ k, blk tl = some k → ¬ D6 k) := fun k hk e => by
    rcases hD6 k e with h | h
    · exact HNL3.out k hk h
    · have h3 := HLT2.out k hk
      have h4 : w2.heap.size ≤ w5.heap.size := HZ5.out
      omega
  clear r6 own6 hat6 hD6 o6 HC6 HR5 HIL5 HO5
  go_wp2_with fail
  refine Calls.mono HSM6.out ?_
  rintro e w7 ⟨rfl, o7⟩
  have HR7 : Hid _ := HR6.out.off o7 (fun _ _ h => h)
  have HIL7 : Hid _ := HIL6.out.off o7
  have HO7 : Hid _ := HO6.out.trans o7 (fun _ _ h => h)
  clear o7 HR6 HIL6 HO6 HSM6
  have HC8 : Hid _ := HOS.out D6 b 1 w7 HR7.out
  go_wp2_with fail
  refine Calls.mono HC8.out ?_
  rintro e w8 ⟨rfl, D8, r8, hD8, o8⟩
  have HIL8 : Hid _ := HIL7.out.offD o8 (fun k _ e e' => HNL6.out k e e')
  have HO8 : Hid _ := HO7.out.trans o8 (fun k hk e => absurd hk (by have := HDN6.out k e; omega))
  have HIN : Hid _ := in_any tl cl l2 v w8 HIL8.out HE2.out
  clear r8 hD8 o8 HC8 HR7 HIL7 HO7
  go_wp2_with fail
  refine Calls.mono HIN.out ?_
  rintro e wA ⟨rfl, hw⟩
  rw [hw]
  clear hw wA HIN
  have q1 : ∀ B : Bool, (B == B) = true := by decide
  have q2 := q1 (inB l2 v)
  go_wp2_with fail
  refine (awake_any _).mono ?_
  rintro e wB ⟨rfl, oB⟩
  have HFC : Hid _ := HO8.out.trans oB (fun _ _ h => h)
  clear oB
  go_wp2_with fail
  go_ret
  exact ⟨rfl, HFC.out⟩
end Go.Proofs.Ytpiknkgnmjcjjaa
