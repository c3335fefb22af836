/- The walk of RingWhole. -/
import Derived.Test.YtpiknkgnmjcjjaaOwn14
namespace Go.Proofs.Ytpiknkgnmjcjjaa
set_option maxRecDepth 100000
open Go.RowKit

theorem u64_mod (p : Int) (K : Int) (hK : 0 < K) (hK2 : K ≤ 1000) : ∃ N : Nat, (N : Int) < K ∧ (IntKind.u64.wrap p).tmod K = (N : Int) := by
  have h0 : 0 ≤ IntKind.u64.wrap p := by rw [IntKind.wrap_u64]; omega
  have h1 : (IntKind.u64.wrap p).tmod K = (IntKind.u64.wrap p) % K := Int.tmod_eq_emod_of_nonneg h0
  have h2 := Int.emod_nonneg (IntKind.u64.wrap p) (show K ≠ 0 by omega)
  have h3 := Int.emod_lt_of_pos (IntKind.u64.wrap p) hK
  exact ⟨((IntKind.u64.wrap p) % K).toNat, by omega, by rw [h1]; omega⟩
/-- A row of bools. -/
def sbl (f : Nat → Bool) (n : Nat) : Array Value := ((List.range n).map fun i => Value.bool (f i)).toArray
theorem sbl_get (f : Nat → Bool) {n i : Nat} (h : i < n) : (sbl f n)[i]? = some (.bool (f i)) := by
  simp [sbl, List.getElem?_toArray, List.getElem?_map, List.getElem?_range h]
theorem sbl_set (f g : Nat → Bool) {n i : Nat} (h : i < n) (hi : g i = true) (ho : ∀ k, k ≠ i → g k = f k) : (sbl f n).setIfInBounds i (.bool true) = sbl g n := by
  apply Array.ext_getElem?
  intro k
  rw [Array.getElem?_setIfInBounds]
  by_cases hk : k < n
  · by_cases e : i = k
    · subst e
      rw [if_pos rfl, sbl_get g hk, hi]
      simp [sbl, h]
    · rw [if_neg e, sbl_get f hk, sbl_get g hk, ho k (fun x => e x.symm)]
  · have h1 : (sbl f n)[k]? = none := by simp [sbl]; omega
    have h2 : (sbl g n)[k]? = none := by simp [sbl]; omega
    by_cases e : i = k
    · omega
    · rw [if_neg e, h1, h2]
theorem Try.infoL : (Try.prog.info? 4).map (fun i => (i.zero, i.size, i.bytes)) = some (some (.bool false), 1, 1) := by kernel_rfl
theorem own_sbl {r k : Nat} {w1 : World} (h : w1.ownsRow 0 4 1 (.slice (some ⟨r, 0, none⟩) k k) k (madeCells (Value.bool false).cells (k * 1)).toList) : Cel r 4 (sbl (fun _ => false) k) w1 := by
  have e : (madeCells (Value.bool false).cells (k * 1)).toList = List.replicate k (Value.bool false) := by
    have := toList_madeCells_one (Value.bool false) (k * 1)
    simpa [Value.cells] using this
  rw [e] at h
  rcases h.2 with ⟨h', -⟩ | ⟨g, cap, cur, h', -, hg, -, -, hs, ht⟩
  · simp at h'
  · simp only [Value.slice.injEq, Option.some.injEq, Addr.mk.injEq, and_true, true_and] at h'
    obtain ⟨rfl, rfl⟩ := h'
    rw [List.take_of_length_le (by simp [hs])] at ht
    have e2 : sbl (fun _ => false) k = (List.replicate k (Value.bool false)).toArray := by
      unfold sbl
      congr 1
      rw [List.map_const']
      simp
    have : cur = sbl (fun _ => false) k := by rw [e2, ← ht]
    rw [← this]
    exact ⟨hg⟩
theorem new_nat (x : Nat) (hx : x ≤ 8) (w : World) : Calls Try.prog 8 #[.int .i64 (x : Int)] w fun e w' => e = .returned (.pointer (some ⟨w.heap.size, 0, none⟩)) ∧ Rng (fun k => k = w.heap.size) w.heap.size x 0 w' ∧ Off (fun _ => False) w w' := by
  have := new_any (x : Int) w
  rw [show capN (x : Int) 8 = x by unfold capN; omega] at this
  exact this
set_option maxHeartbeats 2000000 in
theorem whole_walk (p : Int) (s : ByteArray) (n m : Int) (w : World) (_ : -9223372036854775808 ≤ p ∧ p ≤ 9223372036854775807) (hs : s.size ≤ 140737488351232) (_ : -9223372036854775808 ≤ n ∧ n ≤ 9223372036854775807) (_ : -9223372036854775808 ≤ m ∧ m ≤ 9223372036854775807) :
    Calls Try.prog 6 #[.int .i64 p, .string s, .int .i64 n, .int .i64 m] w fun e w' => e = .returned (.bool true) ∧ Off (fun _ => False) w w' := by
  obtain ⟨N, hN, ep⟩ := u64_mod p 7 (by omega) (by omega)
  obtain ⟨A, hA, en⟩ := u64_mod n 9 (by omega) (by omega)
  obtain ⟨B, hB, em⟩ := u64_mod m 9 (by omega) (by omega)
  obtain ⟨x, hx⟩ : ∃ x : Nat, x = N + 1 := ⟨_, rfl⟩
  have ex : (N : Int) + 1 = (x : Int) := by omega
  have hx8 : x ≤ 7 := by omega
  have hx1 : 1 ≤ x := by omega
  have EX2 : Hid ((x : Int) + 1 = ((x + 1 : Nat) : Int)) := by show _ = _; omega
  clear hx
  obtain ⟨i0, hi, hz0, hz1, hz2⟩ := info_parts Try.infoL
  have HLL : Hid _ := ord_len (mixL (tx s)) x
  have HLL2 : Hid _ := ord_len (mixL (tx s)) (x + 1)
  have HLES : Hid _ := ord_less (mixL (tx s)) x
  have HLM : Hid _ := ord_mem (mixL (tx s)) x
  have HLN : Hid _ := ord_nodup (mixL (tx s)) (ptsP x)
  obtain ⟨l, hl⟩ : ∃ l, ordP (mixL (tx s)) (ptsP x) = l := ⟨_, rfl⟩
  obtain ⟨l2, hl2⟩ : ∃ l, ordP (mixL (tx s)) (ptsP (x + 1)) = l := ⟨_, rfl⟩
  have HL : Hid (ordP (mixL (tx s)) (ptsP x) = l) := hl
  have HL2 : Hid (ordP (mixL (tx s)) (ptsP (x + 1)) = l2) := hl2
  rw [hl] at HLL HLES HLM HLN
  rw [hl2] at HLL2 HLES
  clear hl hl2
  go_enter Try.func6, Try.ntmps6
  go_wp2_with fail
  refine (new_nat x (by omega) w).mono ?_
  rintro e w1 ⟨rfl, r1, o1⟩
  generalize hb1 : w.heap.size = b1 at r1 ⊢
  have HB1 : Hid (w.heap.size = b1) := hb1
  have HR1 : Hid _ := r1
  have HO1 : Hid _ := o1
  clear hb1 r1 o1
  have HN2 : Hid _ := new_nat (x + 1) (by omega) w1
  rw [← EX2.out] at HN2
  go_wp2_with fail
  refine Calls.mono HN2.out ?_
  rintro e w2 ⟨rfl, r2, o2⟩
  have hb12 : b1 < w1.heap.size := HR1.out.old b1 rfl
  generalize hb2 : w1.heap.size = b2 at r2 hb12 ⊢
  have HR12 : Hid _ := HR1.out.off o2 (fun _ _ h => h)
  have HR2 : Hid _ := r2
  have hb2s : b2 < w2.heap.size := r2.old b2 rfl
  have HBB : Hid (b1 < b2 ∧ b2 < w2.heap.size) := ⟨hb12, hb2s⟩
  have HO2 : Hid _ := HO1.out.trans o2 (fun _ _ h => h)
  clear hb2 r2 o2 HR1 HO1 HN2 hb12 hb2s
  have HC3 : Hid _ := order_any _ b1 x 0 (by omega) s hs w2 HR12.out
  rw [HL.out] at HC3
  go_wp2_with fail
  refine Calls.mono HC3.out ?_
  rintro e w3 ⟨t1, c1, rfl, D1, r3, own3, hat3, hD3, o3⟩
  have HI3 : Hid _ := own3.its
  have HAT3 : Hid _ := hat3
  have HD3 : Hid (∀ k, D1 k → k = b1 ∨ w2.heap.size ≤ k) := hD3
  have HR3 : Hid _ := r3
  have HQ3 : Hid _ := HR2.out.off o3 (fun k hk e => by have e : k = b1 := e; have hk : k = b2 := hk; have := HBB.out; omega)
  have HLT3 : Hid _ := own3.lt
  have HO3 : Hid _ := HO2.out.trans o3 (fun k hk e => by have e : k = b1 := e; have := HB1.out; omega)
  have HS3 : Hid (w2.heap.size ≤ w3.heap.size) := o3.size
  clear r3 own3 hat3 hD3 o3 HC3 HR12 HR2
  rw [HLL.out]
  have q0 : ((x : Int) != (x : Int)) = false := by simp
  have q1 : (x != x) = false := by simp
  go_upto_region 7 with (at_make; refine wpList_make_full _ rfl _ _ 39 rfl 0 4 i0 (.bool false) 1 Try.underlying39 hi hz0 hz1 _ _ _ _ x rfl rfl rfl rfl (by rw [hz2]; omega) (by unfold maxLen; omega) (Nat.zero_le _) ?_; intro w4 hown hgrow)
  have O4 : Off (fun _ => False) w3 w4 := (Off.refl _ w3).grown hgrow (by simp)
  have CS := own_sbl hown
  have HG : Hid (∀ k, k < w3.heap.size → k ≠ w3.heap.size) := fun k h => by omega
  have HGS : Hid (w.heap.size ≤ w3.heap.size) := HO3.out.size
  have HR4 : Hid _ := HR3.out.off O4 (fun _ _ h => h)
  have HQ4 : Hid _ := HQ3.out.off O4 (fun _ _ h => h)
  have HI4 : Hid _ := HI3.out.off O4
  have HO4 : Hid _ := HO3.out.trans O4 (fun _ _ h => h)
  have HD1L : Hid (∀ k, D1 k → k < w3.heap.size) := HR3.out.old
  have HQ1L : Hid (b2 < w3.heap.size) := HQ3.out.old b2 rfl
  generalize w3.heap.size = g at CS HG HGS HLT3 HD1L HQ1L ⊢
  have HCS : Hid _ := CS
  clear hown hgrow O4 CS HR3 HQ3 HI3 HO3
  go_wp2_with fail
  go_loopw [41] (fun z wr => ∃ j : Nat, z = .int .i64 (j : Int) ∧ j ≤ x ∧ Cel g 4 (sbl (fun i => decide (i ∈ l.take j)) x) wr ∧ Off (fun k => k = g) w4 wr) (fun z _ => ((x : Int) - intOf z).toNat)
  case atStart => exact ⟨0, rfl, by omega, by have := HCS.out; simpa using this, Off.refl _ _⟩
  case round =>
    obtain ⟨j, rfl, hj, cs, O⟩ := hrel
    have HC : Hid _ := cs
    have HO : Hid _ := O
    have HNG : Hid (∀ k, blk t1 = some k → k ≠ g) := fun k hk => HG.out k (HLT3.out k hk)
    have HI5 : Hid _ := HI4.out.offD O (fun k _ e e' => HNG.out k e e')
    clear cs O
    by_cases hlt : j < x
    · obtain ⟨y, hy⟩ : ∃ y, l[j]? = some y := ⟨_, List.getElem?_eq_getElem (by rw [HLL.out]; exact hlt)⟩
      have hyx : y < x := (HLM.out y).1 (List.mem_of_getElem? hy)
      obtain ⟨g1, rfl, k0⟩ := HI5.out.at_ j y hy
      have hny : y ∉ l.take j := fun hm => by
        obtain ⟨i, hi'⟩ := List.getElem?_of_mem hm
        rw [List.getElem?_take] at hi'
        split at hi'
        · rename_i hij
          obtain ⟨h1, e1⟩ := List.getElem?_eq_some_iff.1 hi'
          obtain ⟨h2, e2⟩ := List.getElem?_eq_some_iff.1 hy
          exact (List.pairwise_iff_getElem.1 HLN.out i j h1 h2 hij) (by rw [e1, e2])
        · cases hi'
      have d0 : wr.cell? ⟨g, y, none⟩ = some (.bool false) := by
        rw [HC.out.cell y, sbl_get _ hyx, decide_eq_false hny]
      have f0 : wr.frozen? ⟨g, y, none⟩ = false := HC.out.free y
      have HNX : Hid (Cel g 4 (sbl (fun i => decide (i ∈ l.take (j + 1))) x) (wr.setCell ⟨g, y, none⟩ (.bool true))) := by
        have h1 := HC.out.set y (.bool true)
        rw [sbl_set _ (fun i => decide (i ∈ l.take (j + 1))) hyx (by rw [List.take_add_one, hy]; simp) (fun k hk => by
          rw [decide_eq_decide, List.take_add_one, hy]
          simp
          intro e
          exact absurd e hk)] at h1
        exact h1
      have HN2 : Hid _ := HO.out.setCell (p := ⟨g, y, none⟩) (.inl rfl) (.bool true)
      clear hny hy
      go_wp2_with fail
      go_roundw
      case rel => exact ⟨j + 1, by go_num, by omega, HNX.out, HN2.out⟩
      case measure => simp [intOf]; omega
    · obtain rfl : x = j := by omega
      have HR5 : Hid _ := HR4.out.off HO.out (fun k hk e => HG.out k (HD1L.out k hk) e)
      have HQ5 : Hid _ := HQ4.out.off HO.out (fun k hk e => HG.out b2 HQ1L.out (by have hk : k = b2 := hk; have e : k = g := e; omega))
      have HF5 : Hid _ := HO4.out.trans HO.out (fun k hk e => by have e : k = g := e; have : w.heap.size ≤ g := HGS.out; omega)
      have HT1 : Hid (∀ k, blk t1 = some k → ¬ D1 k) := fun k hk => (HAT3.out k hk).2
      have HT2 : Hid (∀ k, blk t1 = some k → ¬ k = b2) := fun k hk e => by have := (HAT3.out k hk).1; have := HBB.out; omega
      have HDD : Hid (∀ k, D1 k → ¬ k = b2) := fun k hk e => by have := HD3.out k hk; have := HBB.out; omega
      have HDN : Hid (∀ k, D1 k → w.heap.size ≤ k) := fun k hk => by have := HD3.out k hk; have := HB1.out; have := HBB.out; omega
      have HDN2 : Hid (∀ k, k = b2 → w.heap.size ≤ k) := fun k hk => by have := HB1.out; have := HBB.out; omega
      clear HC HO HR4 HQ4 HI4 HO4 HCS HNG hlt hj
      by_cases hsw : B < A
      · have g1 : decide ((A : Int) > (B : Int)) = true := decide_eq_true (by omega)
        have HA : Hid _ := owners_any D1 b1 x 1 (by omega) s hs (B : Int) wr HR5.out
        have EA : capN (B : Int) x = min B x := by unfold capN; omega
        have EB : capN (A : Int) x = min A x := by unfold capN; omega
        rw [HL.out, EA] at HA
        have HKA : Hid (min B x ≤ min A x ∧ min A x ≤ x) := by show _ ∧ _; omega
        have HMA : Hid (min (B : Int) (x : Int) = ((min B x : Nat) : Int)) := by show _ = _; omega
        have HMB : Hid (min (A : Int) (x : Int) = ((min A x : Nat) : Int)) := by show _ = _; omega
        have hmA := min_int (B : Int) (x : Int)
        have hmB := min_int (A : Int) (x : Int)
        rw [HMA.out] at hmA
        rw [HMB.out] at hmB
        have HOB : Hid (∀ D w, Rng D b1 x 1 w → Calls Try.prog 14 #[.pointer (some ⟨b1, 0, none⟩), .string s, .int .i64 (A : Int)] w fun e w' => ∃ t c, e = .returned (.slice t (l.take (min A x)).length c) ∧ ∃ D', Rng D' b1 x 1 w' ∧ OwnG 3 1 ics w' t c (l.take (min A x)) ∧ (∀ k, blk t = some k → w.heap.size ≤ k ∧ ¬ D' k) ∧ (∀ k, D' k → D k ∨ w.heap.size ≤ k) ∧ Off D w w') := fun D w h => by
          have := owners_any D b1 x 1 (by omega) s hs (A : Int) w h
          rw [HL.out, EB] at this
          exact this
        clear EA EB
        have HTA : Hid _ := List.length_take (i := min B x) (l := l)
        have HTB : Hid _ := List.length_take (i := min A x) (l := l)
        have HLA : Hid ((l.take (min B x)).length = min B x) := by show _ = _; rw [HTA.out, HLL.out]; omega
        have HLB : Hid ((l.take (min A x)).length = min A x) := by show _ = _; rw [HTB.out, HLL.out]; omega
        have HTT : Hid ((l.take (min A x)).take (min B x) = l.take (min B x)) := by show _ = _; rw [List.take_take, Nat.min_eq_left HKA.out.1]
        clear HTA HTB
        generalize hka : min B x = ka at *
        generalize hkb : min A x = kb at *
        clear hka hkb
        generalize l.take ka = la at HA HLA HTT
        generalize l.take kb = lb at HOB HLB HTT
        go_wp2_with fail
        refine Calls.mono HA.out ?_
        rintro e w6 ⟨ta, ca, rfl, D6, r6, own6, hat6, hD6, o6⟩
        have HOW6 : Hid _ := own6
        have HAT6 : Hid _ := hat6
        have HD6 : Hid _ := hD6
        have HO6 : Hid _ := o6
        have HB6 : Hid _ := HOB.out D6 w6 r6
        have HOLD6 : Hid _ := r6.old
        clear own6 hat6 hD6 o6 r6
        rw [HLA.out]
        go_wp2_with fail
        refine Calls.mono HB6.out ?_
        rintro e w7 ⟨tb, cb, rfl, D7, r7, own7, hat7, hD7, o7⟩
        have HOW7 : Hid _ := own7
        have HO7 : Hid _ := o7
        have hne6 : ∀ k, blk ta = some k → ¬ D6 k := fun k hk => (HAT6.out k hk).2
        have HSA : Hid _ := HOW6.out.its.offD o7 (fun k _ e => hne6 k e)
        have HSB : Hid _ := own7.its
        have hslb := own7.its.slice own7.none0 (k := ka) (by have h1 : lb.length = kb := HLB.out; have := HKA.out; omega)
        rw [HTT.out] at hslb
        rw [HLA.out, HLB.out] at hslb
        have HSM : Hid _ := sameints_any ta tb ca cb la w7 HSA.out (by have := own7.its.take ka; rw [HTT.out] at this; exact this) (by have h1 : la.length = ka := HLA.out; have := HKA.out; omega)
        rw [HLA.out] at HSM
        clear own7 hat7 hD7 o7 r7 hne6 HB6
        rw [HLB.out]
        have q1 : ((ka : Int) != (ka : Int)) = false := by simp
        have q2 : ((kb : Int) != (kb : Int)) = false := by simp
        have q3 : (ka != ka) = false := by simp
        have q4 : (kb != kb) = false := by simp
        go_wp2_with fail
        refine Calls.mono HSM.out ?_
        rintro e w8 ⟨rfl, o8⟩
        have HO8 : Hid _ := o8
        -- all that was written since the loop: blocks of the first ring, and new ones
        have HO58 : Hid (Off D1 wr w8) := (HO6.out.trans HO7.out (fun k hk e => by
          rcases HD6.out k e with h | h
          · exact h
          · omega)).trans HO8.out (fun _ _ h => h.elim)
        clear o8 hmA hmB hslb q1 q2 q3 q4 HSM HSA HSB
        have HR8 : Hid _ := HQ5.out.off HO58.out (fun k hk e => HDD.out k e hk)
        have HL8 : Hid _ := HI5.out.offD HO58.out (fun k _ e e' => HT1.out k e e')
        have HF8 : Hid _ := HF5.out.trans HO58.out (fun k hk e => by have := HDN.out k e; omega)
        clear HO6 HO7 HO8 HOW6 HOW7 HAT6 HD6 HOLD6 HA HOB HLA HLB HTT HKA HMA HMB
        have HC8 : Hid _ := order_any _ b2 (x + 1) 0 (by omega) s hs w8 HR8.out
        rw [HL2.out] at HC8
        go_wp2_with fail
        refine Calls.mono HC8.out ?_
        rintro e w9 ⟨t9, c9, rfl, D9, r9, own9, hat9, hD9, o9⟩
        have HI9 : Hid _ := own9.its
        have HLT9 : Hid _ := own9.lt
        have HL9 : Hid _ := HL8.out.offD o9 (fun k _ e e' => HT2.out k e e')
        have HF9 : Hid _ := HF8.out.trans o9 (fun k hk e => by have := HDN2.out k e; omega)
        clear r9 own9 hat9 hD9 o9 HC8 HL8 HF8 HR8
        rw [HLL2.out]
        go_wp2_with fail
        go_loopw [17, 110] (fun y z wr => ∃ (j : Nat) (t : Option Addr) (c : Nat), y = .slice t ((l2.take j).filter (fun y => decide (y ≠ x))).length c ∧ z = .int .i64 (j : Int) ∧ j ≤ x + 1 ∧ OwnG 3 1 ics wr t c ((l2.take j).filter (fun y => decide (y ≠ x))) ∧ (∀ k, blk t = some k → w9.heap.size ≤ k) ∧ Off (fun _ => False) w9 wr) (fun _ z _ => ((x : Int) + 1 - intOf z).toNat)
        case atStart => exact ⟨0, none, 0, rfl, rfl, by omega, OwnG.nil _ _ _ _, fun k hk => by simp [blk] at hk, Off.refl _ _⟩
        case round =>
          obtain ⟨j, t, c, rfl, rfl, hj, own, hat, O⟩ := hrel
          have HOW : Hid _ := own
          have HAT : Hid _ := hat
          have HO : Hid _ := O
          clear own hat O
          by_cases hlt : j < x + 1
          · obtain ⟨y, hy⟩ : ∃ y, l2[j]? = some y := ⟨_, List.getElem?_eq_getElem (by rw [HLL2.out]; exact hlt)⟩
            obtain ⟨g9, rfl, k0⟩ := (HI9.out.off HO.out).at_ j y hy
            have HST : Hid ((l2.take (j + 1)).filter (fun y => decide (y ≠ x)) = (l2.take j).filter (fun y => decide (y ≠ x)) ++ (if y = x then [] else [y])) := by
              show _ = _
              rw [List.take_add_one, hy, List.filter_append]
              congr 1
              by_cases e : y = x <;> simp [e]
            have HLN : Hid (((l2.take j).filter (fun y => decide (y ≠ x))).length ≤ 8) := by
              have h1 := List.length_filter_le (fun y => decide (y ≠ x)) (l2.take j)
              have h2 : (l2.take j).length ≤ x + 1 := by rw [List.length_take]; omega
              show _ ≤ _
              omega
            generalize (l2.take j).filter (fun y => decide (y ≠ x)) = qs at HOW HST HLN ⊢
            clear hy
            by_cases hyx : y = x
            · have n1 : ((y : Int) != (x : Int)) = false := by simp [hyx]
              have n2 : (y != x) = false := by simp [hyx]
              have HY : Hid (y = x) := hyx
              clear hyx
              go_wp2_with fail
              go_roundw
              case rel =>
                have e9 : (l2.take (j + 1)).filter (fun y => decide (y ≠ x)) = qs := by rw [HST.out, if_pos HY.out, List.append_nil]
                exact ⟨j + 1, t, c, by rw [e9], by go_num, by omega, by rw [e9]; exact HOW.out, HAT.out, HO.out⟩
              case measure => simp [intOf]; omega
            · have n1 : ((y : Int) != (x : Int)) = true := by simp; omega
              have n2 : (y != x) = true := by simp [hyx]
              have HY : Hid (¬ y = x) := hyx
              clear hyx
              have OA : Off (fun _ => False) wr (wr.alloc (.cells #[.int .i64 (y : Nat)] 3)) := (Off.refl _ wr).alloc _
              have own4 := HOW.out.off OA (fun _ _ _ h => h)
              have cn := Cel.new wr 3 #[.int .i64 (y : Nat)]
              have hcn : ∀ j u, (ics y)[j]? = some u → (wr.alloc (.cells #[.int .i64 (y : Nat)] 3)).cell? ⟨wr.heap.size, j, none⟩ = some u := fun j u hj => by
                rw [cn.cell j]
                simpa [ics] using hj
              have HOA : Hid _ := OA
              clear OA cn
              go_wp2_with (at_builtin; refine wpList_appG (cs := ics) rfl (.tmp 117) (.tmp 119) Try.underlying24 Try.infoN rfl (by decide) (by decide) ics_len ics_one rfl t c qs rfl own4 wr.heap.size 1 y rfl hcn (by have : qs.length ≤ 8 := HLN.out; omega) ?_; intro t' c' w' ys hys own' off' at')
              have HYS : Hid (ys = (l2.take (j + 1)).filter (fun y => decide (y ≠ x))) := by
                show ys = _
                rw [hys.out, HST.out, if_neg HY.out]
              have HOW' : Hid _ := own'
              have HOF' : Hid _ := off'
              clear own' off' own4 hcn hys
              go_wp2_with fail
              go_roundw
              case rel =>
                have s0 := HO.out.size
                simp only [World.size_alloc] at at'
                rw [HYS.out] at HOW'
                refine ⟨j + 1, t', c', by rw [HYS.out], by go_num, by omega, HOW'.out, fun k hk => ?_, ?_⟩
                · rcases at' with h9 | h9
                  · exact HAT.out k (h9 ▸ hk)
                  · rw [h9] at hk
                    cases hk
                    exact Nat.le_trans s0 (Nat.le_succ _)
                · exact (HO.out.trans HOA.out (fun _ _ h => h)).trans HOF'.out (fun i hi e => by have := HAT.out i e; omega)
              case measure => simp [intOf]; omega
          · obtain rfl : j = x + 1 := by omega
            have e9 : (l2.take (x + 1)).filter (fun y => decide (y ≠ x)) = l := by rw [List.take_of_length_le (by rw [HLL2.out]; exact Nat.le_refl _)]; exact HLES.out
            rw [e9] at HOW ⊢
            have HS2 : Hid _ := sameints_any t t1 c c1 l wr HOW.out.its (HL9.out.off HO.out) (by rw [HLL.out]; omega)
            have HFA : Hid _ := HF9.out.trans HO.out (fun _ _ h => h)
            rw [HLL.out] at HS2 ⊢
            clear e9
            go_wp2_with fail
            refine Calls.mono HS2.out ?_
            rintro e wA ⟨rfl, oA⟩
            have HFB : Hid _ := HFA.out.trans oA (fun _ _ h => h)
            clear oA
            go_wp2_with fail
            refine (awake_any _).mono ?_
            rintro e wB ⟨rfl, oB⟩
            have HFC : Hid _ := HFB.out.trans oB (fun _ _ h => h)
            clear oB
            go_wp2_with fail
            go_ret
            exact ⟨rfl, HFC.out⟩
      · have g1 : decide ((A : Int) > (B : Int)) = false := decide_eq_false (by omega)
        have HA : Hid _ := owners_any D1 b1 x 1 (by omega) s hs (A : Int) wr HR5.out
        have EA : capN (A : Int) x = min A x := by unfold capN; omega
        have EB : capN (B : Int) x = min B x := by unfold capN; omega
        rw [HL.out, EA] at HA
        have HKA : Hid (min A x ≤ min B x ∧ min B x ≤ x) := by show _ ∧ _; omega
        have HMA : Hid (min (A : Int) (x : Int) = ((min A x : Nat) : Int)) := by show _ = _; omega
        have HMB : Hid (min (B : Int) (x : Int) = ((min B x : Nat) : Int)) := by show _ = _; omega
        have hmA := min_int (A : Int) (x : Int)
        have hmB := min_int (B : Int) (x : Int)
        rw [HMA.out] at hmA
        rw [HMB.out] at hmB
        have HOB : Hid (∀ D w, Rng D b1 x 1 w → Calls Try.prog 14 #[.pointer (some ⟨b1, 0, none⟩), .string s, .int .i64 (B : Int)] w fun e w' => ∃ t c, e = .returned (.slice t (l.take (min B x)).length c) ∧ ∃ D', Rng D' b1 x 1 w' ∧ OwnG 3 1 ics w' t c (l.take (min B x)) ∧ (∀ k, blk t = some k → w.heap.size ≤ k ∧ ¬ D' k) ∧ (∀ k, D' k → D k ∨ w.heap.size ≤ k) ∧ Off D w w') := fun D w h => by
          have := owners_any D b1 x 1 (by omega) s hs (B : Int) w h
          rw [HL.out, EB] at this
          exact this
        clear EA EB
        have HTA : Hid _ := List.length_take (i := min A x) (l := l)
        have HTB : Hid _ := List.length_take (i := min B x) (l := l)
        have HLA : Hid ((l.take (min A x)).length = min A x) := by show _ = _; rw [HTA.out, HLL.out]; omega
        have HLB : Hid ((l.take (min B x)).length = min B x) := by show _ = _; rw [HTB.out, HLL.out]; omega
        have HTT : Hid ((l.take (min B x)).take (min A x) = l.take (min A x)) := by show _ = _; rw [List.take_take, Nat.min_eq_left HKA.out.1]
        clear HTA HTB
        generalize hka : min A x = ka at *
        generalize hkb : min B x = kb at *
        clear hka hkb
        generalize l.take ka = la at HA HLA HTT
        generalize l.take kb = lb at HOB HLB HTT
        go_wp2_with fail
        refine Calls.mono HA.out ?_
        rintro e w6 ⟨ta, ca, rfl, D6, r6, own6, hat6, hD6, o6⟩
        have HOW6 : Hid _ := own6
        have HAT6 : Hid _ := hat6
        have HD6 : Hid _ := hD6
        have HO6 : Hid _ := o6
        have HB6 : Hid _ := HOB.out D6 w6 r6
        have HOLD6 : Hid _ := r6.old
        clear own6 hat6 hD6 o6 r6
        rw [HLA.out]
        go_wp2_with fail
        refine Calls.mono HB6.out ?_
        rintro e w7 ⟨tb, cb, rfl, D7, r7, own7, hat7, hD7, o7⟩
        have HOW7 : Hid _ := own7
        have HO7 : Hid _ := o7
        have hne6 : ∀ k, blk ta = some k → ¬ D6 k := fun k hk => (HAT6.out k hk).2
        have HSA : Hid _ := HOW6.out.its.offD o7 (fun k _ e => hne6 k e)
        have HSB : Hid _ := own7.its
        have hslb := own7.its.slice own7.none0 (k := ka) (by have h1 : lb.length = kb := HLB.out; have := HKA.out; omega)
        rw [HTT.out] at hslb
        rw [HLA.out, HLB.out] at hslb
        have HSM : Hid _ := sameints_any ta tb ca cb la w7 HSA.out (by have := own7.its.take ka; rw [HTT.out] at this; exact this) (by have h1 : la.length = ka := HLA.out; have := HKA.out; omega)
        rw [HLA.out] at HSM
        clear own7 hat7 hD7 o7 r7 hne6 HB6
        rw [HLB.out]
        have q1 : ((ka : Int) != (ka : Int)) = false := by simp
        have q2 : ((kb : Int) != (kb : Int)) = false := by simp
        have q3 : (ka != ka) = false := by simp
        have q4 : (kb != kb) = false := by simp
        go_wp2_with fail
        refine Calls.mono HSM.out ?_
        rintro e w8 ⟨rfl, o8⟩
        have HO8 : Hid _ := o8
        -- all that was written since the loop: blocks of the first ring, and new ones
        have HO58 : Hid (Off D1 wr w8) := (HO6.out.trans HO7.out (fun k hk e => by
          rcases HD6.out k e with h | h
          · exact h
          · omega)).trans HO8.out (fun _ _ h => h.elim)
        clear o8 hmA hmB hslb q1 q2 q3 q4 HSM HSA HSB
        have HR8 : Hid _ := HQ5.out.off HO58.out (fun k hk e => HDD.out k e hk)
        have HL8 : Hid _ := HI5.out.offD HO58.out (fun k _ e e' => HT1.out k e e')
        have HF8 : Hid _ := HF5.out.trans HO58.out (fun k hk e => by have := HDN.out k e; omega)
        clear HO6 HO7 HO8 HOW6 HOW7 HAT6 HD6 HOLD6 HA HOB HLA HLB HTT HKA HMA HMB
        have HC8 : Hid _ := order_any _ b2 (x + 1) 0 (by omega) s hs w8 HR8.out
        rw [HL2.out] at HC8
        go_wp2_with fail
        refine Calls.mono HC8.out ?_
        rintro e w9 ⟨t9, c9, rfl, D9, r9, own9, hat9, hD9, o9⟩
        have HI9 : Hid _ := own9.its
        have HLT9 : Hid _ := own9.lt
        have HL9 : Hid _ := HL8.out.offD o9 (fun k _ e e' => HT2.out k e e')
        have HF9 : Hid _ := HF8.out.trans o9 (fun k hk e => by have := HDN2.out k e; omega)
        clear r9 own9 hat9 hD9 o9 HC8 HL8 HF8 HR8
        rw [HLL2.out]
        go_wp2_with fail
        go_loopw [17, 110] (fun y z wr => ∃ (j : Nat) (t : Option Addr) (c : Nat), y = .slice t ((l2.take j).filter (fun y => decide (y ≠ x))).length c ∧ z = .int .i64 (j : Int) ∧ j ≤ x + 1 ∧ OwnG 3 1 ics wr t c ((l2.take j).filter (fun y => decide (y ≠ x))) ∧ (∀ k, blk t = some k → w9.heap.size ≤ k) ∧ Off (fun _ => False) w9 wr) (fun _ z _ => ((x : Int) + 1 - intOf z).toNat)
        case atStart => exact ⟨0, none, 0, rfl, rfl, by omega, OwnG.nil _ _ _ _, fun k hk => by simp [blk] at hk, Off.refl _ _⟩
        case round =>
          obtain ⟨j, t, c, rfl, rfl, hj, own, hat, O⟩ := hrel
          have HOW : Hid _ := own
          have HAT : Hid _ := hat
          have HO : Hid _ := O
          clear own hat O
          by_cases hlt : j < x + 1
          · obtain ⟨y, hy⟩ : ∃ y, l2[j]? = some y := ⟨_, List.getElem?_eq_getElem (by rw [HLL2.out]; exact hlt)⟩
            obtain ⟨g9, rfl, k0⟩ := (HI9.out.off HO.out).at_ j y hy
            have HST : Hid ((l2.take (j + 1)).filter (fun y => decide (y ≠ x)) = (l2.take j).filter (fun y => decide (y ≠ x)) ++ (if y = x then [] else [y])) := by
              show _ = _
              rw [List.take_add_one, hy, List.filter_append]
              congr 1
              by_cases e : y = x <;> simp [e]
            have HLN : Hid (((l2.take j).filter (fun y => decide (y ≠ x))).length ≤ 8) := by
              have h1 := List.length_filter_le (fun y => decide (y ≠ x)) (l2.take j)
              have h2 : (l2.take j).length ≤ x + 1 := by rw [List.length_take]; omega
              show _ ≤ _
              omega
            generalize (l2.take j).filter (fun y => decide (y ≠ x)) = qs at HOW HST HLN ⊢
            clear hy
            by_cases hyx : y = x
            · have n1 : ((y : Int) != (x : Int)) = false := by simp [hyx]
              have n2 : (y != x) = false := by simp [hyx]
              have HY : Hid (y = x) := hyx
              clear hyx
              go_wp2_with fail
              go_roundw
              case rel =>
                have e9 : (l2.take (j + 1)).filter (fun y => decide (y ≠ x)) = qs := by rw [HST.out, if_pos HY.out, List.append_nil]
                exact ⟨j + 1, t, c, by rw [e9], by go_num, by omega, by rw [e9]; exact HOW.out, HAT.out, HO.out⟩
              case measure => simp [intOf]; omega
            · have n1 : ((y : Int) != (x : Int)) = true := by simp; omega
              have n2 : (y != x) = true := by simp [hyx]
              have HY : Hid (¬ y = x) := hyx
              clear hyx
              have OA : Off (fun _ => False) wr (wr.alloc (.cells #[.int .i64 (y : Nat)] 3)) := (Off.refl _ wr).alloc _
              have own4 := HOW.out.off OA (fun _ _ _ h => h)
              have cn := Cel.new wr 3 #[.int .i64 (y : Nat)]
              have hcn : ∀ j u, (ics y)[j]? = some u → (wr.alloc (.cells #[.int .i64 (y : Nat)] 3)).cell? ⟨wr.heap.size, j, none⟩ = some u := fun j u hj => by
                rw [cn.cell j]
                simpa [ics] using hj
              have HOA : Hid _ := OA
              clear OA cn
              go_wp2_with (at_builtin; refine wpList_appG (cs := ics) rfl (.tmp 117) (.tmp 119) Try.underlying24 Try.infoN rfl (by decide) (by decide) ics_len ics_one rfl t c qs rfl own4 wr.heap.size 1 y rfl hcn (by have : qs.length ≤ 8 := HLN.out; omega) ?_; intro t' c' w' ys hys own' off' at')
              have HYS : Hid (ys = (l2.take (j + 1)).filter (fun y => decide (y ≠ x))) := by
                show ys = _
                rw [hys.out, HST.out, if_neg HY.out]
              have HOW' : Hid _ := own'
              have HOF' : Hid _ := off'
              clear own' off' own4 hcn hys
              go_wp2_with fail
              go_roundw
              case rel =>
                have s0 := HO.out.size
                simp only [World.size_alloc] at at'
                rw [HYS.out] at HOW'
                refine ⟨j + 1, t', c', by rw [HYS.out], by go_num, by omega, HOW'.out, fun k hk => ?_, ?_⟩
                · rcases at' with h9 | h9
                  · exact HAT.out k (h9 ▸ hk)
                  · rw [h9] at hk
                    cases hk
                    exact Nat.le_trans s0 (Nat.le_succ _)
                · exact (HO.out.trans HOA.out (fun _ _ h => h)).trans HOF'.out (fun i hi e => by have := HAT.out i e; omega)
              case measure => simp [intOf]; omega
          · obtain rfl : j = x + 1 := by omega
            have e9 : (l2.take (x + 1)).filter (fun y => decide (y ≠ x)) = l := by rw [List.take_of_length_le (by rw [HLL2.out]; exact Nat.le_refl _)]; exact HLES.out
            rw [e9] at HOW ⊢
            have HS2 : Hid _ := sameints_any t t1 c c1 l wr HOW.out.its (HL9.out.off HO.out) (by rw [HLL.out]; omega)
            have HFA : Hid _ := HF9.out.trans HO.out (fun _ _ h => h)
            rw [HLL.out] at HS2 ⊢
            clear e9
            go_wp2_with fail
            refine Calls.mono HS2.out ?_
            rintro e wA ⟨rfl, oA⟩
            have HFB : Hid _ := HFA.out.trans oA (fun _ _ h => h)
            clear oA
            go_wp2_with fail
            refine (awake_any _).mono ?_
            rintro e wB ⟨rfl, oB⟩
            have HFC : Hid _ := HFB.out.trans oB (fun _ _ h => h)
            clear oB
            go_wp2_with fail
            go_ret
            exact ⟨rfl, HFC.out⟩
end Go.Proofs.Ytpiknkgnmjcjjaa
