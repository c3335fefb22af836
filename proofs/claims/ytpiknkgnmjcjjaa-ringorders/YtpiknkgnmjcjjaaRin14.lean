/- A ring as a whole: Once.Do, from, Order. -/
import Derived.Test.YtpiknkgnmjcjjaaPla14
namespace Go.Proofs.Ytpiknkgnmjcjjaa
set_option maxRecDepth 100000
open Go.RowKit

/-- A ring of n nodes at b whose points were put in order m times; D its blocks. -/
structure Rng (D : Nat → Prop) (b n m : Nat) (w : World) : Prop where
  inb : D b
  old : ∀ k, D k → k < w.heap.size
  st : (m = 0 ∧ Rc b (n : Int) 0 0 (.slice none 0 0) 0 w) ∨ (m = 1 ∧ ∃ t c, Rc b (n : Int) 1 0 (.slice t (ptsP n).length c) 1 w ∧ RowP w t c (ptsP n) ∧ (t = none → c = 0) ∧ ∀ k, blk t = some k → D k ∧ k ≠ b)
theorem Rng.off {D E : Nat → Prop} {b n m : Nat} {w w' : World} (h : Rng D b n m w) (o : Off E w w') (hE : ∀ k, D k → ¬ E k) : Rng D b n m w' := by
  refine ⟨h.inb, fun k hk => Nat.lt_of_lt_of_le (h.old k hk) o.size, ?_⟩
  rcases h.st with ⟨hm, hr⟩ | ⟨hm, t, c, hr, hp, hz, hk⟩
  · exact .inl ⟨hm, Rc.off hr o (hE b h.inb)⟩
  · exact .inr ⟨hm, t, c, Rc.off hr o (hE b h.inb), hp.offD o (fun k _ e => hE k (hk k e).1), hz, hk⟩
theorem Rng.new {b n : Nat} {w : World} (h : Rc b (n : Int) 0 0 (.slice none 0 0) 0 w) : Rng (fun k => k = b) b n 0 w := ⟨rfl, fun _ hk => hk ▸ Rc.lt h, .inl ⟨rfl, h⟩⟩
theorem Rng.rc {D : Nat → Prop} {b n m : Nat} {w : World} (h : Rng D b n m w) : ∃ d ps, Rc b (n : Int) d 0 ps (m : Int) w := by
  rcases h.st with ⟨rfl, hr⟩ | ⟨rfl, t, c, hr, -⟩
  · exact ⟨_, _, hr⟩
  · exact ⟨_, _, hr⟩
theorem once_any (D : Nat → Prop) (b n m : Nat) (hn : n ≤ 8) (w : World) (h : Rng D b n m w) :
    Calls Try.prog 22 #[.pointer (some ⟨b, 1, none⟩), .func (.func 23) #[.pointer (some ⟨b, 0, none⟩)] #[]] w fun e w' => e = .returned (.tuple #[]) ∧ ∃ D', Rng D' b n 1 w' ∧ (∀ k, D' k → D k ∨ w.heap.size ≤ k) ∧ Off D w w' := by
  rcases h.st with ⟨rfl, hr⟩ | ⟨rfl, t, c, hr, hp, hz, hk⟩
  · refine (do_first b w (fun w2 => ∃ t c, Rc b (n : Int) 0 1 (.slice t (ptsP n).length c) 1 w2 ∧ RowP w2 t c (ptsP n) ∧ (t = none → c = 0) ∧ (∀ k, blk t = some k → w.heap.size ≤ k ∧ k < w2.heap.size) ∧ Off (fun i => i = b) w w2) (n : Int) (.slice none 0 0) 0 hr (fun w1 hw1 => ?_)).mono ?_
    · have hr1 : Rc b (n : Int) 0 1 (.slice none 0 0) 0 w1 := by rw [hw1]; exact Rc.s2 hr 1
      have o1 : Off (fun k => k = b) w w1 := by rw [hw1]; exact (Off.refl (fun k => k = b) w).setCell (p := ⟨b, 2, none⟩) (.inl rfl) _
      refine (place_x b n hn w1 hr1).mono ?_
      rintro e w2 ⟨rfl, t, c, r2, p2, z2, k2, o2⟩
      exact ⟨rfl, ⟨t, c, r2, p2, z2, fun k hk => ⟨Nat.le_trans o1.size (k2 k hk).1, (k2 k hk).2⟩, o1.trans o2 (fun _ _ h => h)⟩, _, r2⟩
    · rintro e w' ⟨rfl, w2, ⟨t, c, r2, p2, z2, k2, o2⟩, -, hw⟩
      have hb := Rc.lt hr
      have o3 : Off (fun k => k = b) w2 w' := by
        rw [hw]
        exact (((Off.refl (fun k => k = b) w2).drew).setCell (p := ⟨b, 1, none⟩) (.inl rfl) _).setCell (p := ⟨b, 2, none⟩) (.inl rfl) _
      have hne : ∀ k, blk t = some k → k ≠ b := fun k hk e => by have := (k2 k hk).1; omega
      refine ⟨rfl, fun k => k = b ∨ blk t = some k, ⟨.inl rfl, fun k hk => ?_, .inr ⟨rfl, t, c, ?_, p2.offD o3 (fun k _ e => hne k e), z2, fun k hk => ⟨.inr hk, hne k hk⟩⟩⟩, fun k hk => ?_, (o2.trans o3 (fun _ _ h => h)).mono (fun i _ e => by have e : i = b := e; rw [e]; exact h.inb)⟩
      · rcases hk with rfl | hk
        · exact Nat.lt_of_lt_of_le hb (Nat.le_trans o2.size o3.size)
        · exact Nat.lt_of_lt_of_le (k2 k hk).2 o3.size
      · rw [hw]
        exact Rc.s2 (Rc.s1 (Cel.drew r2) 1) 0
      · rcases hk with rfl | hk
        · exact .inl h.inb
        · exact .inr (k2 k hk).1
  · refine (do_done ⟨b, 1, none⟩ _ w (Rc.c1 hr)).mono ?_
    rintro e w' ⟨rfl, rfl⟩
    exact ⟨rfl, D, h, fun k hk => .inl hk, Off.refl _ _⟩
theorem from_any (b s : Nat) (n : Nat) (hn : n ≤ 8) (w : World) (t : Option Addr) (c : Nat) (hr : Rc b (n : Int) 1 0 (.slice t (ptsP n).length c) 1 w) (hp : RowP w t c (ptsP n)) :
    Calls Try.prog 24 #[.pointer (some ⟨b, 0, none⟩), .int .u32 (s : Nat)] w fun e w' => ∃ i : Nat, e = .returned (.int .i64 (i : Int)) ∧ CutAt (ptsP n) s i ∧ Off (fun _ => False) w w' := by
  have HS : Hid _ := search_any t c (ptsP n) s w hp (pts_sp n) (by rw [pts_len]; omega)
  have c4 := Rc.c4 hr
  clear hr hp
  go_enter Try.func24, Try.ntmps24
  go_wp2_with fail
  refine Calls.mono HS.out ?_
  rintro e w1 ⟨i, b1, rfl, cut, o⟩
  have HC : Hid _ := cut
  have HO : Hid _ := o
  clear cut o c4
  go_wp2_with fail
  go_ret
  exact ⟨i, rfl, HC.out, HO.out⟩
theorem ord_cut {l : List Pn} {s i : Nat} (h : CutAt l s i) : addN (addN [] (l.drop i)) (l.take i) = ordP s l := by
  obtain ⟨h1, h2⟩ := cut_ge h.lo h.hi
  rw [ordP, h1, h2]
set_option maxHeartbeats 1000000 in
theorem order_any (D : Nat → Prop) (b n m : Nat) (hn : n ≤ 8) (s : ByteArray) (hs : s.size ≤ 140737488351232) (w : World) (h : Rng D b n m w) :
    Calls Try.prog 12 #[.pointer (some ⟨b, 0, none⟩), .string s] w fun e w' => ∃ t c, e = .returned (.slice t (ordP (mixL (tx s)) (ptsP n)).length c) ∧ ∃ D', Rng D' b n 1 w' ∧ OwnG 3 1 ics w' t c (ordP (mixL (tx s)) (ptsP n)) ∧ (∀ k, blk t = some k → w.heap.size ≤ k ∧ ¬ D' k) ∧ (∀ k, D' k → D k ∨ w.heap.size ≤ k) ∧ Off D w w' := by
  have HDO : Hid _ := once_any D b n m hn w h
  have HPL : Hid _ := place_any s hs
  obtain ⟨i0, hi, hz0, hz1, hz2⟩ := info_parts Try.infoN
  have hmf : ∀ (fn : Fn) (first cap : Array Value) (w : World), (Instr.makeFunc fn first cap).run Try.prog w = .ok (.func fn first cap) w := fun _ _ _ _ => rfl
  have hold := h.old
  have HOLD : Hid _ := hold
  clear h hold
  generalize mixL (tx s) = M at *
  go_enter Try.func12, Try.ntmps12
  go_wp2_with fail
  refine Calls.mono HDO.out ?_
  rintro e w1 ⟨rfl, D', r1, hD', o1⟩
  have HD1 : Hid _ := hD'
  have HO1 : Hid _ := o1
  have HR1 : Hid _ := r1
  clear hD' o1 r1
  go_wp2_with fail
  refine (HPL.out w1).mono ?_
  rintro e w2 ⟨rfl, o2⟩
  have r2 := HR1.out.off o2 (fun _ _ h => h)
  have HO2 : Hid _ := HO1.out.trans o2 (fun _ _ h => h.elim)
  clear o2 HR1 HO1 HDO HPL
  rcases r2.st with ⟨h0, -⟩ | ⟨-, t, c, hr, hp, hz, hk⟩
  · omega
  have HF : Hid _ := from_any b M n hn w2 t c hr hp
  have HR2 : Hid _ := r2
  have HRC2 : Hid (Rc b (n : Int) 1 0 (.slice t (ptsP n).length c) 1 w2) := hr
  have HP2 : Hid _ := hp
  have HZ : Hid _ := hz
  have HK : Hid _ := hk
  clear r2 hr hp hz hk
  go_wp2_with fail
  refine Calls.mono HF.out ?_
  rintro e w3 ⟨i, rfl, cut, o3⟩
  have HR3 : Hid _ := HR2.out.off o3 (fun _ _ h => h)
  have HRC3 : Hid (Rc b (n : Int) 1 0 (.slice t (ptsP n).length c) 1 w3) := Rc.off HRC2.out o3 (fun h => h)
  have HP3 : Hid _ := HP2.out.off o3
  have HO3 : Hid _ := HO2.out.trans o3 (fun _ _ h => h.elim)
  have HCUT : Hid _ := ord_cut cut
  have HLE : Hid _ := cut.le
  clear o3 cut HR2 HRC2 HP2 HO2 HF
  have c0 := Rc.c0 HRC3.out
  have HLN : Hid _ := pts_len n
  generalize hps : ptsP n = ps at *
  have HPS : Hid (ptsP n = ps) := hps
  clear hps
  go_upto_region 6 with (at_make; refine wpList_make_own _ rfl _ _ 24 rfl 0 3 i0 (.int .i64 0) 1 Try.underlying24 hi hz0 hz1 _ _ _ n rfl rfl rfl (by rw [hz2]; omega) (by unfold maxLen; omega) (Nat.zero_le _) ?_; intro w4 hown hgrow)
  have OW4 : OwnG 3 1 ics w4 (some ⟨w3.heap.size, 0, none⟩) n [] := ⟨hown⟩
  have O4 : Off (fun _ => False) w3 w4 := (Off.refl _ w3).grown hgrow (by simp)
  obtain ⟨t5, c5, hsl, rp5, hb5⟩ := (HP3.out.off O4).drop HLE.out
  obtain ⟨hsl7, -⟩ := (HP3.out.off O4).take HZ.out HLE.out
  have HRT : Hid (∀ W, RowP W t c ps → RowP W t c (ps.take i)) := fun W h => (h.take HZ.out HLE.out).2
  have HLD : Hid ((ps.drop i).length ≤ 32) := by have : ps.length = n * 4 := HLN.out; show _ ≤ _; rw [List.length_drop]; omega
  have HLT : Hid ((ps.take i).length ≤ 32) := by have : ps.length = n * 4 := HLN.out; show _ ≤ _; rw [List.length_take]; omega
  have HAL : Hid _ := addN_len (ps.drop i) []
  generalize ps.drop i = ld at hsl rp5 HLD HCUT HAL
  generalize ps.take i = lt at hsl7 HRT HLT HCUT
  have HSL7 : Hid _ := hsl7
  clear hsl7
  have hrc4 := Rc.off HRC3.out O4 (fun h => h)
  have HR4 : Hid _ := HR3.out.off O4 (fun _ _ h => h)
  have HS4 : Hid (w3.heap.size ≤ w4.heap.size) := O4.size
  have HRC4 : Hid (Rc b (n : Int) 1 0 (.slice t ps.length c) 1 w4) := hrc4
  have HP4 : Hid _ := HP3.out.off O4
  have hqb : ∀ k, D' k → k < w3.heap.size := HR3.out.old
  generalize hq : w3.heap.size = q at OW4 hqb ⊢
  have HQ : Hid (w3.heap.size = q) := hq
  have HQB : Hid _ := hqb
  have HO4 : Hid _ := HO3.out.trans O4 (fun _ _ h => h.elim)
  have HAN : Hid _ := addnew_any (some ⟨q, 0, none⟩) n [] t5 c5 ld w4 OW4 rp5 (fun k hk e => by
    simp only [blk, Option.map_some, Option.some.injEq] at hk
    have h1 := HQB.out k (HK.out k (hb5 k e)).1
    omega) (by have : ld.length ≤ 32 := HLD.out; simp; omega)
  have c4 := Rc.c4 hrc4
  generalize addN [] ld = o5 at HAN HCUT HAL
  clear hown hgrow OW4 O4 rp5 hb5 hrc4 hq hqb c0
  go_wp2_with fail
  refine Calls.mono HAN.out ?_
  rintro e w5 ⟨t6, c6, rfl, own6, at6, o6⟩
  have hne : ∀ k, D' k → ¬ blk (some ⟨q, 0, none⟩) = some k := fun k hk e => by
    simp only [blk, Option.map_some, Option.some.injEq] at e
    have := HQB.out k hk
    omega
  have HR5 : Hid _ := HR4.out.off o6 hne
  have hrc5 := Rc.off HRC4.out o6 (hne b HR4.out.inb)
  have HP5 := HP4.out.offD o6 (fun k _ e => hne k (HK.out k e).1)
  have rp7 := HRT.out _ HP5
  have hsl7 := HSL7.out
  have h64 : w4.heap.size ≤ w5.heap.size := o6.size
  have HS5 : Hid (w4.heap.size ≤ w5.heap.size) := h64
  have h34 : w3.heap.size ≤ w4.heap.size := HS4.out
  have HN6 : Hid (∀ k, blk t6 = some k → q ≤ k) := fun k hk => by
    have := HQ.out
    rcases at6 k hk with e | e
    · simp only [blk, Option.map_some, Option.some.injEq] at e
      omega
    · omega
  have HAN2 : Hid _ := addnew_any t6 c6 o5 t c lt w5 own6 rp7 (fun k hk e => by
    have h1 := HQB.out k (HK.out k e).1
    have h2 := HN6.out k hk
    omega) (by have h1 : ld.length ≤ 32 := HLD.out; have h2 : lt.length ≤ 32 := HLT.out; have h3 : o5.length ≤ 0 + ld.length := HAL.out; omega)
  rw [HCUT.out] at HAN2
  generalize hoo : ordP M ps = oo at HAN2
  have HOO : Hid (ordP M ps = oo) := hoo
  clear hoo
  have HO6 : Hid _ := HO4.out.trans o6 (fun k hk e => by
    simp only [blk, Option.map_some, Option.some.injEq] at e
    have h1 := HQ.out
    have h2 := HO3.out.size
    omega)
  have x4 := Rc.c4 hrc5
  clear own6 at6 o6 hrc5 rp7 hsl c4 HAN h64 h34 hne HP5
  go_wp2_with fail
  refine Calls.mono HAN2.out ?_
  rintro e w7 ⟨t8, c8, rfl, own8, at8, o8⟩
  have HOW8 : Hid _ := own8
  have HAT8 : Hid _ := at8
  have HO8 : Hid _ := o8
  clear own8 at8 o8 x4 hsl7 HAN2
  go_wp2_with fail
  go_ret
  rw [HPS.out, HOO.out]
  have hq := HQ.out
  have h3 := HO3.out.size
  refine ⟨t8, c8, rfl, D', HR5.out.off HO8.out (fun k hk e => ?_), HOW8.out, fun k hk => ?_, HD1.out, HO6.out.trans HO8.out (fun k hk e => ?_)⟩
  · have h1 := HN6.out k e
    have h2 := HQB.out k hk
    omega
  · have h5 : w3.heap.size ≤ w5.heap.size := Nat.le_trans HS4.out HS5.out
    have h6 : q ≤ k := by
      rcases HAT8.out k hk with e | e
      · exact HN6.out k e
      · omega
    exact ⟨by omega, fun e => by have := HQB.out k e; omega⟩
  · have := HN6.out k e
    omega
end Go.Proofs.Ytpiknkgnmjcjjaa
