/- Several texts in one. -/
import Derived.Test.YtbagahlphnafdaaLiv
import Derived.Test.YtbagahlphnafdaaGMay
import Derived.Deep.Cut
import Derived.Test.YtbagahlphnafdaaRea
import Derived.Test.YtbagahlphnafdaaLeq5
import Derived.Test.YtbagahlphnafdaaGJoin
import Derived.Test.YtbagahlphnafdaaGSame
/- The reference's Live. -/
namespace Go.Proofs.Ytbagahlphnafdaa
open Go.RowKit

set_option maxRecDepth 100000 in
set_option maxHeartbeats 2000000 in
theorem glive_any (f : Nat → Int) (a : Option Addr) (cap : Nat) (l : List V) (w : World) (hr : Row w a cap l) :
    Calls Try.prog 74 #[.agg #[.int .i64 (f 0), .int .i64 (f 1), .int .i64 (f 2), .int .i64 (f 3), .int .i64 (f 4), .int .i64 (f 5), .int .i64 (f 6), .int .i64 (f 7), .slice a l.length cap]] w fun e w' => ∃ (t : Option Addr) (c : Nat) (bl : List B), e = .returned (.slice t bl.length c) ∧ OwnG 51 1 bcs w' t c bl ∧ (∀ b ∈ bl, Src w' b.ad b.cap b.data ∧ ∀ x ∈ b.data, x < 256) ∧ bl.map B.data = (if mayS f (cont l) = true then liveA (cont l) else []) ∧ Off (fun _ => False) w w' := by
  have hnot := not_any
  have B0 := Cel.new w 35 #[.int .i64 (f 0), .int .i64 (f 1), .int .i64 (f 2), .int .i64 (f 3), .int .i64 (f 4), .int .i64 (f 5), .int .i64 (f 6), .int .i64 (f 7), .slice a l.length cap]
  have O0 : Off (fun _ => False) w (w.alloc (.cells #[.int .i64 (f 0), .int .i64 (f 1), .int .i64 (f 2), .int .i64 (f 3), .int .i64 (f 4), .int .i64 (f 5), .int .i64 (f 6), .int .i64 (f 7), .slice a l.length cap] 35)) := (Off.refl _ w).alloc _
  have R0 := hr.off O0
  have HW : Hid (∃ W, w.alloc (.cells #[.int .i64 (f 0), .int .i64 (f 1), .int .i64 (f 2), .int .i64 (f 3), .int .i64 (f 4), .int .i64 (f 5), .int .i64 (f 6), .int .i64 (f 7), .slice a l.length cap] 35) = W) := ⟨_, rfl⟩
  obtain ⟨W, hW⟩ := HW.out
  rw [hW] at B0 O0 R0
  obtain ⟨x0, x1, x2, x3, x4, x5, x6, x7, x8⟩ := cel9 B0
  have HB0 : Hid _ := B0
  have HO0 : Hid _ := O0
  have HR0 : Hid _ := R0
  have HWW : Hid _ := hW
  have HRW : Hid _ := hr
  clear B0 O0 R0 hr HW hW
  cases hm : mayS f (cont l)
  · go_enter Try.func74, Try.ntmps74
    go_wp2_with fail
    rw [HWW.out]
    refine (gmay_any f a cap l W HR0.out).mono ?_
    rw [hm]
    rintro e w1 ⟨rfl, o1⟩
    go_wp2_with fail
    go_ret
    exact ⟨none, 0, [], rfl, OwnG.nil _ _ _ _, by simp, by simp, HO0.out.trans o1 (fun _ _ h => h)⟩
  have hl : l.length ≤ 16 := by have := (may_iff.1 hm).few; rwa [cont_len] at this
  go_enter Try.func74, Try.ntmps74
  go_wp2_with fail
  rw [HWW.out]
  refine (gmay_any f a cap l W HR0.out).mono ?_
  rw [hm]
  rintro e w1 ⟨rfl, o1⟩
  have B1 := HB0.out.off o1 (fun h => h)
  have O1 := HO0.out.trans o1 (fun _ _ h => h)
  have c8 : w1.cell? ⟨w.heap.size, 8, none⟩ = some (.slice a l.length cap) := B1.cell 8
  have HO1 : Hid _ := O1
  clear B1 O1 o1 x0 x1 x2 x3 x4 x5 x6 x7 x8 HB0 HO0 HR0 HWW
  go_wp2_with fail
  go_loopw [3, 12] (fun x y wr => ∃ (n : Nat) (t : Option Addr) (c : Nat) (bl : List B), y = .int .i64 (n : Int) ∧ x = .slice t bl.length c ∧ n ≤ l.length ∧ bl.length ≤ n ∧ OwnG 51 1 bcs wr t c bl ∧ (∀ k, blk t = some k → w.heap.size ≤ k) ∧ (∀ b ∈ bl, OwnR wr b.ad b.cap b.data ∧ (∀ k, blk b.ad = some k → w.heap.size ≤ k ∧ blk t ≠ some k) ∧ ∀ x ∈ b.data, x < 256) ∧ bl.map B.data = liveA (cont (l.take n)) ∧ Off (fun _ => False) w wr) (fun _ y _ => (l.length - intOf y).toNat)
  case atStart => exact ⟨0, none, 0, [], rfl, rfl, by omega, by simp, OwnG.nil _ _ _ _, fun k hk => by simp [blk] at hk, by simp, by simp [liveA, cont], HO1.out⟩
  case round =>
    clear HO1 c8
    obtain ⟨n, t, c, bl, rfl, rfl, hn, hbn, own, hlo, hbl, hdat, O⟩ := hrel
    have hr1 := HRW.out.off O
    have HOWN : Hid _ := own
    have HLO : Hid _ := hlo
    have HBL : Hid _ := hbl
    have HDA : Hid _ := hdat
    clear own hlo hbl hdat
    by_cases hlt : n < l.length
    · have e1 : decide ((n : Int) < (l.length : Int)) = true := decide_eq_true (by omega)
      have e2 : decide (n < l.length) = true := decide_eq_true hlt
      obtain ⟨v, hv⟩ : ∃ v, l[n]? = some v := ⟨_, List.getElem?_eq_getElem hlt⟩
      obtain ⟨b, off, rfl, k, hvo⟩ := hr1.at_ n v hv
      obtain ⟨k0, k1, k2, k3⟩ := k
      have hst := live_step hv
      have C1 := Cel.new wr 59 #[.int .i64 v.node, .int .i64 v.num, .slice v.ad v.data.length v.cap, .bool v.dead]
      have O1 : Off (fun _ => False) wr (wr.alloc (.cells #[.int .i64 v.node, .int .i64 v.num, .slice v.ad v.data.length v.cap, .bool v.dead] 59)) := (Off.refl _ wr).alloc _
      have HST : Hid _ := hst
      have HVO : Hid _ := hvo
      have HO : Hid _ := O
      clear hst hvo hr1 O hv
      go_upto_region 7 with fail
      generalize hz : wr.heap.size = Z at C1 ⊢
      generalize hw1 : wr.alloc (.cells #[.int .i64 v.node, .int .i64 v.num, .slice v.ad v.data.length v.cap, .bool v.dead] 59) = W1 at C1 O1 ⊢
      have HO2 : Hid _ := O1
      have C2 := C1
      have O2 := O1
      have o2 := O1
      clear hw1 k0 k1 k2 k3 C1 O1 hz
      cases hd : v.dead
      · obtain ⟨x0, x1, x2, x3⟩ := cel4 C2
        rw [hd] at x3
        clear C2
        have HSD : Hid _ := HVO.out.src.off O2 (fun _ _ _ h => h)
        have hvl := HVO.out.len
        have HHD : Hid _ := hd
        clear hd O2 o2
        have hbn1 : bl.length ≤ 1000000 := by omega
        go_wp2_with (first
          | (at_builtin; refine wpList_app rfl (.const (.slice none 0 0)) (.tmp 21) rfl none 0 [] rfl (OwnR.nil _) v.ad v.cap v.data rfl HSD.out (by simp; omega) ?_; intro td cd w3 yd hyd ownd offd atd; have HYD : Hid (yd = v.data) := (by show _ = _; rw [hyd.out]; simp); have o3 : Off (fun _ => False) W1 w3 := offd.mono (fun _ _ h => (by simp [blk] at h)); have HND : Hid (∀ k, blk td = some k → W1.heap.size ≤ k) := (fun k hk => by rcases atd with e | e <;> (rw [e] at hk; simp [blk] at hk; try omega)); have HOD : Hid _ := ownd; have HO3 : Hid _ := HO2.out.trans o3 (fun _ _ h => h); have HOA : Hid (Off (fun _ => False) w3 (w3.alloc (.cells #[.slice td yd.length cd] 51))) := (Off.refl _ w3).alloc _; have HO4 : Hid _ := HO3.out.trans HOA.out (fun _ _ h => h); have own4 := HOWN.out.off HO4.out (fun _ _ _ h => h); have cn := Cel.new w3 51 #[.slice td yd.length cd]; have hcn : ∀ j u, (bcs ⟨td, cd, yd⟩)[j]? = some u → (w3.alloc (.cells #[.slice td yd.length cd] 51)).cell? ⟨w3.heap.size, j, none⟩ = some u := (fun j u hj => by rw [cn.cell j]; simpa [bcs] using hj); clear cn ownd offd atd hyd o3)
          | (at_builtin; refine wpList_appG rfl (.tmp 19) (.tmp 23) Try.underlying92 Try.infoBs rfl (by decide) (by decide) bcs_len bcs_one rfl t c bl rfl own4 w3.heap.size 1 ⟨td, cd, yd⟩ rfl hcn hbn1 ?_; intro t' c' w' ys hys own' off' at'))
        have HYS : Hid _ := hys.out
        have hyl : ys.length = bl.length + 1 := by rw [hys.out]; simp
        have HYL : Hid _ := hyl
        clear hys hyl
        have HOW' : Hid _ := own'
        have HOF' : Hid _ := off'
        clear own' off' own4 hcn
        go_wp2_with fail
        go_roundw
        case rel =>
          have hyl := HYL.out
          have s3 := HO3.out.size
          have s4 := HO4.out.size
          simp only [World.size_alloc] at s4 at'
          have so := HO.out.size
          have tf : ∀ k, blk t' = some k → w.heap.size ≤ k := fun k hk => by
            rcases at' with h9 | h9
            · exact HLO.out k (h9 ▸ hk)
            · rw [h9] at hk; simp at hk; omega
          have old : ∀ b ∈ bl, ∀ k, blk b.ad = some k → blk t' ≠ some k := fun b hb k hk e => by
            rcases at' with h9 | h9
            · exact ((HBL.out b hb).2.1 k hk).2 (h9 ▸ e)
            · rw [h9] at e
              simp at e
              have := (HBL.out b hb).1.lt k hk
              omega
          have hnd : ∀ k, blk td = some k → wr.heap.size ≤ k ∧ k < w3.heap.size := fun k hk => ⟨Nat.le_trans HO2.out.size (HND.out k hk), HOD.out.lt k hk⟩
          have hnt : ∀ k, blk td = some k → blk t ≠ some k := fun k hk e => by
            have h1 := (hnd k hk).1
            have h2 := HOWN.out.lt k e
            omega
          refine ⟨n + 1, t', c', ys, by go_num, rfl, by omega, by omega, HOW'.out, tf, fun b hb => ?_, ?_, (HO.out.trans HO4.out (fun _ _ h => h)).trans HOF'.out (fun i hi e => by have := HLO.out i e; omega)⟩
          · rw [HYS.out, List.mem_append, List.mem_singleton] at hb
            rcases hb with hb | rfl
            · exact ⟨((HBL.out b hb).1.off HO4.out (fun _ _ _ h => h)).off HOF'.out (fun c _ hc e => ((HBL.out b hb).2.1 c hc).2 e), fun k hk => ⟨((HBL.out b hb).2.1 k hk).1, old b hb k hk⟩, (HBL.out b hb).2.2⟩
            · refine ⟨(HOD.out.off HOA.out (fun _ _ _ h => h)).off HOF'.out (fun c _ hc e => hnt c hc e), fun k hk => ⟨?_, fun e => ?_⟩, by show ∀ x ∈ yd, x < 256; rw [HYD.out]; exact HVO.out.lt⟩
              · have := (hnd k hk).1
                omega
              · rcases at' with h9 | h9
                · exact hnt k hk (h9 ▸ e)
                · rw [h9] at e
                  simp at e
                  have := (hnd k hk).2
                  omega
          · rw [HYS.out, List.map_append, HDA.out, HST.out, HHD.out]
            simp [HYD.out]
        case measure => simp [intOf]; omega
      · obtain ⟨x0, x1, x2, x3⟩ := cel4 C2
        rw [hd] at x3
        clear C2 O2 o2
        go_wp2_with fail
        go_roundw
        case rel => exact ⟨n + 1, t, c, bl, by go_num, rfl, by omega, by omega, HOWN.out.off HO2.out (fun _ _ _ h => h), HLO.out, fun x hx => ⟨(HBL.out x hx).1.off HO2.out (fun _ _ _ h => h), (HBL.out x hx).2⟩, by rw [HDA.out, HST.out, hd]; simp, HO.out.trans HO2.out (fun _ _ h => h)⟩
        case measure => simp [intOf]; omega
    · obtain rfl : n = l.length := by omega
      have e1 : decide ((l.length : Int) < (l.length : Int)) = false := decide_eq_false (by omega)
      have e2 : decide (l.length < l.length) = false := decide_eq_false (by omega)
      go_wp2_with fail
      go_ret
      refine ⟨t, c, bl, rfl, HOWN.out, fun x hx => ⟨(HBL.out x hx).1.src, (HBL.out x hx).2.2⟩, ?_, O⟩
      rw [HDA.out, List.take_length]
end Go.Proofs.Ytbagahlphnafdaa

/- The reference's Reap and Leq. -/
namespace Go.Proofs.Ytbagahlphnafdaa
open Go.RowKit

theorem live_none {l : List V} (h : anyV l = false) : liveA (cont l) = [] := by
  simp only [liveA, List.map_eq_nil_iff, List.filter_eq_nil_iff]
  intro x hx
  simp only [cont, List.mem_map] at hx
  obtain ⟨v, hv, rfl⟩ := hx
  simp only [anyV, List.any_eq_false] at h
  exact h v hv
theorem live_some {l : List V} (h : anyV l = true) : liveA (cont l) ≠ [] := by
  simp only [anyV, List.any_eq_true] at h
  obtain ⟨v, hv, hd⟩ := h
  intro e
  simp only [liveA, List.map_eq_nil_iff, List.filter_eq_nil_iff] at e
  exact e v.abs (by simp only [cont, List.mem_map]; exact ⟨v, hv, rfl⟩) hd
set_option maxRecDepth 100000 in
set_option maxHeartbeats 1000000 in
theorem greapN_any (f : Nat → Int) (a : Option Addr) (ca : Nat) (l : List V) (w : World) (hr : Row w a ca l) :
    Calls Try.prog 57 #[.agg #[.int .i64 (f 0), .int .i64 (f 1), .int .i64 (f 2), .int .i64 (f 3), .int .i64 (f 4), .int .i64 (f 5), .int .i64 (f 6), .int .i64 (f 7), .slice a l.length ca]] w fun e w' => ∃ (h : Nat → Int) (t : Option Addr) (c : Nat) (k : List V), e = .returned (.agg #[.int .i64 (h 0), .int .i64 (h 1), .int .i64 (h 2), .int .i64 (h 3), .int .i64 (h 4), .int .i64 (h 5), .int .i64 (h 6), .int .i64 (h 7), .slice t k.length c]) ∧ h = reapV f (cont l) ∧ cont k = reapL f (cont l) ∧ Row w' t c k ∧ Off (fun _ => False) w w' ∧ ((t = a ∧ c = ca ∧ k = l) ∨ k = []) := by
  have hnot := not_any
  obtain ⟨W, hW⟩ : ∃ W, W = ((w.alloc (.cells #[.int .i64 (f 0), .int .i64 (f 1), .int .i64 (f 2), .int .i64 (f 3), .int .i64 (f 4), .int .i64 (f 5), .int .i64 (f 6), .int .i64 (f 7), .slice a l.length ca] 35)).alloc (.cells #[.int .i64 (zer 0), .int .i64 (zer 1), .int .i64 (zer 2), .int .i64 (zer 3), .int .i64 (zer 4), .int .i64 (zer 5), .int .i64 (zer 6), .int .i64 (zer 7), .slice none 0 0] 35)) := ⟨_, rfl⟩
  have O : Off (fun _ => False) w W := by rw [hW]; exact ((Off.refl _ w).alloc _).alloc _
  have C0 : Cel w.heap.size 35 #[.int .i64 (f 0), .int .i64 (f 1), .int .i64 (f 2), .int .i64 (f 3), .int .i64 (f 4), .int .i64 (f 5), .int .i64 (f 6), .int .i64 (f 7), .slice a l.length ca] W := by rw [hW]; exact (Cel.new w _ _).alloc _
  have C1 : Cel (w.heap.size + 1) 35 #[.int .i64 (zer 0), .int .i64 (zer 1), .int .i64 (zer 2), .int .i64 (zer 3), .int .i64 (zer 4), .int .i64 (zer 5), .int .i64 (zer 6), .int .i64 (zer 7), .slice none 0 0] W := by rw [hW]; exact Cel.new1 w _ _ _
  have HW : Hid (((w.alloc (.cells #[.int .i64 (f 0), .int .i64 (f 1), .int .i64 (f 2), .int .i64 (f 3), .int .i64 (f 4), .int .i64 (f 5), .int .i64 (f 6), .int .i64 (f 7), .slice a l.length ca] 35)).alloc (.cells #[.int .i64 0, .int .i64 0, .int .i64 0, .int .i64 0, .int .i64 0, .int .i64 0, .int .i64 0, .int .i64 0, .slice none 0 0] 35)) = W) := hW.symm
  have H0 : Hid _ := C0
  have H1 : Hid _ := C1
  have HO : Hid _ := O
  have HR : Hid _ := hr.off O
  have HRW : Hid _ := hr
  clear hW C0 C1 O hr
  cases hm : mayS f (cont l)
  · have hj : zer = reapV f (cont l) ∧ cont [] = reapL f (cont l) := by
      have ec : cont ([] : List V) = [] := rfl
      simp [reapV, reapL, hm, ec]
    have HJ : Hid _ := hj
    clear hj
    go_enter Try.func57, Try.ntmps57
    go_upto_region 1 with fail
    rw [HW.out]
    generalize hq1 : w.heap.size + 1 = q1 at H1 ⊢
    generalize hq0 : w.heap.size = q0 at H0 ⊢
    have HQ : Hid (w.heap.size ≤ q1 ∧ q0 ≠ q1) := by show w.heap.size ≤ q1 ∧ q0 ≠ q1; omega
    clear hq0 hq1
    obtain ⟨x0, x1, x2, x3, x4, x5, x6, x7, x8⟩ := cel9 H0.out
    go_wp2_with fail
    clear x0 x1 x2 x3 x4 x5 x6 x7 x8
    refine (gmay_any f a ca l W HR.out).mono ?_
    rw [hm]
    rintro e w1 ⟨rfl, o1⟩
    have D1 := H1.out.off o1 (fun h => h)
    obtain ⟨x0, x1, x2, x3, x4, x5, x6, x7, x8⟩ := cel9 D1
    have fz := D1.free
    go_wp2_with fail
    have E1 := D1.clr9
    have OE := (HO.out.trans o1 (fun _ _ h => h)).clr9 (b := q1) (.inr HQ.out.1)
    refine bodyPost_ret (results_none9 rfl rfl E1) rfl ?_
    exact ⟨zer, none, 0, [], rfl, HJ.out.1, HJ.out.2, Row.nil _ _ _ (by omega), OE, .inr rfl⟩
  have hn : l.length ≤ 16 := by have := (may_iff.1 hm).few; rwa [cont_len] at this
  by_cases hpos : 0 < l.length
  · have t1 : decide ((0 : Int) < (l.length : Int)) = true := decide_eq_true (by omega)
    have t2 : decide (0 < l.length) = true := decide_eq_true hpos
    have t3 : decide (l = []) = false := decide_eq_false (fun e => by rw [e] at hpos; simp at hpos)
    cases hany : anyV l
    · have hj : f = reapV f (cont l) ∧ cont [] = reapL f (cont l) := by
        have ec : cont ([] : List V) = [] := rfl
        have ea : anyA (cont l) = false := by rw [any_cont]; exact hany
        simp [reapV, reapL, hm, ea, ec]
      have HJ : Hid _ := hj
      clear hj
      go_enter Try.func57, Try.ntmps57
      go_upto_region 1 with fail
      rw [HW.out]
      generalize hq1 : w.heap.size + 1 = q1 at H1 ⊢
      generalize hq0 : w.heap.size = q0 at H0 ⊢
      have HQ : Hid (w.heap.size ≤ q1 ∧ q0 ≠ q1) := by show w.heap.size ≤ q1 ∧ q0 ≠ q1; omega
      clear hq0 hq1
      obtain ⟨x0, x1, x2, x3, x4, x5, x6, x7, x8⟩ := cel9 H0.out
      go_wp2_with fail
      clear x0 x1 x2 x3 x4 x5 x6 x7 x8
      refine (gmay_any f a ca l W HR.out).mono ?_
      rw [hm]
      rintro e w1 ⟨rfl, o1⟩
      obtain ⟨x0, x1, x2, x3, x4, x5, x6, x7, x8⟩ := cel9 (H0.out.off o1 (fun h => h))
      go_wp2_with fail
      clear x0 x1 x2 x3 x4 x5 x6 x7 x8
      refine (glive_any f a ca l _ (HR.out.off o1)).mono ?_
      rintro e w2 ⟨t2, c2, bl, rfl, -, -, hbl, o2⟩
      rw [hm] at hbl
      simp only [if_true] at hbl
      have HBL : Hid _ := hbl
      have O2 := o1.trans o2 (fun _ _ h => h)
      clear hbl o1 o2
      have hb0 : ((bl.length : Int) == 0) = true := by
        have e : liveA (cont l) = [] := live_none hany
        have e2 : bl.length = 0 := by have := congrArg List.length HBL.out; rw [e] at this; simpa using this
        rw [e2]
        rfl
      have D1 := H1.out.off O2 (fun h => h)
      obtain ⟨x0, x1, x2, x3, x4, x5, x6, x7, x8⟩ := cel9 (H0.out.off O2 (fun h => h))
      obtain ⟨y0, y1, y2, y3, y4, y5, y6, y7, y8⟩ := cel9 D1
      have fz := D1.free
      go_wp2_with fail
      have E1 := D1.st9 f (.slice none 0 0)
      have OE := (HO.out.trans O2 (fun _ _ h => h)).st9 (b := q1) (.inr HQ.out.1) f (.slice none 0 0)
      refine bodyPost_ret (results_sibs rfl rfl E1) rfl ?_
      exact ⟨f, none, 0, [], rfl, HJ.out.1, HJ.out.2, Row.nil _ _ _ (by omega), OE, .inr rfl⟩
    · have hj : f = reapV f (cont l) ∧ cont l = reapL f (cont l) := by
        have ea : anyA (cont l) = true := by rw [any_cont]; exact hany
        simp [reapV, reapL, hm, ea]
      have HJ : Hid _ := hj
      clear hj
      go_enter Try.func57, Try.ntmps57
      go_upto_region 1 with fail
      rw [HW.out]
      generalize hq1 : w.heap.size + 1 = q1 at H1 ⊢
      generalize hq0 : w.heap.size = q0 at H0 ⊢
      have HQ : Hid (w.heap.size ≤ q1 ∧ q0 ≠ q1) := by show w.heap.size ≤ q1 ∧ q0 ≠ q1; omega
      clear hq0 hq1
      obtain ⟨x0, x1, x2, x3, x4, x5, x6, x7, x8⟩ := cel9 H0.out
      go_wp2_with fail
      clear x0 x1 x2 x3 x4 x5 x6 x7 x8
      refine (gmay_any f a ca l W HR.out).mono ?_
      rw [hm]
      rintro e w1 ⟨rfl, o1⟩
      obtain ⟨x0, x1, x2, x3, x4, x5, x6, x7, x8⟩ := cel9 (H0.out.off o1 (fun h => h))
      go_wp2_with fail
      clear x0 x1 x2 x3 x4 x5 x6 x7 x8
      refine (glive_any f a ca l _ (HR.out.off o1)).mono ?_
      rintro e w2 ⟨t2, c2, bl, rfl, -, -, hbl, o2⟩
      rw [hm] at hbl
      simp only [if_true] at hbl
      have HBL : Hid _ := hbl
      have O2 := o1.trans o2 (fun _ _ h => h)
      clear hbl o1 o2
      have hb0 : ((bl.length : Int) == 0) = false := by
        have e : liveA (cont l) ≠ [] := live_some hany
        have e2 : bl.length ≠ 0 := fun h => by
          have h3 := congrArg List.length HBL.out
          simp [h] at h3
          exact e (List.eq_nil_of_length_eq_zero h3.symm)
        simpa using e2
      have hb1 : decide (bl = []) = false := decide_eq_false (fun h => by rw [h] at hb0; simp at hb0)
      have D1 := H1.out.off O2 (fun h => h)
      obtain ⟨x0, x1, x2, x3, x4, x5, x6, x7, x8⟩ := cel9 (H0.out.off O2 (fun h => h))
      obtain ⟨y0, y1, y2, y3, y4, y5, y6, y7, y8⟩ := cel9 D1
      have fz := D1.free
      go_wp2_with fail
      have E1 := D1.st9 f (.slice a l.length ca)
      have OE := (HO.out.trans O2 (fun _ _ h => h)).st9 (b := q1) (.inr HQ.out.1) f (.slice a l.length ca)
      refine bodyPost_ret (results_sibs rfl rfl E1) rfl ?_
      exact ⟨f, a, ca, l, rfl, HJ.out.1, HJ.out.2, HRW.out.offD (((HO.out.trans O2 (fun _ _ h => h)).mono (E := fun c => w.heap.size ≤ c) (fun _ _ h => h.elim)).st9 (.inl HQ.out.1) f _) (fun c hc _ h => by omega) (fun v _ c hc _ h => by omega), OE, .inl ⟨rfl, rfl, rfl⟩⟩
  · have t1 : decide ((0 : Int) < (l.length : Int)) = false := decide_eq_false (by omega)
    have t2 : decide (0 < l.length) = false := decide_eq_false hpos
    have t3 : decide (l = []) = true := decide_eq_true (List.eq_nil_of_length_eq_zero (by omega))
    have hj : f = reapV f (cont l) ∧ cont l = reapL f (cont l) := by
      have e : l = [] := List.eq_nil_of_length_eq_zero (by omega)
      have ec : cont l = [] := by rw [e]; rfl
      refine ⟨by simp [reapV, hm], ?_⟩
      rw [ec]
      simp [reapL]
    have HJ : Hid _ := hj
    clear hj
    go_enter Try.func57, Try.ntmps57
    go_upto_region 1 with fail
    rw [HW.out]
    generalize hq1 : w.heap.size + 1 = q1 at H1 ⊢
    generalize hq0 : w.heap.size = q0 at H0 ⊢
    have HQ : Hid (w.heap.size ≤ q1 ∧ q0 ≠ q1) := by show w.heap.size ≤ q1 ∧ q0 ≠ q1; omega
    clear hq0 hq1
    obtain ⟨x0, x1, x2, x3, x4, x5, x6, x7, x8⟩ := cel9 H0.out
    go_wp2_with fail
    clear x0 x1 x2 x3 x4 x5 x6 x7 x8
    refine (gmay_any f a ca l W HR.out).mono ?_
    rw [hm]
    rintro e w1 ⟨rfl, o1⟩
    have D1 := H1.out.off o1 (fun h => h)
    obtain ⟨x0, x1, x2, x3, x4, x5, x6, x7, x8⟩ := cel9 (H0.out.off o1 (fun h => h))
    obtain ⟨y0, y1, y2, y3, y4, y5, y6, y7, y8⟩ := cel9 D1
    have fz := D1.free
    go_wp2_with fail
    have E1 := D1.st9 f (.slice a l.length ca)
    have OE := (HO.out.trans o1 (fun _ _ h => h)).st9 (b := q1) (.inr HQ.out.1) f (.slice a l.length ca)
    refine bodyPost_ret (results_sibs rfl rfl E1) rfl ?_
    exact ⟨f, a, ca, l, rfl, HJ.out.1, HJ.out.2, HRW.out.offD (((HO.out.trans o1 (fun _ _ h => h)).mono (E := fun c => w.heap.size ≤ c) (fun _ _ h => h.elim)).st9 (.inl HQ.out.1) f _) (fun c hc _ h => by omega) (fun v _ c hc _ h => by omega), OE, .inl ⟨rfl, rfl, rfl⟩⟩

theorem greap_any (f : Nat → Int) (a : Option Addr) (ca : Nat) (l : List V) (w : World) (hr : Row w a ca l) :
    Calls Try.prog 57 #[.agg #[.int .i64 (f 0), .int .i64 (f 1), .int .i64 (f 2), .int .i64 (f 3), .int .i64 (f 4), .int .i64 (f 5), .int .i64 (f 6), .int .i64 (f 7), .slice a l.length ca]] w fun e w' => ∃ (h : Nat → Int) (t : Option Addr) (c : Nat) (k : List V), e = .returned (.agg #[.int .i64 (h 0), .int .i64 (h 1), .int .i64 (h 2), .int .i64 (h 3), .int .i64 (h 4), .int .i64 (h 5), .int .i64 (h 6), .int .i64 (h 7), .slice t k.length c]) ∧ h = reapV f (cont l) ∧ cont k = reapL f (cont l) ∧ Row w' t c k ∧ Off (fun _ => False) w w' := by
  refine (greapN_any f a ca l w hr).mono ?_
  rintro e w' ⟨h, a', c', l', e1, e2, e3, e4, e5, -⟩
  exact ⟨h, a', c', l', e1, e2, e3, e4, e5⟩
end Go.Proofs.Ytbagahlphnafdaa
