/- The walk of SibsGone. -/
import Derived.Test.YtfkpnmmcdhibbabGoneP
import Derived.Test.YtfkpnmmcdhibbabArg5
import Derived.Deep.Cut
namespace Go.Proofs.Ytfkpnmmcdhibbab
open Go.RowKit

set_option maxRecDepth 100000 in
set_option maxHeartbeats 8000000 in
theorem gone_walk (f : Nat → Int) (a : Option Addr) (ca : Nat) (l : List V) (g : Nat → Int) (b : Option Addr) (cb : Nat) (k : List V) (h : Nat → Int) (node : Int) (w : World)
    (_ : ∀ j, j < 8 → -9223372036854775808 ≤ f j ∧ f j ≤ 9223372036854775807) (ra : Row w a ca l) (_ : ∀ j, j < 8 → -9223372036854775808 ≤ g j ∧ g j ≤ 9223372036854775807) (rb : Row w b cb k) (_ : ∀ j, j < 8 → -9223372036854775808 ≤ h j ∧ h j ≤ 9223372036854775807) (hno : -9223372036854775808 ≤ node ∧ node ≤ 9223372036854775807) :
    Calls Try.prog 3 #[.agg #[.int .i64 (f 0), .int .i64 (f 1), .int .i64 (f 2), .int .i64 (f 3), .int .i64 (f 4), .int .i64 (f 5), .int .i64 (f 6), .int .i64 (f 7), .slice a l.length ca], .agg #[.int .i64 (g 0), .int .i64 (g 1), .int .i64 (g 2), .int .i64 (g 3), .int .i64 (g 4), .int .i64 (g 5), .int .i64 (g 6), .int .i64 (g 7), .slice b k.length cb], .agg #[.int .i64 (h 0), .int .i64 (h 1), .int .i64 (h 2), .int .i64 (h 3), .int .i64 (h 4), .int .i64 (h 5), .int .i64 (h 6), .int .i64 (h 7)], .int .i64 node] w fun e w' => e = .returned (.bool true) ∧ Off (fun _ => False) w w' := by
  have hnot := not_any
  obtain ⟨W, hW⟩ : ∃ W, W = (((w.alloc (.cells #[.int .i64 (f 0), .int .i64 (f 1), .int .i64 (f 2), .int .i64 (f 3), .int .i64 (f 4), .int .i64 (f 5), .int .i64 (f 6), .int .i64 (f 7), .slice a l.length ca] 26)).alloc (.cells #[.int .i64 (g 0), .int .i64 (g 1), .int .i64 (g 2), .int .i64 (g 3), .int .i64 (g 4), .int .i64 (g 5), .int .i64 (g 6), .int .i64 (g 7), .slice b k.length cb] 26)).alloc (.cells #[.int .i64 (h 0), .int .i64 (h 1), .int .i64 (h 2), .int .i64 (h 3), .int .i64 (h 4), .int .i64 (h 5), .int .i64 (h 6), .int .i64 (h 7)] 23)) := ⟨_, rfl⟩
  have O : Off (fun _ => False) w W := by rw [hW]; exact (((Off.refl _ w).alloc _).alloc _).alloc _
  have C0 : Cel w.heap.size 26 #[.int .i64 (f 0), .int .i64 (f 1), .int .i64 (f 2), .int .i64 (f 3), .int .i64 (f 4), .int .i64 (f 5), .int .i64 (f 6), .int .i64 (f 7), .slice a l.length ca] W := by rw [hW]; exact ((Cel.new w _ _).alloc _).alloc _
  have C1 : Cel (w.heap.size + 1) 26 #[.int .i64 (g 0), .int .i64 (g 1), .int .i64 (g 2), .int .i64 (g 3), .int .i64 (g 4), .int .i64 (g 5), .int .i64 (g 6), .int .i64 (g 7), .slice b k.length cb] W := by rw [hW]; exact (Cel.new1 w _ _ _).alloc _
  have C2 : Cel (w.heap.size + 2) 23 #[.int .i64 (h 0), .int .i64 (h 1), .int .i64 (h 2), .int .i64 (h 3), .int .i64 (h 4), .int .i64 (h 5), .int .i64 (h 6), .int .i64 (h 7)] W := by rw [hW]; exact Cel.new2 w _ _ _ _
  have HW : Hid _ := hW.symm
  have H0 : Hid _ := C0
  have H1 : Hid _ := C1
  have H2 : Hid _ := C2
  have HO : Hid _ := O
  have HR1 : Hid _ := ra.off O
  have HR2 : Hid _ := rb.off O
  have HNO : Hid _ := hno
  clear hW C0 C1 C2 O ra rb hno
  go_enter Try.func3, Try.ntmps3
  go_upto_region 1 with fail
  rw [HW.out]
  generalize hq2 : w.heap.size + 1 + 1 = q2 at ⊢
  rw [show w.heap.size + 2 = q2 by omega] at H2
  generalize hq1 : w.heap.size + 1 = q1 at H1 ⊢
  generalize hq0 : w.heap.size = q0 at H0 ⊢
  clear hq0 hq1 hq2 HW
  obtain ⟨x0, x1, x2, x3, x4, x5, x6, x7, x8⟩ := cel9 H0.out
  obtain ⟨y0, y1, y2, y3, y4, y5, y6, y7, y8⟩ := cel9 H1.out
  have OA : Off (fun _ => False) W (W.alloc (.cells #[.int .i64 (f 0), .int .i64 (f 1), .int .i64 (f 2), .int .i64 (f 3), .int .i64 (f 4), .int .i64 (f 5), .int .i64 (f 6), .int .i64 (f 7), .slice a l.length ca, .int .i64 (g 0), .int .i64 (g 1), .int .i64 (g 2), .int .i64 (g 3), .int .i64 (g 4), .int .i64 (g 5), .int .i64 (g 6), .int .i64 (g 7), .slice b k.length cb] 26)) := (Off.refl _ W).alloc _
  have SL := sl2 (Cel.new W 26 #[.int .i64 (f 0), .int .i64 (f 1), .int .i64 (f 2), .int .i64 (f 3), .int .i64 (f 4), .int .i64 (f 5), .int .i64 (f 6), .int .i64 (f 7), .slice a l.length ca, .int .i64 (g 0), .int .i64 (g 1), .int .i64 (g 2), .int .i64 (g 3), .int .i64 (g 4), .int .i64 (g 5), .int .i64 (g 6), .int .i64 (g 7), .slice b k.length cb]) (HR1.out.off OA) (HR2.out.off OA)
  have HSL : Hid _ := SL
  have HOA : Hid _ := OA
  clear SL OA
  cases hf : fewB [⟨f, a, ca, l⟩, ⟨g, b, cb, k⟩]
  · go_wp2_with fail
    refine (few_any _ 2 _ _ HSL.out (by simp)).mono ?_
    rw [hf]
    rintro e w1 ⟨rfl, o1⟩
    clear x0 x1 x2 x3 x4 x5 x6 x7 x8 y0 y1 y2 y3 y4 y5 y6 y7 y8
    replace o1 := HOA.out.trans o1 (fun _ _ h => h)
    go_wp2_with fail
    refine (awake_any _).mono ?_
    rintro e w9 ⟨rfl, o9⟩
    go_wp2_with fail
    go_ret
    exact ⟨rfl, HO.out.trans (o1.trans o9 (fun _ _ h => h)) (fun _ _ h => h)⟩
  have hf2 := hf
  simp only [fewB, decide_eq_true_eq, List.mem_cons, List.not_mem_nil, or_false, forall_eq_or_imp, forall_eq] at hf2
  have HMA : Hid _ := hf2.1.1
  have HMB : Hid _ := hf2.1.2
  clear hf2
  go_wp2_with fail
  refine (few_any _ 2 _ _ HSL.out (by simp)).mono ?_
  rw [hf]
  rintro e w1 ⟨rfl, o1⟩
  clear x0 x1 x2 x3 x4 x5 x6 x7 x8 y0 y1 y2 y3 y4 y5 y6 y7 y8 hf
  have HO1 : Hid _ := HOA.out.trans o1 (fun _ _ h => h)
  clear o1 HSL HOA
  obtain ⟨x0, x1, x2, x3, x4, x5, x6, x7, x8⟩ := cel9 (H0.out.off HO1.out (fun h => h))
  obtain ⟨y0, y1, y2, y3, y4, y5, y6, y7, y8⟩ := cel9 (H1.out.off HO1.out (fun h => h))
  go_wp2_with fail
  clear x0 x1 x2 x3 x4 x5 x6 x7 x8 y0 y1 y2 y3 y4 y5 y6 y7 y8
  refine (sjoin_any f g a b ca cb l k _ (HR1.out.off HO1.out) (HR2.out.off HO1.out)).mono ?_
  rintro e w2 ⟨fj, aj, cj, lj, rfl, hfj, hlj, mdj, o2⟩
  have HDT : Hid (∀ v ∈ lj, InL l v ∨ InL k v) := in_join HMA.out HMB.out hlj
  have HMJ2 : Hid _ := mdj.row
  clear hfj hlj mdj
  go_upto_region 4 with fail
  have Cqj := Cel.new w2 26 #[.int .i64 (fj 0), .int .i64 (fj 1), .int .i64 (fj 2), .int .i64 (fj 3), .int .i64 (fj 4), .int .i64 (fj 5), .int .i64 (fj 6), .int .i64 (fj 7), .slice aj lj.length cj]
  have OA : Off (fun _ => False) w2 (w2.alloc (.cells #[.int .i64 (fj 0), .int .i64 (fj 1), .int .i64 (fj 2), .int .i64 (fj 3), .int .i64 (fj 4), .int .i64 (fj 5), .int .i64 (fj 6), .int .i64 (fj 7), .slice aj lj.length cj] 26)) := (Off.refl _ w2).alloc _
  generalize hq : w2.heap.size = qj at Cqj ⊢
  generalize hv : w2.alloc (.cells #[.int .i64 (fj 0), .int .i64 (fj 1), .int .i64 (fj 2), .int .i64 (fj 3), .int .i64 (fj 4), .int .i64 (fj 5), .int .i64 (fj 6), .int .i64 (fj 7), .slice aj lj.length cj] 26) = Vqj at Cqj OA ⊢
  clear hq hv
  have HRJ : Hid _ := HMJ2.out.off OA
  have HOJ : Hid _ := HO1.out.trans (o2.trans OA (fun _ _ h => h)) (fun _ _ h => h)
  obtain ⟨x0, x1, x2, x3, x4, x5, x6, x7, x8⟩ := cel9 Cqj
  clear Cqj OA o2 HMJ2
  go_wp2_with fail
  clear x0 x1 x2 x3 x4 x5 x6 x7 x8
  go_loopw [32] (fun y wr => ∃ n : Nat, y = .int .i64 (n : Int) ∧ n ≤ lj.length ∧ Off (fun _ => False) Vqj wr) (fun y _ => (lj.length - intOf y).toNat)
  case atStart => exact ⟨0, rfl, by omega, Off.refl _ _⟩
  case round =>
    obtain ⟨n, rfl, hn, oo⟩ := hrel
    have HPJ : Hid _ := oo
    clear oo
    by_cases hln : n < lj.length
    · have n1 : decide ((n : Int) < (lj.length : Int)) = true := decide_eq_true (by omega)
      have n2 : decide (n < lj.length) = true := decide_eq_true hln
      have hlb : lj.length ≤ 9223372036854775807 := by have := HRJ.out.len; have := HRJ.out.bound; omega
      obtain ⟨v, hv⟩ : ∃ v, lj[n]? = some v := ⟨_, List.getElem?_eq_getElem hln⟩
      have HVI : Hid _ := HDT.out v (List.mem_of_getElem? hv)
      obtain ⟨ba, fa, hay, h4, hok⟩ := HRJ.out.at_ n v hv
      obtain ⟨c0, c1, c2, c3⟩ := h4.off HPJ.out (fun _ h => h)
      clear hv h4 hok
      subst hay
      go_upto_region 7 with fail
      have Cqv := Cel.new wr 34 #[.int .i64 v.node, .int .i64 v.num, .slice v.ad v.data.length v.cap, .bool v.dead]
      have OA : Off (fun _ => False) wr (wr.alloc (.cells #[.int .i64 v.node, .int .i64 v.num, .slice v.ad v.data.length v.cap, .bool v.dead] 34)) := (Off.refl _ wr).alloc _
      generalize hq : wr.heap.size = qv at Cqv ⊢
      generalize hv : wr.alloc (.cells #[.int .i64 v.node, .int .i64 v.num, .slice v.ad v.data.length v.cap, .bool v.dead] 34) = Vqv at Cqv OA ⊢
      clear hq hv
      have HGV : Hid _ := Cqv
      have HPV : Hid _ := HOJ.out.trans (HPJ.out.trans OA (fun _ _ h => h)) (fun _ _ h => h)
      have HPJ2 : Hid _ := HPJ.out.trans OA (fun _ _ h => h)
      clear Cqv OA c0 c1 c2 c3 HPJ
      obtain ⟨x0, x1, x2, x3, x4, x5, x6, x7, x8⟩ := cel9 (H0.out.off HPV.out (fun h => h))
      obtain ⟨y0, y1, y2, y3, y4, y5, y6, y7, y8⟩ := cel9 (H1.out.off HPV.out (fun h => h))
      go_wp2_with fail
      clear x0 x1 x2 x3 x4 x5 x6 x7 x8 y0 y1 y2 y3 y4 y5 y6 y7 y8
      obtain ⟨wo, hwo⟩ : ∃ wo : World, wo = wr := ⟨_, rfl⟩
      clear hwo
      go_loopw [12, 39] (fun x y wr => ∃ (β : Bool) (i : Nat), x = .bool β ∧ y = .int .i64 (i : Int) ∧ i ≤ 2 ∧ (1 ≤ i → InL l v → β = true) ∧ (2 ≤ i → InL k v → β = true) ∧ Off (fun _ => False) Vqv wr) (fun _ y _ => (2 - intOf y).toNat)
      case atStart => exact ⟨false, 0, rfl, rfl, by omega, fun h => by omega, fun h => by omega, Off.refl _ _⟩
      case round =>
        obtain ⟨β, i, rfl, rfl, hi, hb1, hb2, oo⟩ := hrel
        have HB1 : Hid _ := hb1
        have HB2 : Hid _ := hb2
        have HPI : Hid _ := oo
        clear hb1 hb2 oo
        by_cases hli : i < 2
        · have i1 : decide ((i : Int) < 2) = true := decide_eq_true (by omega)
          have i2 : decide (i < 2) = true := decide_eq_true hli
          obtain ⟨fs, ads, cs, ls, hix, hrs, hl0, hl1⟩ : ∃ (fs : Nat → Int) (ads : Option Addr) (cs : Nat) (ls : List V), (∀ W', (Instr.index 35 (.agg #[.int .i64 (f 0), .int .i64 (f 1), .int .i64 (f 2), .int .i64 (f 3), .int .i64 (f 4), .int .i64 (f 5), .int .i64 (f 6), .int .i64 (f 7), .slice a l.length ca, .int .i64 (g 0), .int .i64 (g 1), .int .i64 (g 2), .int .i64 (g 3), .int .i64 (g 4), .int .i64 (g 5), .int .i64 (g 6), .int .i64 (g 7), .slice b k.length cb]) (.int .i64 (i : Int))).run Try.prog W' = .ok (.agg #[.int .i64 (fs 0), .int .i64 (fs 1), .int .i64 (fs 2), .int .i64 (fs 3), .int .i64 (fs 4), .int .i64 (fs 5), .int .i64 (fs 6), .int .i64 (fs 7), .slice ads ls.length cs]) W') ∧ Row W ads cs ls ∧ (i = 0 → ls = l) ∧ (i = 1 → ls = k) := by
            obtain rfl | rfl : i = 0 ∨ i = 1 := by omega
            · exact ⟨f, a, ca, l, fun W' => by kernel_rfl, HR1.out, fun _ => rfl, fun h => by omega⟩
            · exact ⟨g, b, cb, k, fun W' => by kernel_rfl, HR2.out, fun h => by omega, fun _ => rfl⟩
          have HRS : Hid _ := hrs.off (HPV.out.trans HPI.out (fun _ _ h => h))
          have HL0 : Hid _ := hl0
          have HL1 : Hid _ := hl1
          clear hrs hl0 hl1
          go_upto_region 11 with fail
          have Cqs := Cel.new wr 26 #[.int .i64 (fs 0), .int .i64 (fs 1), .int .i64 (fs 2), .int .i64 (fs 3), .int .i64 (fs 4), .int .i64 (fs 5), .int .i64 (fs 6), .int .i64 (fs 7), .slice ads ls.length cs]
          have OA : Off (fun _ => False) wr (wr.alloc (.cells #[.int .i64 (fs 0), .int .i64 (fs 1), .int .i64 (fs 2), .int .i64 (fs 3), .int .i64 (fs 4), .int .i64 (fs 5), .int .i64 (fs 6), .int .i64 (fs 7), .slice ads ls.length cs] 26)) := (Off.refl _ wr).alloc _
          generalize hq : wr.heap.size = qs at Cqs ⊢
          generalize hv : wr.alloc (.cells #[.int .i64 (fs 0), .int .i64 (fs 1), .int .i64 (fs 2), .int .i64 (fs 3), .int .i64 (fs 4), .int .i64 (fs 5), .int .i64 (fs 6), .int .i64 (fs 7), .slice ads ls.length cs] 26) = Vqs at Cqs OA ⊢
          clear hq hv
          have HGV2 : Hid _ := HGV.out.off (HPI.out.trans OA (fun _ _ h => h)) (fun h => h)
          have HRS2 : Hid _ := HRS.out.off OA
          have HPI2 : Hid _ := HPI.out.trans OA (fun _ _ h => h)
          obtain ⟨x0, x1, x2, x3, x4, x5, x6, x7, x8⟩ := cel9 Cqs
          clear Cqs OA HPI HRS hix
          go_wp2_with fail
          clear x0 x1 x2 x3 x4 x5 x6 x7 x8
          obtain ⟨wq, hwq⟩ : ∃ wq : World, wq = wr := ⟨_, rfl⟩
          clear hwq
          go_loopw [12, 45] (fun x y wr => ∃ (γ : Bool) (m : Nat), x = .bool γ ∧ y = .int .i64 (m : Int) ∧ m ≤ ls.length ∧ (β = true → γ = true) ∧ (∀ j x, j < m → ls[j]? = some x → x.node = v.node → x.num = v.num → γ = true) ∧ Off (fun _ => False) Vqs wr) (fun _ y _ => (ls.length - intOf y).toNat)
          case atStart => exact ⟨β, 0, rfl, rfl, by omega, fun h => h, fun j x h => by omega, Off.refl _ _⟩
          case round =>
            obtain ⟨γ, m, rfl, rfl, hm, hg1, hg2, oo⟩ := hrel
            have HG1 : Hid _ := hg1
            have HG2 : Hid _ := hg2
            have HPM : Hid _ := oo
            clear hg1 hg2 oo
            by_cases hlm : m < ls.length
            · have m1 : decide ((m : Int) < (ls.length : Int)) = true := decide_eq_true (by omega)
              have m2 : decide (m < ls.length) = true := decide_eq_true hlm
              have hlc : ls.length ≤ 9223372036854775807 := by have := HRS2.out.len; have := HRS2.out.bound; omega
              obtain ⟨x, hx⟩ : ∃ x, ls[m]? = some x := ⟨_, List.getElem?_eq_getElem hlm⟩
              obtain ⟨bs, fb, has, h4, hok⟩ := HRS2.out.at_ m x hx
              obtain ⟨c0, c1, c2, c3⟩ := h4.off HPM.out (fun _ h => h)
              have HX : Hid _ := hx
              clear hx h4 hok
              subst has
              go_upto_region 14 with fail
              have Cqw := Cel.new wr 34 #[.int .i64 x.node, .int .i64 x.num, .slice x.ad x.data.length x.cap, .bool x.dead]
              have OA : Off (fun _ => False) wr (wr.alloc (.cells #[.int .i64 x.node, .int .i64 x.num, .slice x.ad x.data.length x.cap, .bool x.dead] 34)) := (Off.refl _ wr).alloc _
              generalize hq : wr.heap.size = qw at Cqw ⊢
              generalize hv : wr.alloc (.cells #[.int .i64 x.node, .int .i64 x.num, .slice x.ad x.data.length x.cap, .bool x.dead] 34) = Vqw at Cqw OA ⊢
              clear hq hv
              have HPM2 : Hid _ := HPM.out.trans OA (fun _ _ h => h)
              obtain ⟨e0, e1, e2, e3⟩ := cel4 Cqw
              obtain ⟨d0, d1, d2, d3⟩ := cel4 (HGV2.out.off HPM2.out (fun h => h))
              have hdd := eql_dot x.node x.num v.node v.num
              clear Cqw OA HPM c0 c1 c2 c3
              cases γ
              · go_wp2_with fail
                go_roundw
                case rel => exact ⟨decide (x.node = v.node) && decide (x.num = v.num), m + 1, rfl, by go_num, by omega, fun h => by have := HG1.out h; simp at this, fun j y hj hy h1 h2 => by
                  rcases Nat.lt_or_ge j m with h | h
                  · have := HG2.out j y h hy h1 h2
                    simp at this
                  · obtain rfl : j = m := by omega
                    have hX := HX.out
                    rw [hX] at hy
                    cases hy
                    simp [h1, h2], HPM2.out⟩
                case measure => simp [intOf]; omega
              · go_wp2_with fail
                go_roundw
                case rel => exact ⟨true, m + 1, rfl, by go_num, by omega, fun _ => rfl, fun _ _ _ _ _ _ => rfl, HPM2.out⟩
                case measure => simp [intOf]; omega
            · have m1 : decide ((m : Int) < (ls.length : Int)) = false := decide_eq_false (by omega)
              have m2 : decide (m < ls.length) = false := decide_eq_false hlm
              have hall : InL ls v → γ = true := by
                rintro ⟨j, x, hx, h1, h2⟩
                obtain ⟨hj, -⟩ := List.getElem?_eq_some_iff.1 hx
                exact HG2.out j x (by omega) hx h1 h2
              have HALL : Hid _ := hall
              clear hall
              go_wp2_with fail
              go_roundw
              case rel =>
                refine ⟨γ, i + 1, rfl, by go_num, by omega, fun _ hl => ?_, fun h2 hk => ?_, HPI2.out.trans HPM.out (fun _ _ h => h)⟩
                · rcases Nat.eq_zero_or_pos i with h | h
                  · exact HALL.out (by rw [HL0.out h]; exact hl)
                  · exact HG1.out (HB1.out h hl)
                · exact HALL.out (by rw [HL1.out (by omega)]; exact hk)
              case measure => simp [intOf]; omega
        · have i1 : decide ((i : Int) < 2) = false := decide_eq_false (by omega)
          have i2 : decide (i < 2) = false := decide_eq_false hli
          obtain rfl : β = true := by
            rcases HVI.out with h | h
            · exact HB1.out (by omega) h
            · exact HB2.out (by omega) h
          go_wp2_with fail
          go_roundw
          case rel => exact ⟨n + 1, by go_num, by omega, HPJ2.out.trans HPI.out (fun _ _ h => h)⟩
          case measure => simp [intOf]; omega
    · have n1 : decide ((n : Int) < (lj.length : Int)) = false := decide_eq_false (by omega)
      have n2 : decide (n < lj.length) = false := decide_eq_false hln
      obtain ⟨W3, hW3⟩ : ∃ W3, W3 = wr := ⟨_, rfl⟩
      rw [← hW3] at HPJ ⊢
      clear hW3 wr
      have HO3 : Hid (Off (fun _ => False) W W3) := HOJ.out.trans HPJ.out (fun _ _ h => h)
      have G0 : Hid _ := H0.out.off HO3.out (fun h => h)
      have G2 : Hid _ := H2.out.off HO3.out (fun h => h)
      have HRA : Hid _ := HR1.out.off HO3.out
      clear HPJ HOJ HRJ HDT
      go_wp2_with fail
      refine wp_region_held_drew (S := fun w' => Off (fun _ => False) W3 w') (by kernel_rfl) ((Off.refl _ W3).drew) (fun hS => ?_)
      refine take_at (i := 0) 63 (v := .agg #[.int .i64 (f 0), .int .i64 (f 1), .int .i64 (f 2), .int .i64 (f 3), .int .i64 (f 4), .int .i64 (f 5), .int .i64 (f 6), .int .i64 (f 7), .slice a l.length ca]) rfl rfl (by kernel_rfl) (by kernel_rfl) (by kernel_rfl) (fun _ _ _ h => h) (Or.inl ⟨by rfl, fun w' hw' => by obtain ⟨x0, x1, x2, x3, x4, x5, x6, x7, x8⟩ := cel9 (G0.out.off hw' (fun h => h)); go_simp⟩) hS ?_
      simp only [Act.put, List.setIfInBounds_toArray, List.set_cons_zero, List.set_cons_succ]
      refine take_at (i := 1) 64 (v := .pointer (some ⟨q0, 0, none⟩)) rfl rfl (by kernel_rfl) (by kernel_rfl) (by kernel_rfl) (fun _ _ _ h => h) (Or.inl ⟨by rfl, fun w' hw' => by go_simp⟩) hS ?_
      simp only [Act.put, List.setIfInBounds_toArray, List.set_cons_zero, List.set_cons_succ]
      refine take_at (i := 2) 65 (v := .agg #[.int .i64 (f 0), .int .i64 (f 1), .int .i64 (f 2), .int .i64 (f 3), .int .i64 (f 4), .int .i64 (f 5), .int .i64 (f 6), .int .i64 (f 7)]) rfl rfl (by kernel_rfl) (by kernel_rfl) (by kernel_rfl) (fun _ _ _ h => h) (Or.inl ⟨by rfl, fun w' hw' => by obtain ⟨x0, x1, x2, x3, x4, x5, x6, x7, x8⟩ := cel9 (G0.out.off hw' (fun h => h)); go_simp⟩) hS ?_
      simp only [Act.put, List.setIfInBounds_toArray, List.set_cons_zero, List.set_cons_succ]
      refine take_at (i := 3) 66 (v := .agg #[.int .i64 (h 0), .int .i64 (h 1), .int .i64 (h 2), .int .i64 (h 3), .int .i64 (h 4), .int .i64 (h 5), .int .i64 (h 6), .int .i64 (h 7)]) rfl rfl (by kernel_rfl) (by kernel_rfl) (by kernel_rfl) (fun _ _ _ h => h) (Or.inl ⟨by rfl, fun w' hw' => by obtain ⟨z0, z1, z2, z3, z4, z5, z6, z7⟩ := cel8 (G2.out.off hw' (fun h => h)); go_simp⟩) hS ?_
      simp only [Act.put, List.setIfInBounds_toArray, List.set_cons_zero, List.set_cons_succ]
      refine take_at (i := 5) 68 (v := .int .i64 node) rfl rfl (by kernel_rfl) (by kernel_rfl) (by kernel_rfl) (fun _ _ _ h => h) (Or.inl ⟨by rfl, fun w' hw' => by go_simp⟩) hS ?_
      simp only [Act.put, List.setIfInBounds_toArray, List.set_cons_zero, List.set_cons_succ]
      refine wpAnyH_ready (rs := [4, 10]) (by kernel_rfl) (by simp) ?_
      refine AllReadyH.cons rfl (fun K' hK' => ?_) (AllReadyH.cons rfl (fun K' hK' => ?_) AllReadyH.nil)
      · go_simp
        refine (join_any f h _).mono ?_
        rintro e v4 ⟨m, rfl, hm, o4⟩
        have hS4 := hS.trans o4 (fun _ _ h => h)
        refine hK'.out _ _ hS4 (fun hS => ?_)
        clear hK' K' hS4
        have HM : Hid (∀ j, j < 8 → f j ≤ m j) := fun j hj => by rw [hm j hj]; omega
        have HZ4 : Hid (W3.heap.size ≤ v4.heap.size) := hS.size
        clear hm o4
        refine wpAnyH_ready (rs := [6, 10]) (by kernel_rfl) (by simp) ?_
        refine AllReadyH.cons rfl (fun K' hK' => ?_) (AllReadyH.cons rfl (fun K' hK' => ?_) AllReadyH.nil)
        · go_simp
          have hra := HRA.out.off hS
          refine (sput_any f m a ca l node HNO.out none 0 [] true _ hra (Src.nil _) (by simp) (by simp)).mono ?_
          rintro e v6 ⟨fp, ap, cp, lp, er, rfl, her, hfp, hlp, mdp, o6⟩
          have hS6 := hS.trans o6 (fun _ _ h => h)
          refine hK'.out _ _ hS6 (fun hS => ?_)
          clear hK' K' hS6
          have HER : Hid _ := her
          have HFP : Hid _ := hfp
          have HLP : Hid _ := hlp
          have HMP : Hid _ := mdp
          have HZ6 : Hid (W3.heap.size ≤ v6.heap.size) := hS.size
          clear hra her hfp hlp mdp o6
          refine take_at (i := 7) 62 (v := .tuple #[.agg #[.int .i64 (fp 0), .int .i64 (fp 1), .int .i64 (fp 2), .int .i64 (fp 3), .int .i64 (fp 4), .int .i64 (fp 5), .int .i64 (fp 6), .int .i64 (fp 7), .slice ap lp.length cp], .int .i64 er]) rfl rfl (by kernel_rfl) (by kernel_rfl) (by kernel_rfl) (fun _ _ _ h => h) (Or.inl ⟨by rfl, fun w' hw' => by go_simp⟩) hS ?_
          simp only [Act.put, List.setIfInBounds_toArray, List.set_cons_zero, List.set_cons_succ]
          refine take_at (i := 8) 70 (v := .agg #[.int .i64 (fp 0), .int .i64 (fp 1), .int .i64 (fp 2), .int .i64 (fp 3), .int .i64 (fp 4), .int .i64 (fp 5), .int .i64 (fp 6), .int .i64 (fp 7), .slice ap lp.length cp]) rfl rfl (by kernel_rfl) (by kernel_rfl) (by kernel_rfl) (fun _ _ _ h => h) (Or.inl ⟨by rfl, fun w' hw' => by go_simp⟩) hS ?_
          simp only [Act.put, List.setIfInBounds_toArray, List.set_cons_zero, List.set_cons_succ]
          refine take_at (i := 9) 71 (v := .int .i64 er) rfl rfl (by kernel_rfl) (by kernel_rfl) (by kernel_rfl) (fun _ _ _ h => h) (Or.inl ⟨by rfl, fun w' hw' => by go_simp⟩) hS ?_
          simp only [Act.put, List.setIfInBounds_toArray, List.set_cons_zero, List.set_cons_succ]
          refine wpAnyH_ready (rs := [10]) (by kernel_rfl) (by simp) ?_
          refine AllReadyH.cons rfl (fun K' hK' => ?_) AllReadyH.nil
          go_simp
          refine hK'.out _ _ (hS.alloc _) (fun hS => ?_)
          clear hK' K'
          have DQ : Cel v6.heap.size 26 #[.int .i64 (zer 0), .int .i64 (zer 1), .int .i64 (zer 2), .int .i64 (zer 3), .int .i64 (zer 4), .int .i64 (zer 5), .int .i64 (zer 6), .int .i64 (zer 7), .slice none 0 0] (v6.alloc (.cells #[.int .i64 0, .int .i64 0, .int .i64 0, .int .i64 0, .int .i64 0, .int .i64 0, .int .i64 0, .int .i64 0, .slice none 0 0] 26)) := (Cel.new v6 _ _)
          have OV0 : Off (fun _ => False) v6 (v6.alloc (.cells #[.int .i64 0, .int .i64 0, .int .i64 0, .int .i64 0, .int .i64 0, .int .i64 0, .int .i64 0, .int .i64 0, .slice none 0 0] 26)) := ((Off.refl _ v6).alloc _)
          have hq9 : W3.heap.size ≤ v6.heap.size := HZ6.out
          have hq7 : v6.heap.size < (v6.alloc (.cells #[.int .i64 0, .int .i64 0, .int .i64 0, .int .i64 0, .int .i64 0, .int .i64 0, .int .i64 0, .int .i64 0, .slice none 0 0] 26)).heap.size := by show _ < (v6.alloc (.cells #[.int .i64 0, .int .i64 0, .int .i64 0, .int .i64 0, .int .i64 0, .int .i64 0, .int .i64 0, .int .i64 0, .slice none 0 0] 26)).heap.size; simp [World.size_alloc]
          generalize hV0 : (v6.alloc (.cells #[.int .i64 0, .int .i64 0, .int .i64 0, .int .i64 0, .int .i64 0, .int .i64 0, .int .i64 0, .int .i64 0, .slice none 0 0] 26)) = V0 at DQ hS hq7 OV0 ⊢
          generalize hQ : v6.heap.size = QQ at DQ hq7 ⊢
          have HQ5QQ : Hid (v6.heap.size ≤ QQ) := by show _ ≤ _; omega
          have HQ6QQ : Hid (W3.heap.size ≤ QQ) := by show _ ≤ _; omega
          have HQ7QQ : Hid (QQ < V0.heap.size) := hq7
          clear hV0 hQ hq9 hq7
          obtain ⟨x0, x1, x2, x3, x4, x5, x6, x7, x8⟩ := cel9 DQ
          have fz := DQ.free
          refine wpAnyH_ready (rs := [11]) (by kernel_rfl) (by simp) ?_
          refine AllReadyH.cons rfl (fun K' hK' => ?_) AllReadyH.nil
          go_simp
          have hS5 := hS.st9 (b := QQ) (.inr HQ6QQ.out) fp (.slice ap lp.length cp)
          refine hK'.out _ _ hS5 (fun hS => ?_)
          clear hK' K' hS5
          have ZQ := DQ.st9 fp (.slice ap lp.length cp)
          have OS : Off (fun c => c = QQ) V0 (((((((((V0.setCell ⟨QQ, 0, none⟩ (.int .i64 (fp 0))).setCell ⟨QQ, 1, none⟩ (.int .i64 (fp 1))).setCell ⟨QQ, 2, none⟩ (.int .i64 (fp 2))).setCell ⟨QQ, 3, none⟩ (.int .i64 (fp 3))).setCell ⟨QQ, 4, none⟩ (.int .i64 (fp 4))).setCell ⟨QQ, 5, none⟩ (.int .i64 (fp 5))).setCell ⟨QQ, 6, none⟩ (.int .i64 (fp 6))).setCell ⟨QQ, 7, none⟩ (.int .i64 (fp 7))).setCell ⟨QQ, 8, none⟩ (.slice ap lp.length cp)) := (Off.refl (fun c => c = QQ) V0).st9 (.inl rfl) fp (.slice ap lp.length cp)
          clear DQ fz x0 x1 x2 x3 x4 x5 x6 x7 x8
          generalize hV : (((((((((V0.setCell ⟨QQ, 0, none⟩ (.int .i64 (fp 0))).setCell ⟨QQ, 1, none⟩ (.int .i64 (fp 1))).setCell ⟨QQ, 2, none⟩ (.int .i64 (fp 2))).setCell ⟨QQ, 3, none⟩ (.int .i64 (fp 3))).setCell ⟨QQ, 4, none⟩ (.int .i64 (fp 4))).setCell ⟨QQ, 5, none⟩ (.int .i64 (fp 5))).setCell ⟨QQ, 6, none⟩ (.int .i64 (fp 6))).setCell ⟨QQ, 7, none⟩ (.int .i64 (fp 7))).setCell ⟨QQ, 8, none⟩ (.slice ap lp.length cp)) = V at ZQ hS OS ⊢
          clear hV
          refine take_at (i := 12) 18 (v := .int .i64 er) rfl rfl (by kernel_rfl) (by kernel_rfl) (by kernel_rfl) (fun _ _ _ h => h) (Or.inl ⟨by rfl, fun w' hw' => by go_simp⟩) hS ?_
          simp only [Act.put, List.setIfInBounds_toArray, List.set_cons_zero, List.set_cons_succ]
          have HRP : Hid (Row V ap cp lp) := HMP.out.row.off (OV0.trans OS (fun i hi e => by have e' : i = QQ := e; have := HQ5QQ.out; omega))
          clear OV0
          refine wpAnyH_done (by kernel_rfl) ?_ _
          have GQ : Hid _ := ZQ
          have HOV : Hid _ := HO3.out.trans hS (fun _ _ h => h)
          clear ZQ hS OS HMP
          obtain ⟨z0, z1, z2, z3, z4, z5, z6, z7⟩ := cel8 (H2.out.off HOV.out (fun h => h))
          by_cases her0 : er = 0
          · subst her0
            obtain ⟨x, hxd, hpl, hmp, hle, hnc⟩ := gone_put HMA.out HM.out HER.out.symm
            have HCP : Hid (cont lp = [x]) := HLP.out.trans hpl
            rw [← HFP.out] at hmp hle
            have HX : Hid _ := And.intro hxd (And.intro hmp (And.intro hle hnc))
            clear hxd hpl hmp hle hnc
            go_wp2_with fail
            clear z0 z1 z2 z3 z4 z5 z6 z7
            refine (fmay_any h _).mono ?_
            cases m3 : mayB h
            · rintro e w8 ⟨rfl, o8⟩
              go_wp2_with fail
              refine (awake_any _).mono ?_
              rintro e w9 ⟨rfl, o9⟩
              go_wp2_with fail
              go_ret
              exact ⟨rfl, HO.out.trans (HOV.out.trans (o8.trans o9 (fun _ _ h => h)) (fun _ _ h => h)) (fun _ _ h => h)⟩
            rintro e w8 ⟨rfl, o8⟩
            have HO8 : Hid _ := HOV.out.trans o8 (fun _ _ h => h)
            have L0 : Hid _ := H0.out.off HO8.out (fun h => h)
            have LQ : Hid _ := GQ.out.off o8 (fun h => h)
            have HRP8 : Hid _ := HRP.out.off o8
            have HRA8 : Hid _ := HR1.out.off HO8.out
            clear o8 GQ HRP
            go_wp2_with fail
            refine wp_region_held_drew (S := fun w' => Off (fun _ => False) w8 w') (by kernel_rfl) ((Off.refl _ w8).drew) (fun hS => ?_)
            refine take_at (i := 0) 80 (v := .agg #[.int .i64 (fp 0), .int .i64 (fp 1), .int .i64 (fp 2), .int .i64 (fp 3), .int .i64 (fp 4), .int .i64 (fp 5), .int .i64 (fp 6), .int .i64 (fp 7), .slice ap lp.length cp]) rfl rfl (by kernel_rfl) (by kernel_rfl) (by kernel_rfl) (fun _ _ _ h => h) (Or.inl ⟨by rfl, fun w' hw' => by obtain ⟨x0, x1, x2, x3, x4, x5, x6, x7, x8⟩ := cel9 (LQ.out.off hw' (fun h => h)); go_simp⟩) hS ?_
            simp only [Act.put, List.setIfInBounds_toArray, List.set_cons_zero, List.set_cons_succ]
            refine take_at (i := 2) 82 (v := .agg #[.int .i64 (f 0), .int .i64 (f 1), .int .i64 (f 2), .int .i64 (f 3), .int .i64 (f 4), .int .i64 (f 5), .int .i64 (f 6), .int .i64 (f 7), .slice a l.length ca]) rfl rfl (by kernel_rfl) (by kernel_rfl) (by kernel_rfl) (fun _ _ _ h => h) (Or.inl ⟨by rfl, fun w' hw' => by obtain ⟨x0, x1, x2, x3, x4, x5, x6, x7, x8⟩ := cel9 (L0.out.off hw' (fun h => h)); go_simp⟩) hS ?_
            simp only [Act.put, List.setIfInBounds_toArray, List.set_cons_zero, List.set_cons_succ]
            refine wpAnyH_ready (rs := [1, 4]) (by kernel_rfl) (by simp) ?_
            refine AllReadyH.cons rfl (fun K' hK' => ?_) (AllReadyH.cons rfl (fun K' hK' => ?_) AllReadyH.nil)
            · go_simp
              have hrp := HRP8.out.off hS
              refine (sreap_any fp ap cp lp _ hrp).mono ?_
              rintro e v1 ⟨fr, ar, cr, lr, rfl, hfr, hlr, mdr, o1⟩
              have hS1 := hS.trans o1 (fun _ _ h => h)
              refine hK'.out _ _ hS1 (fun hS => ?_)
              clear hK' K' hS1
              have HFR : Hid _ := hfr
              have HLR : Hid _ := hlr
              have HRR : Hid _ := mdr.row
              have HZ1 : Hid (w8.heap.size ≤ v1.heap.size) := hS.size
              clear hrp hfr hlr mdr o1
              refine wpAnyH_ready (rs := [3, 4]) (by kernel_rfl) (by simp) ?_
              refine AllReadyH.cons rfl (fun K' hK' => ?_) (AllReadyH.cons rfl (fun K' hK' => ?_) AllReadyH.nil)
              · go_simp
                have hra := HRA8.out.off hS
                have hrr := HRR.out
                refine (sjoin_any fr f ar a cr ca lr l _ hrr hra).mono ?_
                rintro e v3 ⟨fb, ab, cbk, lb, rfl, hfb, hlb, mdb, o3⟩
                have hS3 := hS.trans o3 (fun _ _ h => h)
                refine hK'.out _ _ hS3 (fun hS => ?_)
                clear hK' K' hS3
                have HLB : Hid (((lb.length : Int) == 0) = true) := by
                  have e : cont lb = [] := by rw [hlb, HFR.out, HLR.out, HCP.out]; exact gone_back HMA.out HX.out.2.1 HX.out.1 HX.out.2.2.1
                  have e2 : lb.length = 0 := by have := congrArg List.length e; simpa [cont_len] using this
                  show _ = true
                  rw [e2]
                  rfl
                have HZ3 : Hid (w8.heap.size ≤ v3.heap.size) := hS.size
                clear hra hrr hfb hlb mdb o3
                refine wpAnyH_ready (rs := [4]) (by kernel_rfl) (by simp) ?_
                refine AllReadyH.cons rfl (fun K' hK' => ?_) AllReadyH.nil
                go_simp
                refine hK'.out _ _ (hS.alloc _) (fun hS => ?_)
                clear hK' K'
                have DQ : Cel v3.heap.size 26 #[.int .i64 (zer 0), .int .i64 (zer 1), .int .i64 (zer 2), .int .i64 (zer 3), .int .i64 (zer 4), .int .i64 (zer 5), .int .i64 (zer 6), .int .i64 (zer 7), .slice none 0 0] (v3.alloc (.cells #[.int .i64 0, .int .i64 0, .int .i64 0, .int .i64 0, .int .i64 0, .int .i64 0, .int .i64 0, .int .i64 0, .slice none 0 0] 26)) := (Cel.new v3 _ _)
                have OV0 : Off (fun _ => False) v3 (v3.alloc (.cells #[.int .i64 0, .int .i64 0, .int .i64 0, .int .i64 0, .int .i64 0, .int .i64 0, .int .i64 0, .int .i64 0, .slice none 0 0] 26)) := ((Off.refl _ v3).alloc _)
                have hq9 : w8.heap.size ≤ v3.heap.size := HZ3.out
                have hq7 : v3.heap.size < (v3.alloc (.cells #[.int .i64 0, .int .i64 0, .int .i64 0, .int .i64 0, .int .i64 0, .int .i64 0, .int .i64 0, .int .i64 0, .slice none 0 0] 26)).heap.size := by show _ < (v3.alloc (.cells #[.int .i64 0, .int .i64 0, .int .i64 0, .int .i64 0, .int .i64 0, .int .i64 0, .int .i64 0, .int .i64 0, .slice none 0 0] 26)).heap.size; simp [World.size_alloc]
                generalize hV0 : (v3.alloc (.cells #[.int .i64 0, .int .i64 0, .int .i64 0, .int .i64 0, .int .i64 0, .int .i64 0, .int .i64 0, .int .i64 0, .slice none 0 0] 26)) = V02 at DQ hS hq7 OV0 ⊢
                generalize hQ : v3.heap.size = Q2 at DQ hq7 ⊢
                have HQ5Q2 : Hid (v3.heap.size ≤ Q2) := by show _ ≤ _; omega
                have HQ6Q2 : Hid (w8.heap.size ≤ Q2) := by show _ ≤ _; omega
                have HQ7Q2 : Hid (Q2 < V02.heap.size) := hq7
                clear hV0 hQ hq9 hq7
                obtain ⟨x0, x1, x2, x3, x4, x5, x6, x7, x8⟩ := cel9 DQ
                have fz := DQ.free
                refine wpAnyH_ready (rs := [5]) (by kernel_rfl) (by simp) ?_
                refine AllReadyH.cons rfl (fun K' hK' => ?_) AllReadyH.nil
                go_simp
                have hS5 := hS.st9 (b := Q2) (.inr HQ6Q2.out) fb (.slice ab lb.length cbk)
                refine hK'.out _ _ hS5 (fun hS => ?_)
                clear hK' K' hS5
                have ZQ := DQ.st9 fb (.slice ab lb.length cbk)
                have OS : Off (fun c => c = Q2) V02 (((((((((V02.setCell ⟨Q2, 0, none⟩ (.int .i64 (fb 0))).setCell ⟨Q2, 1, none⟩ (.int .i64 (fb 1))).setCell ⟨Q2, 2, none⟩ (.int .i64 (fb 2))).setCell ⟨Q2, 3, none⟩ (.int .i64 (fb 3))).setCell ⟨Q2, 4, none⟩ (.int .i64 (fb 4))).setCell ⟨Q2, 5, none⟩ (.int .i64 (fb 5))).setCell ⟨Q2, 6, none⟩ (.int .i64 (fb 6))).setCell ⟨Q2, 7, none⟩ (.int .i64 (fb 7))).setCell ⟨Q2, 8, none⟩ (.slice ab lb.length cbk)) := (Off.refl (fun c => c = Q2) V02).st9 (.inl rfl) fb (.slice ab lb.length cbk)
                clear DQ fz x0 x1 x2 x3 x4 x5 x6 x7 x8
                generalize hV : (((((((((V02.setCell ⟨Q2, 0, none⟩ (.int .i64 (fb 0))).setCell ⟨Q2, 1, none⟩ (.int .i64 (fb 1))).setCell ⟨Q2, 2, none⟩ (.int .i64 (fb 2))).setCell ⟨Q2, 3, none⟩ (.int .i64 (fb 3))).setCell ⟨Q2, 4, none⟩ (.int .i64 (fb 4))).setCell ⟨Q2, 5, none⟩ (.int .i64 (fb 5))).setCell ⟨Q2, 6, none⟩ (.int .i64 (fb 6))).setCell ⟨Q2, 7, none⟩ (.int .i64 (fb 7))).setCell ⟨Q2, 8, none⟩ (.slice ab lb.length cbk)) = V2 at ZQ hS OS ⊢
                clear hV
                refine wpAnyH_done (by kernel_rfl) ?_ _
                have HO9 : Hid _ := HO8.out.trans hS (fun _ _ h => h)
                have HRP9 : Hid _ := HRP8.out.off hS
                obtain ⟨x0, x1, x2, x3, x4, x5, x6, x7, x8⟩ := cel9 (LQ.out.off hS (fun h => h))
                obtain ⟨y0, y1, y2, y3, y4, y5, y6, y7, y8⟩ := cel9 ZQ
                obtain ⟨u0, u1, u2, u3, u4, u5, u6, u7, u8⟩ := cel9 (H0.out.off HO9.out (fun h => h))
                have k1 : ((lp.length : Int) == 1) = true := by
                  have e2 : lp.length = 1 := by have := congrArg List.length HCP.out; simpa [cont_len] using this
                  rw [e2]
                  rfl
                have k2 := HLB.out
                clear hS ZQ OS
                go_wp2_with fail
                clear x0 x1 x2 x3 x4 x5 x6 x7 x8 y0 y1 y2 y3 y4 y5 y6 y7 y8 u0 u1 u2 u3 u4 u5 u6 u7 u8 k1 k2
                refine (sjoin_any fp f ap a cp ca lp l _ HRP9.out (HR1.out.off HO9.out)).mono ?_
                rintro e wa ⟨ft, ta, ct, lt, rfl, hft, hlt, mdt, oa⟩
                have HLT : Hid _ := hlt
                have HMT : Hid _ := mdt.row
                clear hft hlt mdt
                go_wp2_with fail
                refine (slive_any ft ta ct lt _ HMT.out).mono ?_
                rintro e wb ⟨tl, cl, bl, rfl, ol, sl, hbl, ob⟩
                have hb0 : ((bl.length : Int) == 0) = true := by
                  have e : liveA (cont lt) = [] := by rw [HLT.out, HCP.out]; exact gone_live HMA.out HX.out.2.1 HX.out.1 HX.out.2.2.1 HX.out.2.2.2
                  rw [e] at hbl
                  have e2 : bl.length = 0 := by have := congrArg List.length hbl; simpa using this
                  rw [e2]
                  rfl
                clear ol sl hbl
                go_wp2_with fail
                refine (awake_any _).mono ?_
                rintro e wc ⟨rfl, oc⟩
                go_wp2_with fail
                go_ret
                exact ⟨rfl, HO.out.trans (HO9.out.trans (oa.trans (ob.trans oc (fun _ _ h => h)) (fun _ _ h => h)) (fun _ _ h => h)) (fun _ _ h => h)⟩
              · go_simp
                refine hK'.out _ _ (hS.alloc _) (fun hS => ?_)
                clear hK' K'
                have DQ : Cel v1.heap.size 26 #[.int .i64 (zer 0), .int .i64 (zer 1), .int .i64 (zer 2), .int .i64 (zer 3), .int .i64 (zer 4), .int .i64 (zer 5), .int .i64 (zer 6), .int .i64 (zer 7), .slice none 0 0] (v1.alloc (.cells #[.int .i64 0, .int .i64 0, .int .i64 0, .int .i64 0, .int .i64 0, .int .i64 0, .int .i64 0, .int .i64 0, .slice none 0 0] 26)) := (Cel.new v1 _ _)
                have OV0 : Off (fun _ => False) v1 (v1.alloc (.cells #[.int .i64 0, .int .i64 0, .int .i64 0, .int .i64 0, .int .i64 0, .int .i64 0, .int .i64 0, .int .i64 0, .slice none 0 0] 26)) := ((Off.refl _ v1).alloc _)
                have hq9 : w8.heap.size ≤ v1.heap.size := HZ1.out
                have hq7 : v1.heap.size < (v1.alloc (.cells #[.int .i64 0, .int .i64 0, .int .i64 0, .int .i64 0, .int .i64 0, .int .i64 0, .int .i64 0, .int .i64 0, .slice none 0 0] 26)).heap.size := by show _ < (v1.alloc (.cells #[.int .i64 0, .int .i64 0, .int .i64 0, .int .i64 0, .int .i64 0, .int .i64 0, .int .i64 0, .int .i64 0, .slice none 0 0] 26)).heap.size; simp [World.size_alloc]
                generalize hV0 : (v1.alloc (.cells #[.int .i64 0, .int .i64 0, .int .i64 0, .int .i64 0, .int .i64 0, .int .i64 0, .int .i64 0, .int .i64 0, .slice none 0 0] 26)) = V02 at DQ hS hq7 OV0 ⊢
                generalize hQ : v1.heap.size = Q2 at DQ hq7 ⊢
                have HQ5Q2 : Hid (v1.heap.size ≤ Q2) := by show _ ≤ _; omega
                have HQ6Q2 : Hid (w8.heap.size ≤ Q2) := by show _ ≤ _; omega
                have HQ7Q2 : Hid (Q2 < V02.heap.size) := hq7
                clear hV0 hQ hq9 hq7
                refine wpAnyH_ready (rs := [3]) (by kernel_rfl) (by simp) ?_
                refine AllReadyH.cons rfl (fun K' hK' => ?_) AllReadyH.nil
                go_simp
                have hra := HRA8.out.off hS
                have hrr := HRR.out.off OV0
                refine (sjoin_any fr f ar a cr ca lr l _ hrr hra).mono ?_
                rintro e v3 ⟨fb, ab, cbk, lb, rfl, hfb, hlb, mdb, o3⟩
                have hS3 := hS.trans o3 (fun _ _ h => h)
                refine hK'.out _ _ hS3 (fun hS => ?_)
                clear hK' K' hS3
                have HLB : Hid (((lb.length : Int) == 0) = true) := by
                  have e : cont lb = [] := by rw [hlb, HFR.out, HLR.out, HCP.out]; exact gone_back HMA.out HX.out.2.1 HX.out.1 HX.out.2.2.1
                  have e2 : lb.length = 0 := by have := congrArg List.length e; simpa [cont_len] using this
                  show _ = true
                  rw [e2]
                  rfl
                replace DQ := DQ.off o3 (fun h => h)
                have HZ3 : Hid (w8.heap.size ≤ v3.heap.size) := hS.size
                clear hra hrr hfb hlb mdb o3
                obtain ⟨x0, x1, x2, x3, x4, x5, x6, x7, x8⟩ := cel9 DQ
                have fz := DQ.free
                refine wpAnyH_ready (rs := [5]) (by kernel_rfl) (by simp) ?_
                refine AllReadyH.cons rfl (fun K' hK' => ?_) AllReadyH.nil
                go_simp
                have hS5 := hS.st9 (b := Q2) (.inr HQ6Q2.out) fb (.slice ab lb.length cbk)
                refine hK'.out _ _ hS5 (fun hS => ?_)
                clear hK' K' hS5
                have ZQ := DQ.st9 fb (.slice ab lb.length cbk)
                have OS : Off (fun c => c = Q2) v3 (((((((((v3.setCell ⟨Q2, 0, none⟩ (.int .i64 (fb 0))).setCell ⟨Q2, 1, none⟩ (.int .i64 (fb 1))).setCell ⟨Q2, 2, none⟩ (.int .i64 (fb 2))).setCell ⟨Q2, 3, none⟩ (.int .i64 (fb 3))).setCell ⟨Q2, 4, none⟩ (.int .i64 (fb 4))).setCell ⟨Q2, 5, none⟩ (.int .i64 (fb 5))).setCell ⟨Q2, 6, none⟩ (.int .i64 (fb 6))).setCell ⟨Q2, 7, none⟩ (.int .i64 (fb 7))).setCell ⟨Q2, 8, none⟩ (.slice ab lb.length cbk)) := (Off.refl (fun c => c = Q2) v3).st9 (.inl rfl) fb (.slice ab lb.length cbk)
                clear DQ fz x0 x1 x2 x3 x4 x5 x6 x7 x8
                generalize hV : (((((((((v3.setCell ⟨Q2, 0, none⟩ (.int .i64 (fb 0))).setCell ⟨Q2, 1, none⟩ (.int .i64 (fb 1))).setCell ⟨Q2, 2, none⟩ (.int .i64 (fb 2))).setCell ⟨Q2, 3, none⟩ (.int .i64 (fb 3))).setCell ⟨Q2, 4, none⟩ (.int .i64 (fb 4))).setCell ⟨Q2, 5, none⟩ (.int .i64 (fb 5))).setCell ⟨Q2, 6, none⟩ (.int .i64 (fb 6))).setCell ⟨Q2, 7, none⟩ (.int .i64 (fb 7))).setCell ⟨Q2, 8, none⟩ (.slice ab lb.length cbk)) = V2 at ZQ hS OS ⊢
                clear hV
                refine wpAnyH_done (by kernel_rfl) ?_ _
                have HO9 : Hid _ := HO8.out.trans hS (fun _ _ h => h)
                have HRP9 : Hid _ := HRP8.out.off hS
                obtain ⟨x0, x1, x2, x3, x4, x5, x6, x7, x8⟩ := cel9 (LQ.out.off hS (fun h => h))
                obtain ⟨y0, y1, y2, y3, y4, y5, y6, y7, y8⟩ := cel9 ZQ
                obtain ⟨u0, u1, u2, u3, u4, u5, u6, u7, u8⟩ := cel9 (H0.out.off HO9.out (fun h => h))
                have k1 : ((lp.length : Int) == 1) = true := by
                  have e2 : lp.length = 1 := by have := congrArg List.length HCP.out; simpa [cont_len] using this
                  rw [e2]
                  rfl
                have k2 := HLB.out
                clear hS ZQ OS
                go_wp2_with fail
                clear x0 x1 x2 x3 x4 x5 x6 x7 x8 y0 y1 y2 y3 y4 y5 y6 y7 y8 u0 u1 u2 u3 u4 u5 u6 u7 u8 k1 k2
                refine (sjoin_any fp f ap a cp ca lp l _ HRP9.out (HR1.out.off HO9.out)).mono ?_
                rintro e wa ⟨ft, ta, ct, lt, rfl, hft, hlt, mdt, oa⟩
                have HLT : Hid _ := hlt
                have HMT : Hid _ := mdt.row
                clear hft hlt mdt
                go_wp2_with fail
                refine (slive_any ft ta ct lt _ HMT.out).mono ?_
                rintro e wb ⟨tl, cl, bl, rfl, ol, sl, hbl, ob⟩
                have hb0 : ((bl.length : Int) == 0) = true := by
                  have e : liveA (cont lt) = [] := by rw [HLT.out, HCP.out]; exact gone_live HMA.out HX.out.2.1 HX.out.1 HX.out.2.2.1 HX.out.2.2.2
                  rw [e] at hbl
                  have e2 : bl.length = 0 := by have := congrArg List.length hbl; simpa using this
                  rw [e2]
                  rfl
                clear ol sl hbl
                go_wp2_with fail
                refine (awake_any _).mono ?_
                rintro e wc ⟨rfl, oc⟩
                go_wp2_with fail
                go_ret
                exact ⟨rfl, HO.out.trans (HO9.out.trans (oa.trans (ob.trans oc (fun _ _ h => h)) (fun _ _ h => h)) (fun _ _ h => h)) (fun _ _ h => h)⟩
            · go_simp
              refine hK'.out _ _ (hS.alloc _) (fun hS => ?_)
              clear hK' K'
              have DQ : Cel w8.heap.size 26 #[.int .i64 (zer 0), .int .i64 (zer 1), .int .i64 (zer 2), .int .i64 (zer 3), .int .i64 (zer 4), .int .i64 (zer 5), .int .i64 (zer 6), .int .i64 (zer 7), .slice none 0 0] (w8.alloc (.cells #[.int .i64 0, .int .i64 0, .int .i64 0, .int .i64 0, .int .i64 0, .int .i64 0, .int .i64 0, .int .i64 0, .slice none 0 0] 26)).drew := (Cel.new w8 _ _).drew
              have OV0 : Off (fun _ => False) w8 (w8.alloc (.cells #[.int .i64 0, .int .i64 0, .int .i64 0, .int .i64 0, .int .i64 0, .int .i64 0, .int .i64 0, .int .i64 0, .slice none 0 0] 26)).drew := ((Off.refl _ w8).alloc _).drew
              have hq9 : w8.heap.size ≤ w8.heap.size := Nat.le_refl _
              have hq7 : w8.heap.size < (w8.alloc (.cells #[.int .i64 0, .int .i64 0, .int .i64 0, .int .i64 0, .int .i64 0, .int .i64 0, .int .i64 0, .int .i64 0, .slice none 0 0] 26)).drew.heap.size := by show _ < (w8.alloc (.cells #[.int .i64 0, .int .i64 0, .int .i64 0, .int .i64 0, .int .i64 0, .int .i64 0, .int .i64 0, .int .i64 0, .slice none 0 0] 26)).heap.size; simp [World.size_alloc]
              generalize hV0 : (w8.alloc (.cells #[.int .i64 0, .int .i64 0, .int .i64 0, .int .i64 0, .int .i64 0, .int .i64 0, .int .i64 0, .int .i64 0, .slice none 0 0] 26)).drew = V02 at DQ hS hq7 OV0 ⊢
              generalize hQ : w8.heap.size = Q2 at DQ hq7 ⊢
              have HQ5Q2 : Hid (w8.heap.size ≤ Q2) := by show _ ≤ _; omega
              have HQ6Q2 : Hid (w8.heap.size ≤ Q2) := by show _ ≤ _; omega
              have HQ7Q2 : Hid (Q2 < V02.heap.size) := hq7
              clear hV0 hQ hq9 hq7
              refine wpAnyH_ready (rs := [1]) (by kernel_rfl) (by simp) ?_
              refine AllReadyH.cons rfl (fun K' hK' => ?_) AllReadyH.nil
              go_simp
              have hrp := HRP8.out.off hS
              refine (sreap_any fp ap cp lp _ hrp).mono ?_
              rintro e v1 ⟨fr, ar, cr, lr, rfl, hfr, hlr, mdr, o1⟩
              have hS1 := hS.trans o1 (fun _ _ h => h)
              refine hK'.out _ _ hS1 (fun hS => ?_)
              clear hK' K' hS1
              have HFR : Hid _ := hfr
              have HLR : Hid _ := hlr
              have HRR : Hid _ := mdr.row
              replace DQ := DQ.off o1 (fun h => h)
              have HZ1 : Hid (w8.heap.size ≤ v1.heap.size) := hS.size
              clear hrp hfr hlr mdr o1
              refine wpAnyH_ready (rs := [3]) (by kernel_rfl) (by simp) ?_
              refine AllReadyH.cons rfl (fun K' hK' => ?_) AllReadyH.nil
              go_simp
              have hra := HRA8.out.off hS
              have hrr := HRR.out
              refine (sjoin_any fr f ar a cr ca lr l _ hrr hra).mono ?_
              rintro e v3 ⟨fb, ab, cbk, lb, rfl, hfb, hlb, mdb, o3⟩
              have hS3 := hS.trans o3 (fun _ _ h => h)
              refine hK'.out _ _ hS3 (fun hS => ?_)
              clear hK' K' hS3
              have HLB : Hid (((lb.length : Int) == 0) = true) := by
                have e : cont lb = [] := by rw [hlb, HFR.out, HLR.out, HCP.out]; exact gone_back HMA.out HX.out.2.1 HX.out.1 HX.out.2.2.1
                have e2 : lb.length = 0 := by have := congrArg List.length e; simpa [cont_len] using this
                show _ = true
                rw [e2]
                rfl
              replace DQ := DQ.off o3 (fun h => h)
              have HZ3 : Hid (w8.heap.size ≤ v3.heap.size) := hS.size
              clear hra hrr hfb hlb mdb o3
              obtain ⟨x0, x1, x2, x3, x4, x5, x6, x7, x8⟩ := cel9 DQ
              have fz := DQ.free
              refine wpAnyH_ready (rs := [5]) (by kernel_rfl) (by simp) ?_
              refine AllReadyH.cons rfl (fun K' hK' => ?_) AllReadyH.nil
              go_simp
              have hS5 := hS.st9 (b := Q2) (.inr HQ6Q2.out) fb (.slice ab lb.length cbk)
              refine hK'.out _ _ hS5 (fun hS => ?_)
              clear hK' K' hS5
              have ZQ := DQ.st9 fb (.slice ab lb.length cbk)
              have OS : Off (fun c => c = Q2) v3 (((((((((v3.setCell ⟨Q2, 0, none⟩ (.int .i64 (fb 0))).setCell ⟨Q2, 1, none⟩ (.int .i64 (fb 1))).setCell ⟨Q2, 2, none⟩ (.int .i64 (fb 2))).setCell ⟨Q2, 3, none⟩ (.int .i64 (fb 3))).setCell ⟨Q2, 4, none⟩ (.int .i64 (fb 4))).setCell ⟨Q2, 5, none⟩ (.int .i64 (fb 5))).setCell ⟨Q2, 6, none⟩ (.int .i64 (fb 6))).setCell ⟨Q2, 7, none⟩ (.int .i64 (fb 7))).setCell ⟨Q2, 8, none⟩ (.slice ab lb.length cbk)) := (Off.refl (fun c => c = Q2) v3).st9 (.inl rfl) fb (.slice ab lb.length cbk)
              clear DQ fz x0 x1 x2 x3 x4 x5 x6 x7 x8
              generalize hV : (((((((((v3.setCell ⟨Q2, 0, none⟩ (.int .i64 (fb 0))).setCell ⟨Q2, 1, none⟩ (.int .i64 (fb 1))).setCell ⟨Q2, 2, none⟩ (.int .i64 (fb 2))).setCell ⟨Q2, 3, none⟩ (.int .i64 (fb 3))).setCell ⟨Q2, 4, none⟩ (.int .i64 (fb 4))).setCell ⟨Q2, 5, none⟩ (.int .i64 (fb 5))).setCell ⟨Q2, 6, none⟩ (.int .i64 (fb 6))).setCell ⟨Q2, 7, none⟩ (.int .i64 (fb 7))).setCell ⟨Q2, 8, none⟩ (.slice ab lb.length cbk)) = V2 at ZQ hS OS ⊢
              clear hV
              refine wpAnyH_done (by kernel_rfl) ?_ _
              have HO9 : Hid _ := HO8.out.trans hS (fun _ _ h => h)
              have HRP9 : Hid _ := HRP8.out.off hS
              obtain ⟨x0, x1, x2, x3, x4, x5, x6, x7, x8⟩ := cel9 (LQ.out.off hS (fun h => h))
              obtain ⟨y0, y1, y2, y3, y4, y5, y6, y7, y8⟩ := cel9 ZQ
              obtain ⟨u0, u1, u2, u3, u4, u5, u6, u7, u8⟩ := cel9 (H0.out.off HO9.out (fun h => h))
              have k1 : ((lp.length : Int) == 1) = true := by
                have e2 : lp.length = 1 := by have := congrArg List.length HCP.out; simpa [cont_len] using this
                rw [e2]
                rfl
              have k2 := HLB.out
              clear hS ZQ OS
              go_wp2_with fail
              clear x0 x1 x2 x3 x4 x5 x6 x7 x8 y0 y1 y2 y3 y4 y5 y6 y7 y8 u0 u1 u2 u3 u4 u5 u6 u7 u8 k1 k2
              refine (sjoin_any fp f ap a cp ca lp l _ HRP9.out (HR1.out.off HO9.out)).mono ?_
              rintro e wa ⟨ft, ta, ct, lt, rfl, hft, hlt, mdt, oa⟩
              have HLT : Hid _ := hlt
              have HMT : Hid _ := mdt.row
              clear hft hlt mdt
              go_wp2_with fail
              refine (slive_any ft ta ct lt _ HMT.out).mono ?_
              rintro e wb ⟨tl, cl, bl, rfl, ol, sl, hbl, ob⟩
              have hb0 : ((bl.length : Int) == 0) = true := by
                have e : liveA (cont lt) = [] := by rw [HLT.out, HCP.out]; exact gone_live HMA.out HX.out.2.1 HX.out.1 HX.out.2.2.1 HX.out.2.2.2
                rw [e] at hbl
                have e2 : bl.length = 0 := by have := congrArg List.length hbl; simpa using this
                rw [e2]
                rfl
              clear ol sl hbl
              go_wp2_with fail
              refine (awake_any _).mono ?_
              rintro e wc ⟨rfl, oc⟩
              go_wp2_with fail
              go_ret
              exact ⟨rfl, HO.out.trans (HO9.out.trans (oa.trans (ob.trans oc (fun _ _ h => h)) (fun _ _ h => h)) (fun _ _ h => h)) (fun _ _ h => h)⟩
          · have hen : (er != 0) = true := by simp [her0]
            clear her0
            go_wp2_with fail
            refine (awake_any _).mono ?_
            rintro e w9 ⟨rfl, o9⟩
            go_wp2_with fail
            go_ret
            exact ⟨rfl, HO.out.trans (HOV.out.trans o9 (fun _ _ h => h)) (fun _ _ h => h)⟩
        · go_simp
          refine hK'.out _ _ (hS.alloc _) (fun hS => ?_)
          clear hK' K'
          have DQ : Cel v4.heap.size 26 #[.int .i64 (zer 0), .int .i64 (zer 1), .int .i64 (zer 2), .int .i64 (zer 3), .int .i64 (zer 4), .int .i64 (zer 5), .int .i64 (zer 6), .int .i64 (zer 7), .slice none 0 0] (v4.alloc (.cells #[.int .i64 0, .int .i64 0, .int .i64 0, .int .i64 0, .int .i64 0, .int .i64 0, .int .i64 0, .int .i64 0, .slice none 0 0] 26)) := (Cel.new v4 _ _)
          have OV0 : Off (fun _ => False) v4 (v4.alloc (.cells #[.int .i64 0, .int .i64 0, .int .i64 0, .int .i64 0, .int .i64 0, .int .i64 0, .int .i64 0, .int .i64 0, .slice none 0 0] 26)) := ((Off.refl _ v4).alloc _)
          have hq9 : W3.heap.size ≤ v4.heap.size := HZ4.out
          have hq7 : v4.heap.size < (v4.alloc (.cells #[.int .i64 0, .int .i64 0, .int .i64 0, .int .i64 0, .int .i64 0, .int .i64 0, .int .i64 0, .int .i64 0, .slice none 0 0] 26)).heap.size := by show _ < (v4.alloc (.cells #[.int .i64 0, .int .i64 0, .int .i64 0, .int .i64 0, .int .i64 0, .int .i64 0, .int .i64 0, .int .i64 0, .slice none 0 0] 26)).heap.size; simp [World.size_alloc]
          generalize hV0 : (v4.alloc (.cells #[.int .i64 0, .int .i64 0, .int .i64 0, .int .i64 0, .int .i64 0, .int .i64 0, .int .i64 0, .int .i64 0, .slice none 0 0] 26)) = V0 at DQ hS hq7 OV0 ⊢
          generalize hQ : v4.heap.size = QQ at DQ hq7 ⊢
          have HQ5QQ : Hid (v4.heap.size ≤ QQ) := by show _ ≤ _; omega
          have HQ6QQ : Hid (W3.heap.size ≤ QQ) := by show _ ≤ _; omega
          have HQ7QQ : Hid (QQ < V0.heap.size) := hq7
          clear hV0 hQ hq9 hq7
          refine wpAnyH_ready (rs := [6]) (by kernel_rfl) (by simp) ?_
          refine AllReadyH.cons rfl (fun K' hK' => ?_) AllReadyH.nil
          go_simp
          have hra := HRA.out.off hS
          refine (sput_any f m a ca l node HNO.out none 0 [] true _ hra (Src.nil _) (by simp) (by simp)).mono ?_
          rintro e v6 ⟨fp, ap, cp, lp, er, rfl, her, hfp, hlp, mdp, o6⟩
          have hS6 := hS.trans o6 (fun _ _ h => h)
          refine hK'.out _ _ hS6 (fun hS => ?_)
          clear hK' K' hS6
          have HER : Hid _ := her
          have HFP : Hid _ := hfp
          have HLP : Hid _ := hlp
          have HMP : Hid _ := mdp
          replace DQ := DQ.off o6 (fun h => h)
          have HZ6 : Hid (W3.heap.size ≤ v6.heap.size) := hS.size
          clear hra her hfp hlp mdp o6
          refine take_at (i := 7) 62 (v := .tuple #[.agg #[.int .i64 (fp 0), .int .i64 (fp 1), .int .i64 (fp 2), .int .i64 (fp 3), .int .i64 (fp 4), .int .i64 (fp 5), .int .i64 (fp 6), .int .i64 (fp 7), .slice ap lp.length cp], .int .i64 er]) rfl rfl (by kernel_rfl) (by kernel_rfl) (by kernel_rfl) (fun _ _ _ h => h) (Or.inl ⟨by rfl, fun w' hw' => by go_simp⟩) hS ?_
          simp only [Act.put, List.setIfInBounds_toArray, List.set_cons_zero, List.set_cons_succ]
          refine take_at (i := 8) 70 (v := .agg #[.int .i64 (fp 0), .int .i64 (fp 1), .int .i64 (fp 2), .int .i64 (fp 3), .int .i64 (fp 4), .int .i64 (fp 5), .int .i64 (fp 6), .int .i64 (fp 7), .slice ap lp.length cp]) rfl rfl (by kernel_rfl) (by kernel_rfl) (by kernel_rfl) (fun _ _ _ h => h) (Or.inl ⟨by rfl, fun w' hw' => by go_simp⟩) hS ?_
          simp only [Act.put, List.setIfInBounds_toArray, List.set_cons_zero, List.set_cons_succ]
          refine take_at (i := 9) 71 (v := .int .i64 er) rfl rfl (by kernel_rfl) (by kernel_rfl) (by kernel_rfl) (fun _ _ _ h => h) (Or.inl ⟨by rfl, fun w' hw' => by go_simp⟩) hS ?_
          simp only [Act.put, List.setIfInBounds_toArray, List.set_cons_zero, List.set_cons_succ]
          obtain ⟨x0, x1, x2, x3, x4, x5, x6, x7, x8⟩ := cel9 DQ
          have fz := DQ.free
          refine wpAnyH_ready (rs := [11]) (by kernel_rfl) (by simp) ?_
          refine AllReadyH.cons rfl (fun K' hK' => ?_) AllReadyH.nil
          go_simp
          have hS5 := hS.st9 (b := QQ) (.inr HQ6QQ.out) fp (.slice ap lp.length cp)
          refine hK'.out _ _ hS5 (fun hS => ?_)
          clear hK' K' hS5
          have ZQ := DQ.st9 fp (.slice ap lp.length cp)
          have OS : Off (fun c => c = QQ) v6 (((((((((v6.setCell ⟨QQ, 0, none⟩ (.int .i64 (fp 0))).setCell ⟨QQ, 1, none⟩ (.int .i64 (fp 1))).setCell ⟨QQ, 2, none⟩ (.int .i64 (fp 2))).setCell ⟨QQ, 3, none⟩ (.int .i64 (fp 3))).setCell ⟨QQ, 4, none⟩ (.int .i64 (fp 4))).setCell ⟨QQ, 5, none⟩ (.int .i64 (fp 5))).setCell ⟨QQ, 6, none⟩ (.int .i64 (fp 6))).setCell ⟨QQ, 7, none⟩ (.int .i64 (fp 7))).setCell ⟨QQ, 8, none⟩ (.slice ap lp.length cp)) := (Off.refl (fun c => c = QQ) v6).st9 (.inl rfl) fp (.slice ap lp.length cp)
          clear DQ fz x0 x1 x2 x3 x4 x5 x6 x7 x8
          generalize hV : (((((((((v6.setCell ⟨QQ, 0, none⟩ (.int .i64 (fp 0))).setCell ⟨QQ, 1, none⟩ (.int .i64 (fp 1))).setCell ⟨QQ, 2, none⟩ (.int .i64 (fp 2))).setCell ⟨QQ, 3, none⟩ (.int .i64 (fp 3))).setCell ⟨QQ, 4, none⟩ (.int .i64 (fp 4))).setCell ⟨QQ, 5, none⟩ (.int .i64 (fp 5))).setCell ⟨QQ, 6, none⟩ (.int .i64 (fp 6))).setCell ⟨QQ, 7, none⟩ (.int .i64 (fp 7))).setCell ⟨QQ, 8, none⟩ (.slice ap lp.length cp)) = V at ZQ hS OS ⊢
          clear hV
          refine take_at (i := 12) 18 (v := .int .i64 er) rfl rfl (by kernel_rfl) (by kernel_rfl) (by kernel_rfl) (fun _ _ _ h => h) (Or.inl ⟨by rfl, fun w' hw' => by go_simp⟩) hS ?_
          simp only [Act.put, List.setIfInBounds_toArray, List.set_cons_zero, List.set_cons_succ]
          have HRP : Hid (Row V ap cp lp) := (HMP.out.offN OS (fun c hc e => by have e' : c = QQ := e; have := HQ7QQ.out; omega)).row
          clear OV0
          refine wpAnyH_done (by kernel_rfl) ?_ _
          have GQ : Hid _ := ZQ
          have HOV : Hid _ := HO3.out.trans hS (fun _ _ h => h)
          clear ZQ hS OS HMP
          obtain ⟨z0, z1, z2, z3, z4, z5, z6, z7⟩ := cel8 (H2.out.off HOV.out (fun h => h))
          by_cases her0 : er = 0
          · subst her0
            obtain ⟨x, hxd, hpl, hmp, hle, hnc⟩ := gone_put HMA.out HM.out HER.out.symm
            have HCP : Hid (cont lp = [x]) := HLP.out.trans hpl
            rw [← HFP.out] at hmp hle
            have HX : Hid _ := And.intro hxd (And.intro hmp (And.intro hle hnc))
            clear hxd hpl hmp hle hnc
            go_wp2_with fail
            clear z0 z1 z2 z3 z4 z5 z6 z7
            refine (fmay_any h _).mono ?_
            cases m3 : mayB h
            · rintro e w8 ⟨rfl, o8⟩
              go_wp2_with fail
              refine (awake_any _).mono ?_
              rintro e w9 ⟨rfl, o9⟩
              go_wp2_with fail
              go_ret
              exact ⟨rfl, HO.out.trans (HOV.out.trans (o8.trans o9 (fun _ _ h => h)) (fun _ _ h => h)) (fun _ _ h => h)⟩
            rintro e w8 ⟨rfl, o8⟩
            have HO8 : Hid _ := HOV.out.trans o8 (fun _ _ h => h)
            have L0 : Hid _ := H0.out.off HO8.out (fun h => h)
            have LQ : Hid _ := GQ.out.off o8 (fun h => h)
            have HRP8 : Hid _ := HRP.out.off o8
            have HRA8 : Hid _ := HR1.out.off HO8.out
            clear o8 GQ HRP
            go_wp2_with fail
            refine wp_region_held_drew (S := fun w' => Off (fun _ => False) w8 w') (by kernel_rfl) ((Off.refl _ w8).drew) (fun hS => ?_)
            refine take_at (i := 0) 80 (v := .agg #[.int .i64 (fp 0), .int .i64 (fp 1), .int .i64 (fp 2), .int .i64 (fp 3), .int .i64 (fp 4), .int .i64 (fp 5), .int .i64 (fp 6), .int .i64 (fp 7), .slice ap lp.length cp]) rfl rfl (by kernel_rfl) (by kernel_rfl) (by kernel_rfl) (fun _ _ _ h => h) (Or.inl ⟨by rfl, fun w' hw' => by obtain ⟨x0, x1, x2, x3, x4, x5, x6, x7, x8⟩ := cel9 (LQ.out.off hw' (fun h => h)); go_simp⟩) hS ?_
            simp only [Act.put, List.setIfInBounds_toArray, List.set_cons_zero, List.set_cons_succ]
            refine take_at (i := 2) 82 (v := .agg #[.int .i64 (f 0), .int .i64 (f 1), .int .i64 (f 2), .int .i64 (f 3), .int .i64 (f 4), .int .i64 (f 5), .int .i64 (f 6), .int .i64 (f 7), .slice a l.length ca]) rfl rfl (by kernel_rfl) (by kernel_rfl) (by kernel_rfl) (fun _ _ _ h => h) (Or.inl ⟨by rfl, fun w' hw' => by obtain ⟨x0, x1, x2, x3, x4, x5, x6, x7, x8⟩ := cel9 (L0.out.off hw' (fun h => h)); go_simp⟩) hS ?_
            simp only [Act.put, List.setIfInBounds_toArray, List.set_cons_zero, List.set_cons_succ]
            refine wpAnyH_ready (rs := [1, 4]) (by kernel_rfl) (by simp) ?_
            refine AllReadyH.cons rfl (fun K' hK' => ?_) (AllReadyH.cons rfl (fun K' hK' => ?_) AllReadyH.nil)
            · go_simp
              have hrp := HRP8.out.off hS
              refine (sreap_any fp ap cp lp _ hrp).mono ?_
              rintro e v1 ⟨fr, ar, cr, lr, rfl, hfr, hlr, mdr, o1⟩
              have hS1 := hS.trans o1 (fun _ _ h => h)
              refine hK'.out _ _ hS1 (fun hS => ?_)
              clear hK' K' hS1
              have HFR : Hid _ := hfr
              have HLR : Hid _ := hlr
              have HRR : Hid _ := mdr.row
              have HZ1 : Hid (w8.heap.size ≤ v1.heap.size) := hS.size
              clear hrp hfr hlr mdr o1
              refine wpAnyH_ready (rs := [3, 4]) (by kernel_rfl) (by simp) ?_
              refine AllReadyH.cons rfl (fun K' hK' => ?_) (AllReadyH.cons rfl (fun K' hK' => ?_) AllReadyH.nil)
              · go_simp
                have hra := HRA8.out.off hS
                have hrr := HRR.out
                refine (sjoin_any fr f ar a cr ca lr l _ hrr hra).mono ?_
                rintro e v3 ⟨fb, ab, cbk, lb, rfl, hfb, hlb, mdb, o3⟩
                have hS3 := hS.trans o3 (fun _ _ h => h)
                refine hK'.out _ _ hS3 (fun hS => ?_)
                clear hK' K' hS3
                have HLB : Hid (((lb.length : Int) == 0) = true) := by
                  have e : cont lb = [] := by rw [hlb, HFR.out, HLR.out, HCP.out]; exact gone_back HMA.out HX.out.2.1 HX.out.1 HX.out.2.2.1
                  have e2 : lb.length = 0 := by have := congrArg List.length e; simpa [cont_len] using this
                  show _ = true
                  rw [e2]
                  rfl
                have HZ3 : Hid (w8.heap.size ≤ v3.heap.size) := hS.size
                clear hra hrr hfb hlb mdb o3
                refine wpAnyH_ready (rs := [4]) (by kernel_rfl) (by simp) ?_
                refine AllReadyH.cons rfl (fun K' hK' => ?_) AllReadyH.nil
                go_simp
                refine hK'.out _ _ (hS.alloc _) (fun hS => ?_)
                clear hK' K'
                have DQ : Cel v3.heap.size 26 #[.int .i64 (zer 0), .int .i64 (zer 1), .int .i64 (zer 2), .int .i64 (zer 3), .int .i64 (zer 4), .int .i64 (zer 5), .int .i64 (zer 6), .int .i64 (zer 7), .slice none 0 0] (v3.alloc (.cells #[.int .i64 0, .int .i64 0, .int .i64 0, .int .i64 0, .int .i64 0, .int .i64 0, .int .i64 0, .int .i64 0, .slice none 0 0] 26)) := (Cel.new v3 _ _)
                have OV0 : Off (fun _ => False) v3 (v3.alloc (.cells #[.int .i64 0, .int .i64 0, .int .i64 0, .int .i64 0, .int .i64 0, .int .i64 0, .int .i64 0, .int .i64 0, .slice none 0 0] 26)) := ((Off.refl _ v3).alloc _)
                have hq9 : w8.heap.size ≤ v3.heap.size := HZ3.out
                have hq7 : v3.heap.size < (v3.alloc (.cells #[.int .i64 0, .int .i64 0, .int .i64 0, .int .i64 0, .int .i64 0, .int .i64 0, .int .i64 0, .int .i64 0, .slice none 0 0] 26)).heap.size := by show _ < (v3.alloc (.cells #[.int .i64 0, .int .i64 0, .int .i64 0, .int .i64 0, .int .i64 0, .int .i64 0, .int .i64 0, .int .i64 0, .slice none 0 0] 26)).heap.size; simp [World.size_alloc]
                generalize hV0 : (v3.alloc (.cells #[.int .i64 0, .int .i64 0, .int .i64 0, .int .i64 0, .int .i64 0, .int .i64 0, .int .i64 0, .int .i64 0, .slice none 0 0] 26)) = V02 at DQ hS hq7 OV0 ⊢
                generalize hQ : v3.heap.size = Q2 at DQ hq7 ⊢
                have HQ5Q2 : Hid (v3.heap.size ≤ Q2) := by show _ ≤ _; omega
                have HQ6Q2 : Hid (w8.heap.size ≤ Q2) := by show _ ≤ _; omega
                have HQ7Q2 : Hid (Q2 < V02.heap.size) := hq7
                clear hV0 hQ hq9 hq7
                obtain ⟨x0, x1, x2, x3, x4, x5, x6, x7, x8⟩ := cel9 DQ
                have fz := DQ.free
                refine wpAnyH_ready (rs := [5]) (by kernel_rfl) (by simp) ?_
                refine AllReadyH.cons rfl (fun K' hK' => ?_) AllReadyH.nil
                go_simp
                have hS5 := hS.st9 (b := Q2) (.inr HQ6Q2.out) fb (.slice ab lb.length cbk)
                refine hK'.out _ _ hS5 (fun hS => ?_)
                clear hK' K' hS5
                have ZQ := DQ.st9 fb (.slice ab lb.length cbk)
                have OS : Off (fun c => c = Q2) V02 (((((((((V02.setCell ⟨Q2, 0, none⟩ (.int .i64 (fb 0))).setCell ⟨Q2, 1, none⟩ (.int .i64 (fb 1))).setCell ⟨Q2, 2, none⟩ (.int .i64 (fb 2))).setCell ⟨Q2, 3, none⟩ (.int .i64 (fb 3))).setCell ⟨Q2, 4, none⟩ (.int .i64 (fb 4))).setCell ⟨Q2, 5, none⟩ (.int .i64 (fb 5))).setCell ⟨Q2, 6, none⟩ (.int .i64 (fb 6))).setCell ⟨Q2, 7, none⟩ (.int .i64 (fb 7))).setCell ⟨Q2, 8, none⟩ (.slice ab lb.length cbk)) := (Off.refl (fun c => c = Q2) V02).st9 (.inl rfl) fb (.slice ab lb.length cbk)
                clear DQ fz x0 x1 x2 x3 x4 x5 x6 x7 x8
                generalize hV : (((((((((V02.setCell ⟨Q2, 0, none⟩ (.int .i64 (fb 0))).setCell ⟨Q2, 1, none⟩ (.int .i64 (fb 1))).setCell ⟨Q2, 2, none⟩ (.int .i64 (fb 2))).setCell ⟨Q2, 3, none⟩ (.int .i64 (fb 3))).setCell ⟨Q2, 4, none⟩ (.int .i64 (fb 4))).setCell ⟨Q2, 5, none⟩ (.int .i64 (fb 5))).setCell ⟨Q2, 6, none⟩ (.int .i64 (fb 6))).setCell ⟨Q2, 7, none⟩ (.int .i64 (fb 7))).setCell ⟨Q2, 8, none⟩ (.slice ab lb.length cbk)) = V2 at ZQ hS OS ⊢
                clear hV
                refine wpAnyH_done (by kernel_rfl) ?_ _
                have HO9 : Hid _ := HO8.out.trans hS (fun _ _ h => h)
                have HRP9 : Hid _ := HRP8.out.off hS
                obtain ⟨x0, x1, x2, x3, x4, x5, x6, x7, x8⟩ := cel9 (LQ.out.off hS (fun h => h))
                obtain ⟨y0, y1, y2, y3, y4, y5, y6, y7, y8⟩ := cel9 ZQ
                obtain ⟨u0, u1, u2, u3, u4, u5, u6, u7, u8⟩ := cel9 (H0.out.off HO9.out (fun h => h))
                have k1 : ((lp.length : Int) == 1) = true := by
                  have e2 : lp.length = 1 := by have := congrArg List.length HCP.out; simpa [cont_len] using this
                  rw [e2]
                  rfl
                have k2 := HLB.out
                clear hS ZQ OS
                go_wp2_with fail
                clear x0 x1 x2 x3 x4 x5 x6 x7 x8 y0 y1 y2 y3 y4 y5 y6 y7 y8 u0 u1 u2 u3 u4 u5 u6 u7 u8 k1 k2
                refine (sjoin_any fp f ap a cp ca lp l _ HRP9.out (HR1.out.off HO9.out)).mono ?_
                rintro e wa ⟨ft, ta, ct, lt, rfl, hft, hlt, mdt, oa⟩
                have HLT : Hid _ := hlt
                have HMT : Hid _ := mdt.row
                clear hft hlt mdt
                go_wp2_with fail
                refine (slive_any ft ta ct lt _ HMT.out).mono ?_
                rintro e wb ⟨tl, cl, bl, rfl, ol, sl, hbl, ob⟩
                have hb0 : ((bl.length : Int) == 0) = true := by
                  have e : liveA (cont lt) = [] := by rw [HLT.out, HCP.out]; exact gone_live HMA.out HX.out.2.1 HX.out.1 HX.out.2.2.1 HX.out.2.2.2
                  rw [e] at hbl
                  have e2 : bl.length = 0 := by have := congrArg List.length hbl; simpa using this
                  rw [e2]
                  rfl
                clear ol sl hbl
                go_wp2_with fail
                refine (awake_any _).mono ?_
                rintro e wc ⟨rfl, oc⟩
                go_wp2_with fail
                go_ret
                exact ⟨rfl, HO.out.trans (HO9.out.trans (oa.trans (ob.trans oc (fun _ _ h => h)) (fun _ _ h => h)) (fun _ _ h => h)) (fun _ _ h => h)⟩
              · go_simp
                refine hK'.out _ _ (hS.alloc _) (fun hS => ?_)
                clear hK' K'
                have DQ : Cel v1.heap.size 26 #[.int .i64 (zer 0), .int .i64 (zer 1), .int .i64 (zer 2), .int .i64 (zer 3), .int .i64 (zer 4), .int .i64 (zer 5), .int .i64 (zer 6), .int .i64 (zer 7), .slice none 0 0] (v1.alloc (.cells #[.int .i64 0, .int .i64 0, .int .i64 0, .int .i64 0, .int .i64 0, .int .i64 0, .int .i64 0, .int .i64 0, .slice none 0 0] 26)) := (Cel.new v1 _ _)
                have OV0 : Off (fun _ => False) v1 (v1.alloc (.cells #[.int .i64 0, .int .i64 0, .int .i64 0, .int .i64 0, .int .i64 0, .int .i64 0, .int .i64 0, .int .i64 0, .slice none 0 0] 26)) := ((Off.refl _ v1).alloc _)
                have hq9 : w8.heap.size ≤ v1.heap.size := HZ1.out
                have hq7 : v1.heap.size < (v1.alloc (.cells #[.int .i64 0, .int .i64 0, .int .i64 0, .int .i64 0, .int .i64 0, .int .i64 0, .int .i64 0, .int .i64 0, .slice none 0 0] 26)).heap.size := by show _ < (v1.alloc (.cells #[.int .i64 0, .int .i64 0, .int .i64 0, .int .i64 0, .int .i64 0, .int .i64 0, .int .i64 0, .int .i64 0, .slice none 0 0] 26)).heap.size; simp [World.size_alloc]
                generalize hV0 : (v1.alloc (.cells #[.int .i64 0, .int .i64 0, .int .i64 0, .int .i64 0, .int .i64 0, .int .i64 0, .int .i64 0, .int .i64 0, .slice none 0 0] 26)) = V02 at DQ hS hq7 OV0 ⊢
                generalize hQ : v1.heap.size = Q2 at DQ hq7 ⊢
                have HQ5Q2 : Hid (v1.heap.size ≤ Q2) := by show _ ≤ _; omega
                have HQ6Q2 : Hid (w8.heap.size ≤ Q2) := by show _ ≤ _; omega
                have HQ7Q2 : Hid (Q2 < V02.heap.size) := hq7
                clear hV0 hQ hq9 hq7
                refine wpAnyH_ready (rs := [3]) (by kernel_rfl) (by simp) ?_
                refine AllReadyH.cons rfl (fun K' hK' => ?_) AllReadyH.nil
                go_simp
                have hra := HRA8.out.off hS
                have hrr := HRR.out.off OV0
                refine (sjoin_any fr f ar a cr ca lr l _ hrr hra).mono ?_
                rintro e v3 ⟨fb, ab, cbk, lb, rfl, hfb, hlb, mdb, o3⟩
                have hS3 := hS.trans o3 (fun _ _ h => h)
                refine hK'.out _ _ hS3 (fun hS => ?_)
                clear hK' K' hS3
                have HLB : Hid (((lb.length : Int) == 0) = true) := by
                  have e : cont lb = [] := by rw [hlb, HFR.out, HLR.out, HCP.out]; exact gone_back HMA.out HX.out.2.1 HX.out.1 HX.out.2.2.1
                  have e2 : lb.length = 0 := by have := congrArg List.length e; simpa [cont_len] using this
                  show _ = true
                  rw [e2]
                  rfl
                replace DQ := DQ.off o3 (fun h => h)
                have HZ3 : Hid (w8.heap.size ≤ v3.heap.size) := hS.size
                clear hra hrr hfb hlb mdb o3
                obtain ⟨x0, x1, x2, x3, x4, x5, x6, x7, x8⟩ := cel9 DQ
                have fz := DQ.free
                refine wpAnyH_ready (rs := [5]) (by kernel_rfl) (by simp) ?_
                refine AllReadyH.cons rfl (fun K' hK' => ?_) AllReadyH.nil
                go_simp
                have hS5 := hS.st9 (b := Q2) (.inr HQ6Q2.out) fb (.slice ab lb.length cbk)
                refine hK'.out _ _ hS5 (fun hS => ?_)
                clear hK' K' hS5
                have ZQ := DQ.st9 fb (.slice ab lb.length cbk)
                have OS : Off (fun c => c = Q2) v3 (((((((((v3.setCell ⟨Q2, 0, none⟩ (.int .i64 (fb 0))).setCell ⟨Q2, 1, none⟩ (.int .i64 (fb 1))).setCell ⟨Q2, 2, none⟩ (.int .i64 (fb 2))).setCell ⟨Q2, 3, none⟩ (.int .i64 (fb 3))).setCell ⟨Q2, 4, none⟩ (.int .i64 (fb 4))).setCell ⟨Q2, 5, none⟩ (.int .i64 (fb 5))).setCell ⟨Q2, 6, none⟩ (.int .i64 (fb 6))).setCell ⟨Q2, 7, none⟩ (.int .i64 (fb 7))).setCell ⟨Q2, 8, none⟩ (.slice ab lb.length cbk)) := (Off.refl (fun c => c = Q2) v3).st9 (.inl rfl) fb (.slice ab lb.length cbk)
                clear DQ fz x0 x1 x2 x3 x4 x5 x6 x7 x8
                generalize hV : (((((((((v3.setCell ⟨Q2, 0, none⟩ (.int .i64 (fb 0))).setCell ⟨Q2, 1, none⟩ (.int .i64 (fb 1))).setCell ⟨Q2, 2, none⟩ (.int .i64 (fb 2))).setCell ⟨Q2, 3, none⟩ (.int .i64 (fb 3))).setCell ⟨Q2, 4, none⟩ (.int .i64 (fb 4))).setCell ⟨Q2, 5, none⟩ (.int .i64 (fb 5))).setCell ⟨Q2, 6, none⟩ (.int .i64 (fb 6))).setCell ⟨Q2, 7, none⟩ (.int .i64 (fb 7))).setCell ⟨Q2, 8, none⟩ (.slice ab lb.length cbk)) = V2 at ZQ hS OS ⊢
                clear hV
                refine wpAnyH_done (by kernel_rfl) ?_ _
                have HO9 : Hid _ := HO8.out.trans hS (fun _ _ h => h)
                have HRP9 : Hid _ := HRP8.out.off hS
                obtain ⟨x0, x1, x2, x3, x4, x5, x6, x7, x8⟩ := cel9 (LQ.out.off hS (fun h => h))
                obtain ⟨y0, y1, y2, y3, y4, y5, y6, y7, y8⟩ := cel9 ZQ
                obtain ⟨u0, u1, u2, u3, u4, u5, u6, u7, u8⟩ := cel9 (H0.out.off HO9.out (fun h => h))
                have k1 : ((lp.length : Int) == 1) = true := by
                  have e2 : lp.length = 1 := by have := congrArg List.length HCP.out; simpa [cont_len] using this
                  rw [e2]
                  rfl
                have k2 := HLB.out
                clear hS ZQ OS
                go_wp2_with fail
                clear x0 x1 x2 x3 x4 x5 x6 x7 x8 y0 y1 y2 y3 y4 y5 y6 y7 y8 u0 u1 u2 u3 u4 u5 u6 u7 u8 k1 k2
                refine (sjoin_any fp f ap a cp ca lp l _ HRP9.out (HR1.out.off HO9.out)).mono ?_
                rintro e wa ⟨ft, ta, ct, lt, rfl, hft, hlt, mdt, oa⟩
                have HLT : Hid _ := hlt
                have HMT : Hid _ := mdt.row
                clear hft hlt mdt
                go_wp2_with fail
                refine (slive_any ft ta ct lt _ HMT.out).mono ?_
                rintro e wb ⟨tl, cl, bl, rfl, ol, sl, hbl, ob⟩
                have hb0 : ((bl.length : Int) == 0) = true := by
                  have e : liveA (cont lt) = [] := by rw [HLT.out, HCP.out]; exact gone_live HMA.out HX.out.2.1 HX.out.1 HX.out.2.2.1 HX.out.2.2.2
                  rw [e] at hbl
                  have e2 : bl.length = 0 := by have := congrArg List.length hbl; simpa using this
                  rw [e2]
                  rfl
                clear ol sl hbl
                go_wp2_with fail
                refine (awake_any _).mono ?_
                rintro e wc ⟨rfl, oc⟩
                go_wp2_with fail
                go_ret
                exact ⟨rfl, HO.out.trans (HO9.out.trans (oa.trans (ob.trans oc (fun _ _ h => h)) (fun _ _ h => h)) (fun _ _ h => h)) (fun _ _ h => h)⟩
            · go_simp
              refine hK'.out _ _ (hS.alloc _) (fun hS => ?_)
              clear hK' K'
              have DQ : Cel w8.heap.size 26 #[.int .i64 (zer 0), .int .i64 (zer 1), .int .i64 (zer 2), .int .i64 (zer 3), .int .i64 (zer 4), .int .i64 (zer 5), .int .i64 (zer 6), .int .i64 (zer 7), .slice none 0 0] (w8.alloc (.cells #[.int .i64 0, .int .i64 0, .int .i64 0, .int .i64 0, .int .i64 0, .int .i64 0, .int .i64 0, .int .i64 0, .slice none 0 0] 26)).drew := (Cel.new w8 _ _).drew
              have OV0 : Off (fun _ => False) w8 (w8.alloc (.cells #[.int .i64 0, .int .i64 0, .int .i64 0, .int .i64 0, .int .i64 0, .int .i64 0, .int .i64 0, .int .i64 0, .slice none 0 0] 26)).drew := ((Off.refl _ w8).alloc _).drew
              have hq9 : w8.heap.size ≤ w8.heap.size := Nat.le_refl _
              have hq7 : w8.heap.size < (w8.alloc (.cells #[.int .i64 0, .int .i64 0, .int .i64 0, .int .i64 0, .int .i64 0, .int .i64 0, .int .i64 0, .int .i64 0, .slice none 0 0] 26)).drew.heap.size := by show _ < (w8.alloc (.cells #[.int .i64 0, .int .i64 0, .int .i64 0, .int .i64 0, .int .i64 0, .int .i64 0, .int .i64 0, .int .i64 0, .slice none 0 0] 26)).heap.size; simp [World.size_alloc]
              generalize hV0 : (w8.alloc (.cells #[.int .i64 0, .int .i64 0, .int .i64 0, .int .i64 0, .int .i64 0, .int .i64 0, .int .i64 0, .int .i64 0, .slice none 0 0] 26)).drew = V02 at DQ hS hq7 OV0 ⊢
              generalize hQ : w8.heap.size = Q2 at DQ hq7 ⊢
              have HQ5Q2 : Hid (w8.heap.size ≤ Q2) := by show _ ≤ _; omega
              have HQ6Q2 : Hid (w8.heap.size ≤ Q2) := by show _ ≤ _; omega
              have HQ7Q2 : Hid (Q2 < V02.heap.size) := hq7
              clear hV0 hQ hq9 hq7
              refine wpAnyH_ready (rs := [1]) (by kernel_rfl) (by simp) ?_
              refine AllReadyH.cons rfl (fun K' hK' => ?_) AllReadyH.nil
              go_simp
              have hrp := HRP8.out.off hS
              refine (sreap_any fp ap cp lp _ hrp).mono ?_
              rintro e v1 ⟨fr, ar, cr, lr, rfl, hfr, hlr, mdr, o1⟩
              have hS1 := hS.trans o1 (fun _ _ h => h)
              refine hK'.out _ _ hS1 (fun hS => ?_)
              clear hK' K' hS1
              have HFR : Hid _ := hfr
              have HLR : Hid _ := hlr
              have HRR : Hid _ := mdr.row
              replace DQ := DQ.off o1 (fun h => h)
              have HZ1 : Hid (w8.heap.size ≤ v1.heap.size) := hS.size
              clear hrp hfr hlr mdr o1
              refine wpAnyH_ready (rs := [3]) (by kernel_rfl) (by simp) ?_
              refine AllReadyH.cons rfl (fun K' hK' => ?_) AllReadyH.nil
              go_simp
              have hra := HRA8.out.off hS
              have hrr := HRR.out
              refine (sjoin_any fr f ar a cr ca lr l _ hrr hra).mono ?_
              rintro e v3 ⟨fb, ab, cbk, lb, rfl, hfb, hlb, mdb, o3⟩
              have hS3 := hS.trans o3 (fun _ _ h => h)
              refine hK'.out _ _ hS3 (fun hS => ?_)
              clear hK' K' hS3
              have HLB : Hid (((lb.length : Int) == 0) = true) := by
                have e : cont lb = [] := by rw [hlb, HFR.out, HLR.out, HCP.out]; exact gone_back HMA.out HX.out.2.1 HX.out.1 HX.out.2.2.1
                have e2 : lb.length = 0 := by have := congrArg List.length e; simpa [cont_len] using this
                show _ = true
                rw [e2]
                rfl
              replace DQ := DQ.off o3 (fun h => h)
              have HZ3 : Hid (w8.heap.size ≤ v3.heap.size) := hS.size
              clear hra hrr hfb hlb mdb o3
              obtain ⟨x0, x1, x2, x3, x4, x5, x6, x7, x8⟩ := cel9 DQ
              have fz := DQ.free
              refine wpAnyH_ready (rs := [5]) (by kernel_rfl) (by simp) ?_
              refine AllReadyH.cons rfl (fun K' hK' => ?_) AllReadyH.nil
              go_simp
              have hS5 := hS.st9 (b := Q2) (.inr HQ6Q2.out) fb (.slice ab lb.length cbk)
              refine hK'.out _ _ hS5 (fun hS => ?_)
              clear hK' K' hS5
              have ZQ := DQ.st9 fb (.slice ab lb.length cbk)
              have OS : Off (fun c => c = Q2) v3 (((((((((v3.setCell ⟨Q2, 0, none⟩ (.int .i64 (fb 0))).setCell ⟨Q2, 1, none⟩ (.int .i64 (fb 1))).setCell ⟨Q2, 2, none⟩ (.int .i64 (fb 2))).setCell ⟨Q2, 3, none⟩ (.int .i64 (fb 3))).setCell ⟨Q2, 4, none⟩ (.int .i64 (fb 4))).setCell ⟨Q2, 5, none⟩ (.int .i64 (fb 5))).setCell ⟨Q2, 6, none⟩ (.int .i64 (fb 6))).setCell ⟨Q2, 7, none⟩ (.int .i64 (fb 7))).setCell ⟨Q2, 8, none⟩ (.slice ab lb.length cbk)) := (Off.refl (fun c => c = Q2) v3).st9 (.inl rfl) fb (.slice ab lb.length cbk)
              clear DQ fz x0 x1 x2 x3 x4 x5 x6 x7 x8
              generalize hV : (((((((((v3.setCell ⟨Q2, 0, none⟩ (.int .i64 (fb 0))).setCell ⟨Q2, 1, none⟩ (.int .i64 (fb 1))).setCell ⟨Q2, 2, none⟩ (.int .i64 (fb 2))).setCell ⟨Q2, 3, none⟩ (.int .i64 (fb 3))).setCell ⟨Q2, 4, none⟩ (.int .i64 (fb 4))).setCell ⟨Q2, 5, none⟩ (.int .i64 (fb 5))).setCell ⟨Q2, 6, none⟩ (.int .i64 (fb 6))).setCell ⟨Q2, 7, none⟩ (.int .i64 (fb 7))).setCell ⟨Q2, 8, none⟩ (.slice ab lb.length cbk)) = V2 at ZQ hS OS ⊢
              clear hV
              refine wpAnyH_done (by kernel_rfl) ?_ _
              have HO9 : Hid _ := HO8.out.trans hS (fun _ _ h => h)
              have HRP9 : Hid _ := HRP8.out.off hS
              obtain ⟨x0, x1, x2, x3, x4, x5, x6, x7, x8⟩ := cel9 (LQ.out.off hS (fun h => h))
              obtain ⟨y0, y1, y2, y3, y4, y5, y6, y7, y8⟩ := cel9 ZQ
              obtain ⟨u0, u1, u2, u3, u4, u5, u6, u7, u8⟩ := cel9 (H0.out.off HO9.out (fun h => h))
              have k1 : ((lp.length : Int) == 1) = true := by
                have e2 : lp.length = 1 := by have := congrArg List.length HCP.out; simpa [cont_len] using this
                rw [e2]
                rfl
              have k2 := HLB.out
              clear hS ZQ OS
              go_wp2_with fail
              clear x0 x1 x2 x3 x4 x5 x6 x7 x8 y0 y1 y2 y3 y4 y5 y6 y7 y8 u0 u1 u2 u3 u4 u5 u6 u7 u8 k1 k2
              refine (sjoin_any fp f ap a cp ca lp l _ HRP9.out (HR1.out.off HO9.out)).mono ?_
              rintro e wa ⟨ft, ta, ct, lt, rfl, hft, hlt, mdt, oa⟩
              have HLT : Hid _ := hlt
              have HMT : Hid _ := mdt.row
              clear hft hlt mdt
              go_wp2_with fail
              refine (slive_any ft ta ct lt _ HMT.out).mono ?_
              rintro e wb ⟨tl, cl, bl, rfl, ol, sl, hbl, ob⟩
              have hb0 : ((bl.length : Int) == 0) = true := by
                have e : liveA (cont lt) = [] := by rw [HLT.out, HCP.out]; exact gone_live HMA.out HX.out.2.1 HX.out.1 HX.out.2.2.1 HX.out.2.2.2
                rw [e] at hbl
                have e2 : bl.length = 0 := by have := congrArg List.length hbl; simpa using this
                rw [e2]
                rfl
              clear ol sl hbl
              go_wp2_with fail
              refine (awake_any _).mono ?_
              rintro e wc ⟨rfl, oc⟩
              go_wp2_with fail
              go_ret
              exact ⟨rfl, HO.out.trans (HO9.out.trans (oa.trans (ob.trans oc (fun _ _ h => h)) (fun _ _ h => h)) (fun _ _ h => h)) (fun _ _ h => h)⟩
          · have hen : (er != 0) = true := by simp [her0]
            clear her0
            go_wp2_with fail
            refine (awake_any _).mono ?_
            rintro e w9 ⟨rfl, o9⟩
            go_wp2_with fail
            go_ret
            exact ⟨rfl, HO.out.trans (HOV.out.trans o9 (fun _ _ h => h)) (fun _ _ h => h)⟩
      · go_simp
        refine hK'.out _ _ (hS.alloc _) (fun hS => ?_)
        clear hK' K'
        have DQ : Cel W3.heap.size 26 #[.int .i64 (zer 0), .int .i64 (zer 1), .int .i64 (zer 2), .int .i64 (zer 3), .int .i64 (zer 4), .int .i64 (zer 5), .int .i64 (zer 6), .int .i64 (zer 7), .slice none 0 0] (W3.alloc (.cells #[.int .i64 0, .int .i64 0, .int .i64 0, .int .i64 0, .int .i64 0, .int .i64 0, .int .i64 0, .int .i64 0, .slice none 0 0] 26)).drew := (Cel.new W3 _ _).drew
        have OV0 : Off (fun _ => False) W3 (W3.alloc (.cells #[.int .i64 0, .int .i64 0, .int .i64 0, .int .i64 0, .int .i64 0, .int .i64 0, .int .i64 0, .int .i64 0, .slice none 0 0] 26)).drew := ((Off.refl _ W3).alloc _).drew
        have hq9 : W3.heap.size ≤ W3.heap.size := Nat.le_refl _
        have hq7 : W3.heap.size < (W3.alloc (.cells #[.int .i64 0, .int .i64 0, .int .i64 0, .int .i64 0, .int .i64 0, .int .i64 0, .int .i64 0, .int .i64 0, .slice none 0 0] 26)).drew.heap.size := by show _ < (W3.alloc (.cells #[.int .i64 0, .int .i64 0, .int .i64 0, .int .i64 0, .int .i64 0, .int .i64 0, .int .i64 0, .int .i64 0, .slice none 0 0] 26)).heap.size; simp [World.size_alloc]
        generalize hV0 : (W3.alloc (.cells #[.int .i64 0, .int .i64 0, .int .i64 0, .int .i64 0, .int .i64 0, .int .i64 0, .int .i64 0, .int .i64 0, .slice none 0 0] 26)).drew = V0 at DQ hS hq7 OV0 ⊢
        generalize hQ : W3.heap.size = QQ at DQ hq7 ⊢
        have HQ5QQ : Hid (W3.heap.size ≤ QQ) := by show _ ≤ _; omega
        have HQ6QQ : Hid (W3.heap.size ≤ QQ) := by show _ ≤ _; omega
        have HQ7QQ : Hid (QQ < V0.heap.size) := hq7
        clear hV0 hQ hq9 hq7
        refine wpAnyH_ready (rs := [4]) (by kernel_rfl) (by simp) ?_
        refine AllReadyH.cons rfl (fun K' hK' => ?_) AllReadyH.nil
        go_simp
        refine (join_any f h _).mono ?_
        rintro e v4 ⟨m, rfl, hm, o4⟩
        have hS4 := hS.trans o4 (fun _ _ h => h)
        refine hK'.out _ _ hS4 (fun hS => ?_)
        clear hK' K' hS4
        have HM : Hid (∀ j, j < 8 → f j ≤ m j) := fun j hj => by rw [hm j hj]; omega
        replace DQ := DQ.off o4 (fun h => h)
        have HQ4 : Hid (QQ < v4.heap.size) := by have := HQ7QQ.out; have := o4.size; show _ < _; omega
        have HZ4 : Hid (W3.heap.size ≤ v4.heap.size) := hS.size
        clear hm o4
        refine wpAnyH_ready (rs := [6]) (by kernel_rfl) (by simp) ?_
        refine AllReadyH.cons rfl (fun K' hK' => ?_) AllReadyH.nil
        go_simp
        have hra := HRA.out.off hS
        refine (sput_any f m a ca l node HNO.out none 0 [] true _ hra (Src.nil _) (by simp) (by simp)).mono ?_
        rintro e v6 ⟨fp, ap, cp, lp, er, rfl, her, hfp, hlp, mdp, o6⟩
        have hS6 := hS.trans o6 (fun _ _ h => h)
        refine hK'.out _ _ hS6 (fun hS => ?_)
        clear hK' K' hS6
        have HER : Hid _ := her
        have HFP : Hid _ := hfp
        have HLP : Hid _ := hlp
        have HMP : Hid _ := mdp
        replace DQ := DQ.off o6 (fun h => h)
        have HZ6 : Hid (W3.heap.size ≤ v6.heap.size) := hS.size
        clear hra her hfp hlp mdp o6
        refine take_at (i := 7) 62 (v := .tuple #[.agg #[.int .i64 (fp 0), .int .i64 (fp 1), .int .i64 (fp 2), .int .i64 (fp 3), .int .i64 (fp 4), .int .i64 (fp 5), .int .i64 (fp 6), .int .i64 (fp 7), .slice ap lp.length cp], .int .i64 er]) rfl rfl (by kernel_rfl) (by kernel_rfl) (by kernel_rfl) (fun _ _ _ h => h) (Or.inl ⟨by rfl, fun w' hw' => by go_simp⟩) hS ?_
        simp only [Act.put, List.setIfInBounds_toArray, List.set_cons_zero, List.set_cons_succ]
        refine take_at (i := 8) 70 (v := .agg #[.int .i64 (fp 0), .int .i64 (fp 1), .int .i64 (fp 2), .int .i64 (fp 3), .int .i64 (fp 4), .int .i64 (fp 5), .int .i64 (fp 6), .int .i64 (fp 7), .slice ap lp.length cp]) rfl rfl (by kernel_rfl) (by kernel_rfl) (by kernel_rfl) (fun _ _ _ h => h) (Or.inl ⟨by rfl, fun w' hw' => by go_simp⟩) hS ?_
        simp only [Act.put, List.setIfInBounds_toArray, List.set_cons_zero, List.set_cons_succ]
        refine take_at (i := 9) 71 (v := .int .i64 er) rfl rfl (by kernel_rfl) (by kernel_rfl) (by kernel_rfl) (fun _ _ _ h => h) (Or.inl ⟨by rfl, fun w' hw' => by go_simp⟩) hS ?_
        simp only [Act.put, List.setIfInBounds_toArray, List.set_cons_zero, List.set_cons_succ]
        obtain ⟨x0, x1, x2, x3, x4, x5, x6, x7, x8⟩ := cel9 DQ
        have fz := DQ.free
        refine wpAnyH_ready (rs := [11]) (by kernel_rfl) (by simp) ?_
        refine AllReadyH.cons rfl (fun K' hK' => ?_) AllReadyH.nil
        go_simp
        have hS5 := hS.st9 (b := QQ) (.inr HQ6QQ.out) fp (.slice ap lp.length cp)
        refine hK'.out _ _ hS5 (fun hS => ?_)
        clear hK' K' hS5
        have ZQ := DQ.st9 fp (.slice ap lp.length cp)
        have OS : Off (fun c => c = QQ) v6 (((((((((v6.setCell ⟨QQ, 0, none⟩ (.int .i64 (fp 0))).setCell ⟨QQ, 1, none⟩ (.int .i64 (fp 1))).setCell ⟨QQ, 2, none⟩ (.int .i64 (fp 2))).setCell ⟨QQ, 3, none⟩ (.int .i64 (fp 3))).setCell ⟨QQ, 4, none⟩ (.int .i64 (fp 4))).setCell ⟨QQ, 5, none⟩ (.int .i64 (fp 5))).setCell ⟨QQ, 6, none⟩ (.int .i64 (fp 6))).setCell ⟨QQ, 7, none⟩ (.int .i64 (fp 7))).setCell ⟨QQ, 8, none⟩ (.slice ap lp.length cp)) := (Off.refl (fun c => c = QQ) v6).st9 (.inl rfl) fp (.slice ap lp.length cp)
        clear DQ fz x0 x1 x2 x3 x4 x5 x6 x7 x8
        generalize hV : (((((((((v6.setCell ⟨QQ, 0, none⟩ (.int .i64 (fp 0))).setCell ⟨QQ, 1, none⟩ (.int .i64 (fp 1))).setCell ⟨QQ, 2, none⟩ (.int .i64 (fp 2))).setCell ⟨QQ, 3, none⟩ (.int .i64 (fp 3))).setCell ⟨QQ, 4, none⟩ (.int .i64 (fp 4))).setCell ⟨QQ, 5, none⟩ (.int .i64 (fp 5))).setCell ⟨QQ, 6, none⟩ (.int .i64 (fp 6))).setCell ⟨QQ, 7, none⟩ (.int .i64 (fp 7))).setCell ⟨QQ, 8, none⟩ (.slice ap lp.length cp)) = V at ZQ hS OS ⊢
        clear hV
        refine take_at (i := 12) 18 (v := .int .i64 er) rfl rfl (by kernel_rfl) (by kernel_rfl) (by kernel_rfl) (fun _ _ _ h => h) (Or.inl ⟨by rfl, fun w' hw' => by go_simp⟩) hS ?_
        simp only [Act.put, List.setIfInBounds_toArray, List.set_cons_zero, List.set_cons_succ]
        have HRP : Hid (Row V ap cp lp) := (HMP.out.offN OS (fun c hc e => by have e' : c = QQ := e; have := HQ4.out; omega)).row
        clear OV0
        refine wpAnyH_done (by kernel_rfl) ?_ _
        have GQ : Hid _ := ZQ
        have HOV : Hid _ := HO3.out.trans hS (fun _ _ h => h)
        clear ZQ hS OS HMP
        obtain ⟨z0, z1, z2, z3, z4, z5, z6, z7⟩ := cel8 (H2.out.off HOV.out (fun h => h))
        by_cases her0 : er = 0
        · subst her0
          obtain ⟨x, hxd, hpl, hmp, hle, hnc⟩ := gone_put HMA.out HM.out HER.out.symm
          have HCP : Hid (cont lp = [x]) := HLP.out.trans hpl
          rw [← HFP.out] at hmp hle
          have HX : Hid _ := And.intro hxd (And.intro hmp (And.intro hle hnc))
          clear hxd hpl hmp hle hnc
          go_wp2_with fail
          clear z0 z1 z2 z3 z4 z5 z6 z7
          refine (fmay_any h _).mono ?_
          cases m3 : mayB h
          · rintro e w8 ⟨rfl, o8⟩
            go_wp2_with fail
            refine (awake_any _).mono ?_
            rintro e w9 ⟨rfl, o9⟩
            go_wp2_with fail
            go_ret
            exact ⟨rfl, HO.out.trans (HOV.out.trans (o8.trans o9 (fun _ _ h => h)) (fun _ _ h => h)) (fun _ _ h => h)⟩
          rintro e w8 ⟨rfl, o8⟩
          have HO8 : Hid _ := HOV.out.trans o8 (fun _ _ h => h)
          have L0 : Hid _ := H0.out.off HO8.out (fun h => h)
          have LQ : Hid _ := GQ.out.off o8 (fun h => h)
          have HRP8 : Hid _ := HRP.out.off o8
          have HRA8 : Hid _ := HR1.out.off HO8.out
          clear o8 GQ HRP
          go_wp2_with fail
          refine wp_region_held_drew (S := fun w' => Off (fun _ => False) w8 w') (by kernel_rfl) ((Off.refl _ w8).drew) (fun hS => ?_)
          refine take_at (i := 0) 80 (v := .agg #[.int .i64 (fp 0), .int .i64 (fp 1), .int .i64 (fp 2), .int .i64 (fp 3), .int .i64 (fp 4), .int .i64 (fp 5), .int .i64 (fp 6), .int .i64 (fp 7), .slice ap lp.length cp]) rfl rfl (by kernel_rfl) (by kernel_rfl) (by kernel_rfl) (fun _ _ _ h => h) (Or.inl ⟨by rfl, fun w' hw' => by obtain ⟨x0, x1, x2, x3, x4, x5, x6, x7, x8⟩ := cel9 (LQ.out.off hw' (fun h => h)); go_simp⟩) hS ?_
          simp only [Act.put, List.setIfInBounds_toArray, List.set_cons_zero, List.set_cons_succ]
          refine take_at (i := 2) 82 (v := .agg #[.int .i64 (f 0), .int .i64 (f 1), .int .i64 (f 2), .int .i64 (f 3), .int .i64 (f 4), .int .i64 (f 5), .int .i64 (f 6), .int .i64 (f 7), .slice a l.length ca]) rfl rfl (by kernel_rfl) (by kernel_rfl) (by kernel_rfl) (fun _ _ _ h => h) (Or.inl ⟨by rfl, fun w' hw' => by obtain ⟨x0, x1, x2, x3, x4, x5, x6, x7, x8⟩ := cel9 (L0.out.off hw' (fun h => h)); go_simp⟩) hS ?_
          simp only [Act.put, List.setIfInBounds_toArray, List.set_cons_zero, List.set_cons_succ]
          refine wpAnyH_ready (rs := [1, 4]) (by kernel_rfl) (by simp) ?_
          refine AllReadyH.cons rfl (fun K' hK' => ?_) (AllReadyH.cons rfl (fun K' hK' => ?_) AllReadyH.nil)
          · go_simp
            have hrp := HRP8.out.off hS
            refine (sreap_any fp ap cp lp _ hrp).mono ?_
            rintro e v1 ⟨fr, ar, cr, lr, rfl, hfr, hlr, mdr, o1⟩
            have hS1 := hS.trans o1 (fun _ _ h => h)
            refine hK'.out _ _ hS1 (fun hS => ?_)
            clear hK' K' hS1
            have HFR : Hid _ := hfr
            have HLR : Hid _ := hlr
            have HRR : Hid _ := mdr.row
            have HZ1 : Hid (w8.heap.size ≤ v1.heap.size) := hS.size
            clear hrp hfr hlr mdr o1
            refine wpAnyH_ready (rs := [3, 4]) (by kernel_rfl) (by simp) ?_
            refine AllReadyH.cons rfl (fun K' hK' => ?_) (AllReadyH.cons rfl (fun K' hK' => ?_) AllReadyH.nil)
            · go_simp
              have hra := HRA8.out.off hS
              have hrr := HRR.out
              refine (sjoin_any fr f ar a cr ca lr l _ hrr hra).mono ?_
              rintro e v3 ⟨fb, ab, cbk, lb, rfl, hfb, hlb, mdb, o3⟩
              have hS3 := hS.trans o3 (fun _ _ h => h)
              refine hK'.out _ _ hS3 (fun hS => ?_)
              clear hK' K' hS3
              have HLB : Hid (((lb.length : Int) == 0) = true) := by
                have e : cont lb = [] := by rw [hlb, HFR.out, HLR.out, HCP.out]; exact gone_back HMA.out HX.out.2.1 HX.out.1 HX.out.2.2.1
                have e2 : lb.length = 0 := by have := congrArg List.length e; simpa [cont_len] using this
                show _ = true
                rw [e2]
                rfl
              have HZ3 : Hid (w8.heap.size ≤ v3.heap.size) := hS.size
              clear hra hrr hfb hlb mdb o3
              refine wpAnyH_ready (rs := [4]) (by kernel_rfl) (by simp) ?_
              refine AllReadyH.cons rfl (fun K' hK' => ?_) AllReadyH.nil
              go_simp
              refine hK'.out _ _ (hS.alloc _) (fun hS => ?_)
              clear hK' K'
              have DQ : Cel v3.heap.size 26 #[.int .i64 (zer 0), .int .i64 (zer 1), .int .i64 (zer 2), .int .i64 (zer 3), .int .i64 (zer 4), .int .i64 (zer 5), .int .i64 (zer 6), .int .i64 (zer 7), .slice none 0 0] (v3.alloc (.cells #[.int .i64 0, .int .i64 0, .int .i64 0, .int .i64 0, .int .i64 0, .int .i64 0, .int .i64 0, .int .i64 0, .slice none 0 0] 26)) := (Cel.new v3 _ _)
              have OV0 : Off (fun _ => False) v3 (v3.alloc (.cells #[.int .i64 0, .int .i64 0, .int .i64 0, .int .i64 0, .int .i64 0, .int .i64 0, .int .i64 0, .int .i64 0, .slice none 0 0] 26)) := ((Off.refl _ v3).alloc _)
              have hq9 : w8.heap.size ≤ v3.heap.size := HZ3.out
              have hq7 : v3.heap.size < (v3.alloc (.cells #[.int .i64 0, .int .i64 0, .int .i64 0, .int .i64 0, .int .i64 0, .int .i64 0, .int .i64 0, .int .i64 0, .slice none 0 0] 26)).heap.size := by show _ < (v3.alloc (.cells #[.int .i64 0, .int .i64 0, .int .i64 0, .int .i64 0, .int .i64 0, .int .i64 0, .int .i64 0, .int .i64 0, .slice none 0 0] 26)).heap.size; simp [World.size_alloc]
              generalize hV0 : (v3.alloc (.cells #[.int .i64 0, .int .i64 0, .int .i64 0, .int .i64 0, .int .i64 0, .int .i64 0, .int .i64 0, .int .i64 0, .slice none 0 0] 26)) = V02 at DQ hS hq7 OV0 ⊢
              generalize hQ : v3.heap.size = Q2 at DQ hq7 ⊢
              have HQ5Q2 : Hid (v3.heap.size ≤ Q2) := by show _ ≤ _; omega
              have HQ6Q2 : Hid (w8.heap.size ≤ Q2) := by show _ ≤ _; omega
              have HQ7Q2 : Hid (Q2 < V02.heap.size) := hq7
              clear hV0 hQ hq9 hq7
              obtain ⟨x0, x1, x2, x3, x4, x5, x6, x7, x8⟩ := cel9 DQ
              have fz := DQ.free
              refine wpAnyH_ready (rs := [5]) (by kernel_rfl) (by simp) ?_
              refine AllReadyH.cons rfl (fun K' hK' => ?_) AllReadyH.nil
              go_simp
              have hS5 := hS.st9 (b := Q2) (.inr HQ6Q2.out) fb (.slice ab lb.length cbk)
              refine hK'.out _ _ hS5 (fun hS => ?_)
              clear hK' K' hS5
              have ZQ := DQ.st9 fb (.slice ab lb.length cbk)
              have OS : Off (fun c => c = Q2) V02 (((((((((V02.setCell ⟨Q2, 0, none⟩ (.int .i64 (fb 0))).setCell ⟨Q2, 1, none⟩ (.int .i64 (fb 1))).setCell ⟨Q2, 2, none⟩ (.int .i64 (fb 2))).setCell ⟨Q2, 3, none⟩ (.int .i64 (fb 3))).setCell ⟨Q2, 4, none⟩ (.int .i64 (fb 4))).setCell ⟨Q2, 5, none⟩ (.int .i64 (fb 5))).setCell ⟨Q2, 6, none⟩ (.int .i64 (fb 6))).setCell ⟨Q2, 7, none⟩ (.int .i64 (fb 7))).setCell ⟨Q2, 8, none⟩ (.slice ab lb.length cbk)) := (Off.refl (fun c => c = Q2) V02).st9 (.inl rfl) fb (.slice ab lb.length cbk)
              clear DQ fz x0 x1 x2 x3 x4 x5 x6 x7 x8
              generalize hV : (((((((((V02.setCell ⟨Q2, 0, none⟩ (.int .i64 (fb 0))).setCell ⟨Q2, 1, none⟩ (.int .i64 (fb 1))).setCell ⟨Q2, 2, none⟩ (.int .i64 (fb 2))).setCell ⟨Q2, 3, none⟩ (.int .i64 (fb 3))).setCell ⟨Q2, 4, none⟩ (.int .i64 (fb 4))).setCell ⟨Q2, 5, none⟩ (.int .i64 (fb 5))).setCell ⟨Q2, 6, none⟩ (.int .i64 (fb 6))).setCell ⟨Q2, 7, none⟩ (.int .i64 (fb 7))).setCell ⟨Q2, 8, none⟩ (.slice ab lb.length cbk)) = V2 at ZQ hS OS ⊢
              clear hV
              refine wpAnyH_done (by kernel_rfl) ?_ _
              have HO9 : Hid _ := HO8.out.trans hS (fun _ _ h => h)
              have HRP9 : Hid _ := HRP8.out.off hS
              obtain ⟨x0, x1, x2, x3, x4, x5, x6, x7, x8⟩ := cel9 (LQ.out.off hS (fun h => h))
              obtain ⟨y0, y1, y2, y3, y4, y5, y6, y7, y8⟩ := cel9 ZQ
              obtain ⟨u0, u1, u2, u3, u4, u5, u6, u7, u8⟩ := cel9 (H0.out.off HO9.out (fun h => h))
              have k1 : ((lp.length : Int) == 1) = true := by
                have e2 : lp.length = 1 := by have := congrArg List.length HCP.out; simpa [cont_len] using this
                rw [e2]
                rfl
              have k2 := HLB.out
              clear hS ZQ OS
              go_wp2_with fail
              clear x0 x1 x2 x3 x4 x5 x6 x7 x8 y0 y1 y2 y3 y4 y5 y6 y7 y8 u0 u1 u2 u3 u4 u5 u6 u7 u8 k1 k2
              refine (sjoin_any fp f ap a cp ca lp l _ HRP9.out (HR1.out.off HO9.out)).mono ?_
              rintro e wa ⟨ft, ta, ct, lt, rfl, hft, hlt, mdt, oa⟩
              have HLT : Hid _ := hlt
              have HMT : Hid _ := mdt.row
              clear hft hlt mdt
              go_wp2_with fail
              refine (slive_any ft ta ct lt _ HMT.out).mono ?_
              rintro e wb ⟨tl, cl, bl, rfl, ol, sl, hbl, ob⟩
              have hb0 : ((bl.length : Int) == 0) = true := by
                have e : liveA (cont lt) = [] := by rw [HLT.out, HCP.out]; exact gone_live HMA.out HX.out.2.1 HX.out.1 HX.out.2.2.1 HX.out.2.2.2
                rw [e] at hbl
                have e2 : bl.length = 0 := by have := congrArg List.length hbl; simpa using this
                rw [e2]
                rfl
              clear ol sl hbl
              go_wp2_with fail
              refine (awake_any _).mono ?_
              rintro e wc ⟨rfl, oc⟩
              go_wp2_with fail
              go_ret
              exact ⟨rfl, HO.out.trans (HO9.out.trans (oa.trans (ob.trans oc (fun _ _ h => h)) (fun _ _ h => h)) (fun _ _ h => h)) (fun _ _ h => h)⟩
            · go_simp
              refine hK'.out _ _ (hS.alloc _) (fun hS => ?_)
              clear hK' K'
              have DQ : Cel v1.heap.size 26 #[.int .i64 (zer 0), .int .i64 (zer 1), .int .i64 (zer 2), .int .i64 (zer 3), .int .i64 (zer 4), .int .i64 (zer 5), .int .i64 (zer 6), .int .i64 (zer 7), .slice none 0 0] (v1.alloc (.cells #[.int .i64 0, .int .i64 0, .int .i64 0, .int .i64 0, .int .i64 0, .int .i64 0, .int .i64 0, .int .i64 0, .slice none 0 0] 26)) := (Cel.new v1 _ _)
              have OV0 : Off (fun _ => False) v1 (v1.alloc (.cells #[.int .i64 0, .int .i64 0, .int .i64 0, .int .i64 0, .int .i64 0, .int .i64 0, .int .i64 0, .int .i64 0, .slice none 0 0] 26)) := ((Off.refl _ v1).alloc _)
              have hq9 : w8.heap.size ≤ v1.heap.size := HZ1.out
              have hq7 : v1.heap.size < (v1.alloc (.cells #[.int .i64 0, .int .i64 0, .int .i64 0, .int .i64 0, .int .i64 0, .int .i64 0, .int .i64 0, .int .i64 0, .slice none 0 0] 26)).heap.size := by show _ < (v1.alloc (.cells #[.int .i64 0, .int .i64 0, .int .i64 0, .int .i64 0, .int .i64 0, .int .i64 0, .int .i64 0, .int .i64 0, .slice none 0 0] 26)).heap.size; simp [World.size_alloc]
              generalize hV0 : (v1.alloc (.cells #[.int .i64 0, .int .i64 0, .int .i64 0, .int .i64 0, .int .i64 0, .int .i64 0, .int .i64 0, .int .i64 0, .slice none 0 0] 26)) = V02 at DQ hS hq7 OV0 ⊢
              generalize hQ : v1.heap.size = Q2 at DQ hq7 ⊢
              have HQ5Q2 : Hid (v1.heap.size ≤ Q2) := by show _ ≤ _; omega
              have HQ6Q2 : Hid (w8.heap.size ≤ Q2) := by show _ ≤ _; omega
              have HQ7Q2 : Hid (Q2 < V02.heap.size) := hq7
              clear hV0 hQ hq9 hq7
              refine wpAnyH_ready (rs := [3]) (by kernel_rfl) (by simp) ?_
              refine AllReadyH.cons rfl (fun K' hK' => ?_) AllReadyH.nil
              go_simp
              have hra := HRA8.out.off hS
              have hrr := HRR.out.off OV0
              refine (sjoin_any fr f ar a cr ca lr l _ hrr hra).mono ?_
              rintro e v3 ⟨fb, ab, cbk, lb, rfl, hfb, hlb, mdb, o3⟩
              have hS3 := hS.trans o3 (fun _ _ h => h)
              refine hK'.out _ _ hS3 (fun hS => ?_)
              clear hK' K' hS3
              have HLB : Hid (((lb.length : Int) == 0) = true) := by
                have e : cont lb = [] := by rw [hlb, HFR.out, HLR.out, HCP.out]; exact gone_back HMA.out HX.out.2.1 HX.out.1 HX.out.2.2.1
                have e2 : lb.length = 0 := by have := congrArg List.length e; simpa [cont_len] using this
                show _ = true
                rw [e2]
                rfl
              replace DQ := DQ.off o3 (fun h => h)
              have HZ3 : Hid (w8.heap.size ≤ v3.heap.size) := hS.size
              clear hra hrr hfb hlb mdb o3
              obtain ⟨x0, x1, x2, x3, x4, x5, x6, x7, x8⟩ := cel9 DQ
              have fz := DQ.free
              refine wpAnyH_ready (rs := [5]) (by kernel_rfl) (by simp) ?_
              refine AllReadyH.cons rfl (fun K' hK' => ?_) AllReadyH.nil
              go_simp
              have hS5 := hS.st9 (b := Q2) (.inr HQ6Q2.out) fb (.slice ab lb.length cbk)
              refine hK'.out _ _ hS5 (fun hS => ?_)
              clear hK' K' hS5
              have ZQ := DQ.st9 fb (.slice ab lb.length cbk)
              have OS : Off (fun c => c = Q2) v3 (((((((((v3.setCell ⟨Q2, 0, none⟩ (.int .i64 (fb 0))).setCell ⟨Q2, 1, none⟩ (.int .i64 (fb 1))).setCell ⟨Q2, 2, none⟩ (.int .i64 (fb 2))).setCell ⟨Q2, 3, none⟩ (.int .i64 (fb 3))).setCell ⟨Q2, 4, none⟩ (.int .i64 (fb 4))).setCell ⟨Q2, 5, none⟩ (.int .i64 (fb 5))).setCell ⟨Q2, 6, none⟩ (.int .i64 (fb 6))).setCell ⟨Q2, 7, none⟩ (.int .i64 (fb 7))).setCell ⟨Q2, 8, none⟩ (.slice ab lb.length cbk)) := (Off.refl (fun c => c = Q2) v3).st9 (.inl rfl) fb (.slice ab lb.length cbk)
              clear DQ fz x0 x1 x2 x3 x4 x5 x6 x7 x8
              generalize hV : (((((((((v3.setCell ⟨Q2, 0, none⟩ (.int .i64 (fb 0))).setCell ⟨Q2, 1, none⟩ (.int .i64 (fb 1))).setCell ⟨Q2, 2, none⟩ (.int .i64 (fb 2))).setCell ⟨Q2, 3, none⟩ (.int .i64 (fb 3))).setCell ⟨Q2, 4, none⟩ (.int .i64 (fb 4))).setCell ⟨Q2, 5, none⟩ (.int .i64 (fb 5))).setCell ⟨Q2, 6, none⟩ (.int .i64 (fb 6))).setCell ⟨Q2, 7, none⟩ (.int .i64 (fb 7))).setCell ⟨Q2, 8, none⟩ (.slice ab lb.length cbk)) = V2 at ZQ hS OS ⊢
              clear hV
              refine wpAnyH_done (by kernel_rfl) ?_ _
              have HO9 : Hid _ := HO8.out.trans hS (fun _ _ h => h)
              have HRP9 : Hid _ := HRP8.out.off hS
              obtain ⟨x0, x1, x2, x3, x4, x5, x6, x7, x8⟩ := cel9 (LQ.out.off hS (fun h => h))
              obtain ⟨y0, y1, y2, y3, y4, y5, y6, y7, y8⟩ := cel9 ZQ
              obtain ⟨u0, u1, u2, u3, u4, u5, u6, u7, u8⟩ := cel9 (H0.out.off HO9.out (fun h => h))
              have k1 : ((lp.length : Int) == 1) = true := by
                have e2 : lp.length = 1 := by have := congrArg List.length HCP.out; simpa [cont_len] using this
                rw [e2]
                rfl
              have k2 := HLB.out
              clear hS ZQ OS
              go_wp2_with fail
              clear x0 x1 x2 x3 x4 x5 x6 x7 x8 y0 y1 y2 y3 y4 y5 y6 y7 y8 u0 u1 u2 u3 u4 u5 u6 u7 u8 k1 k2
              refine (sjoin_any fp f ap a cp ca lp l _ HRP9.out (HR1.out.off HO9.out)).mono ?_
              rintro e wa ⟨ft, ta, ct, lt, rfl, hft, hlt, mdt, oa⟩
              have HLT : Hid _ := hlt
              have HMT : Hid _ := mdt.row
              clear hft hlt mdt
              go_wp2_with fail
              refine (slive_any ft ta ct lt _ HMT.out).mono ?_
              rintro e wb ⟨tl, cl, bl, rfl, ol, sl, hbl, ob⟩
              have hb0 : ((bl.length : Int) == 0) = true := by
                have e : liveA (cont lt) = [] := by rw [HLT.out, HCP.out]; exact gone_live HMA.out HX.out.2.1 HX.out.1 HX.out.2.2.1 HX.out.2.2.2
                rw [e] at hbl
                have e2 : bl.length = 0 := by have := congrArg List.length hbl; simpa using this
                rw [e2]
                rfl
              clear ol sl hbl
              go_wp2_with fail
              refine (awake_any _).mono ?_
              rintro e wc ⟨rfl, oc⟩
              go_wp2_with fail
              go_ret
              exact ⟨rfl, HO.out.trans (HO9.out.trans (oa.trans (ob.trans oc (fun _ _ h => h)) (fun _ _ h => h)) (fun _ _ h => h)) (fun _ _ h => h)⟩
          · go_simp
            refine hK'.out _ _ (hS.alloc _) (fun hS => ?_)
            clear hK' K'
            have DQ : Cel w8.heap.size 26 #[.int .i64 (zer 0), .int .i64 (zer 1), .int .i64 (zer 2), .int .i64 (zer 3), .int .i64 (zer 4), .int .i64 (zer 5), .int .i64 (zer 6), .int .i64 (zer 7), .slice none 0 0] (w8.alloc (.cells #[.int .i64 0, .int .i64 0, .int .i64 0, .int .i64 0, .int .i64 0, .int .i64 0, .int .i64 0, .int .i64 0, .slice none 0 0] 26)).drew := (Cel.new w8 _ _).drew
            have OV0 : Off (fun _ => False) w8 (w8.alloc (.cells #[.int .i64 0, .int .i64 0, .int .i64 0, .int .i64 0, .int .i64 0, .int .i64 0, .int .i64 0, .int .i64 0, .slice none 0 0] 26)).drew := ((Off.refl _ w8).alloc _).drew
            have hq9 : w8.heap.size ≤ w8.heap.size := Nat.le_refl _
            have hq7 : w8.heap.size < (w8.alloc (.cells #[.int .i64 0, .int .i64 0, .int .i64 0, .int .i64 0, .int .i64 0, .int .i64 0, .int .i64 0, .int .i64 0, .slice none 0 0] 26)).drew.heap.size := by show _ < (w8.alloc (.cells #[.int .i64 0, .int .i64 0, .int .i64 0, .int .i64 0, .int .i64 0, .int .i64 0, .int .i64 0, .int .i64 0, .slice none 0 0] 26)).heap.size; simp [World.size_alloc]
            generalize hV0 : (w8.alloc (.cells #[.int .i64 0, .int .i64 0, .int .i64 0, .int .i64 0, .int .i64 0, .int .i64 0, .int .i64 0, .int .i64 0, .slice none 0 0] 26)).drew = V02 at DQ hS hq7 OV0 ⊢
            generalize hQ : w8.heap.size = Q2 at DQ hq7 ⊢
            have HQ5Q2 : Hid (w8.heap.size ≤ Q2) := by show _ ≤ _; omega
            have HQ6Q2 : Hid (w8.heap.size ≤ Q2) := by show _ ≤ _; omega
            have HQ7Q2 : Hid (Q2 < V02.heap.size) := hq7
            clear hV0 hQ hq9 hq7
            refine wpAnyH_ready (rs := [1]) (by kernel_rfl) (by simp) ?_
            refine AllReadyH.cons rfl (fun K' hK' => ?_) AllReadyH.nil
            go_simp
            have hrp := HRP8.out.off hS
            refine (sreap_any fp ap cp lp _ hrp).mono ?_
            rintro e v1 ⟨fr, ar, cr, lr, rfl, hfr, hlr, mdr, o1⟩
            have hS1 := hS.trans o1 (fun _ _ h => h)
            refine hK'.out _ _ hS1 (fun hS => ?_)
            clear hK' K' hS1
            have HFR : Hid _ := hfr
            have HLR : Hid _ := hlr
            have HRR : Hid _ := mdr.row
            replace DQ := DQ.off o1 (fun h => h)
            have HZ1 : Hid (w8.heap.size ≤ v1.heap.size) := hS.size
            clear hrp hfr hlr mdr o1
            refine wpAnyH_ready (rs := [3]) (by kernel_rfl) (by simp) ?_
            refine AllReadyH.cons rfl (fun K' hK' => ?_) AllReadyH.nil
            go_simp
            have hra := HRA8.out.off hS
            have hrr := HRR.out
            refine (sjoin_any fr f ar a cr ca lr l _ hrr hra).mono ?_
            rintro e v3 ⟨fb, ab, cbk, lb, rfl, hfb, hlb, mdb, o3⟩
            have hS3 := hS.trans o3 (fun _ _ h => h)
            refine hK'.out _ _ hS3 (fun hS => ?_)
            clear hK' K' hS3
            have HLB : Hid (((lb.length : Int) == 0) = true) := by
              have e : cont lb = [] := by rw [hlb, HFR.out, HLR.out, HCP.out]; exact gone_back HMA.out HX.out.2.1 HX.out.1 HX.out.2.2.1
              have e2 : lb.length = 0 := by have := congrArg List.length e; simpa [cont_len] using this
              show _ = true
              rw [e2]
              rfl
            replace DQ := DQ.off o3 (fun h => h)
            have HZ3 : Hid (w8.heap.size ≤ v3.heap.size) := hS.size
            clear hra hrr hfb hlb mdb o3
            obtain ⟨x0, x1, x2, x3, x4, x5, x6, x7, x8⟩ := cel9 DQ
            have fz := DQ.free
            refine wpAnyH_ready (rs := [5]) (by kernel_rfl) (by simp) ?_
            refine AllReadyH.cons rfl (fun K' hK' => ?_) AllReadyH.nil
            go_simp
            have hS5 := hS.st9 (b := Q2) (.inr HQ6Q2.out) fb (.slice ab lb.length cbk)
            refine hK'.out _ _ hS5 (fun hS => ?_)
            clear hK' K' hS5
            have ZQ := DQ.st9 fb (.slice ab lb.length cbk)
            have OS : Off (fun c => c = Q2) v3 (((((((((v3.setCell ⟨Q2, 0, none⟩ (.int .i64 (fb 0))).setCell ⟨Q2, 1, none⟩ (.int .i64 (fb 1))).setCell ⟨Q2, 2, none⟩ (.int .i64 (fb 2))).setCell ⟨Q2, 3, none⟩ (.int .i64 (fb 3))).setCell ⟨Q2, 4, none⟩ (.int .i64 (fb 4))).setCell ⟨Q2, 5, none⟩ (.int .i64 (fb 5))).setCell ⟨Q2, 6, none⟩ (.int .i64 (fb 6))).setCell ⟨Q2, 7, none⟩ (.int .i64 (fb 7))).setCell ⟨Q2, 8, none⟩ (.slice ab lb.length cbk)) := (Off.refl (fun c => c = Q2) v3).st9 (.inl rfl) fb (.slice ab lb.length cbk)
            clear DQ fz x0 x1 x2 x3 x4 x5 x6 x7 x8
            generalize hV : (((((((((v3.setCell ⟨Q2, 0, none⟩ (.int .i64 (fb 0))).setCell ⟨Q2, 1, none⟩ (.int .i64 (fb 1))).setCell ⟨Q2, 2, none⟩ (.int .i64 (fb 2))).setCell ⟨Q2, 3, none⟩ (.int .i64 (fb 3))).setCell ⟨Q2, 4, none⟩ (.int .i64 (fb 4))).setCell ⟨Q2, 5, none⟩ (.int .i64 (fb 5))).setCell ⟨Q2, 6, none⟩ (.int .i64 (fb 6))).setCell ⟨Q2, 7, none⟩ (.int .i64 (fb 7))).setCell ⟨Q2, 8, none⟩ (.slice ab lb.length cbk)) = V2 at ZQ hS OS ⊢
            clear hV
            refine wpAnyH_done (by kernel_rfl) ?_ _
            have HO9 : Hid _ := HO8.out.trans hS (fun _ _ h => h)
            have HRP9 : Hid _ := HRP8.out.off hS
            obtain ⟨x0, x1, x2, x3, x4, x5, x6, x7, x8⟩ := cel9 (LQ.out.off hS (fun h => h))
            obtain ⟨y0, y1, y2, y3, y4, y5, y6, y7, y8⟩ := cel9 ZQ
            obtain ⟨u0, u1, u2, u3, u4, u5, u6, u7, u8⟩ := cel9 (H0.out.off HO9.out (fun h => h))
            have k1 : ((lp.length : Int) == 1) = true := by
              have e2 : lp.length = 1 := by have := congrArg List.length HCP.out; simpa [cont_len] using this
              rw [e2]
              rfl
            have k2 := HLB.out
            clear hS ZQ OS
            go_wp2_with fail
            clear x0 x1 x2 x3 x4 x5 x6 x7 x8 y0 y1 y2 y3 y4 y5 y6 y7 y8 u0 u1 u2 u3 u4 u5 u6 u7 u8 k1 k2
            refine (sjoin_any fp f ap a cp ca lp l _ HRP9.out (HR1.out.off HO9.out)).mono ?_
            rintro e wa ⟨ft, ta, ct, lt, rfl, hft, hlt, mdt, oa⟩
            have HLT : Hid _ := hlt
            have HMT : Hid _ := mdt.row
            clear hft hlt mdt
            go_wp2_with fail
            refine (slive_any ft ta ct lt _ HMT.out).mono ?_
            rintro e wb ⟨tl, cl, bl, rfl, ol, sl, hbl, ob⟩
            have hb0 : ((bl.length : Int) == 0) = true := by
              have e : liveA (cont lt) = [] := by rw [HLT.out, HCP.out]; exact gone_live HMA.out HX.out.2.1 HX.out.1 HX.out.2.2.1 HX.out.2.2.2
              rw [e] at hbl
              have e2 : bl.length = 0 := by have := congrArg List.length hbl; simpa using this
              rw [e2]
              rfl
            clear ol sl hbl
            go_wp2_with fail
            refine (awake_any _).mono ?_
            rintro e wc ⟨rfl, oc⟩
            go_wp2_with fail
            go_ret
            exact ⟨rfl, HO.out.trans (HO9.out.trans (oa.trans (ob.trans oc (fun _ _ h => h)) (fun _ _ h => h)) (fun _ _ h => h)) (fun _ _ h => h)⟩
        · have hen : (er != 0) = true := by simp [her0]
          clear her0
          go_wp2_with fail
          refine (awake_any _).mono ?_
          rintro e w9 ⟨rfl, o9⟩
          go_wp2_with fail
          go_ret
          exact ⟨rfl, HO.out.trans (HOV.out.trans o9 (fun _ _ h => h)) (fun _ _ h => h)⟩
end Go.Proofs.Ytfkpnmmcdhibbab
