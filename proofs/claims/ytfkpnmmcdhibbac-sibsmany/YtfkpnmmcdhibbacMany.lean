/- The walk of SibsMany. -/
import Derived.Test.YtfkpnmmcdhibbacManyP
namespace Go.Proofs.Ytfkpnmmcdhibbac
open Go.RowKit

theorem nodeB_rem (i : Nat) : nodeB ((i : Int) % 8) = true := by
  simp only [nodeB, decide_eq_true_eq]
  omega
theorem put_zero (f : Nat → Int) (a : Option Addr) (ca : Nat) (l : List V) (node : Int) (hno : nodeB node = true) (da : Option Addr) (b : Nat) (hb : b < 256) (w : World) (h1 : Row w a ca l) (hd : Src w da 1 [b]) :
    Calls Try.prog 4 #[.agg #[.int .i64 (f 0), .int .i64 (f 1), .int .i64 (f 2), .int .i64 (f 3), .int .i64 (f 4), .int .i64 (f 5), .int .i64 (f 6), .int .i64 (f 7), .slice a l.length ca], .agg #[.int .i64 0, .int .i64 0, .int .i64 0, .int .i64 0, .int .i64 0, .int .i64 0, .int .i64 0, .int .i64 0], .int .i64 node, .slice da 1 1, .bool false] w fun e w' => ∃ (h : Nat → Int) (a' : Option Addr) (c' : Nat) (l' : List V) (er : Int), e = .returned (.tuple #[.agg #[.int .i64 (h 0), .int .i64 (h 1), .int .i64 (h 2), .int .i64 (h 3), .int .i64 (h 4), .int .i64 (h 5), .int .i64 (h 6), .int .i64 (h 7), .slice a' l'.length c'], .int .i64 er]) ∧ er = putE f zer (cont l) node [b] false ∧ h = putV f zer (cont l) node [b] false ∧ cont l' = putL f zer (cont l) node [b] false ∧ Made w.heap.size w' a' c' l' ∧ Off (fun _ => False) w w' := by
  have hn : 0 ≤ node ∧ node < 8 := by simpa [nodeB] using hno
  exact sput_any f zer a ca l node (by omega) da 1 [b] false w h1 hd (by simpa using hb) (by simp)

set_option maxRecDepth 100000 in
set_option maxHeartbeats 4000000 in
theorem many_walk (n0 : Int) (w : World) (_ : -9223372036854775808 ≤ n0 ∧ n0 ≤ 9223372036854775807) : Calls Try.prog 3 #[.int .i64 n0] w fun e w' => e = .returned (.bool true) ∧ Off (fun _ => False) w w' := by
  obtain ⟨k, hk8, hk⟩ : ∃ k : Nat, k < 8 ∧ (IntKind.u64.wrap n0).tmod 8 = (k : Int) := by
    refine ⟨((IntKind.u64.wrap n0).tmod 8).toNat, ?_, ?_⟩
    all_goals
      have h0 : 0 ≤ IntKind.u64.wrap n0 := by
        simp only [IntKind.wrap, IntKind.bits, IntKind.signed]
        go_num
      rw [Int.tmod_eq_emod_of_nonneg h0]
      omega
  go_enter Try.func3, Try.ntmps3
  go_wp2_with fail
  generalize hq : w.heap.size = q at ⊢
  have C0 : Cel q 27 #[.int .i64 (zer 0), .int .i64 (zer 1), .int .i64 (zer 2), .int .i64 (zer 3), .int .i64 (zer 4), .int .i64 (zer 5), .int .i64 (zer 6), .int .i64 (zer 7), .slice none 0 0] (w.alloc (.cells #[.int .i64 0, .int .i64 0, .int .i64 0, .int .i64 0, .int .i64 0, .int .i64 0, .int .i64 0, .int .i64 0, .slice none 0 0] 27)) := by rw [← hq]; exact Cel.new w _ _
  have O0 : Off (fun _ => False) w (w.alloc (.cells #[.int .i64 0, .int .i64 0, .int .i64 0, .int .i64 0, .int .i64 0, .int .i64 0, .int .i64 0, .int .i64 0, .slice none 0 0] 27)) := (Off.refl _ w).alloc _
  have HC0 : Hid _ := C0
  have HO0 : Hid _ := O0
  have HQ : Hid (w.heap.size ≤ q) := by show w.heap.size ≤ q; omega
  clear C0 O0 hq
  go_loopw [18] (fun y wr => ∃ (i : Nat) (f : Nat → Int) (a : Option Addr) (c : Nat) (l : List V), y = .int .i64 (i : Int) ∧ i ≤ 12 + k ∧ Cel q 27 #[.int .i64 (f 0), .int .i64 (f 1), .int .i64 (f 2), .int .i64 (f 3), .int .i64 (f 4), .int .i64 (f 5), .int .i64 (f 6), .int .i64 (f 7), .slice a l.length c] wr ∧ Made (q + 1) wr a c l ∧ MayP f (cont l) ∧ l.length = min i 16 ∧ (∀ j, j < 8 → f j ≤ (i : Int)) ∧ Off (fun _ => False) w wr) (fun y _ => (12 + k - intOf y).toNat)
  case atStart => exact ⟨0, zer, none, 0, [], rfl, by omega, HC0.out, Made.nil _ _, may_zer, by simp, fun j _ => by simp [zer], HO0.out⟩
  case round =>
    clear HC0 HO0
    obtain ⟨i, f, a, c, l, rfl, hi, CQ, md, hmay, hlen, hV, O⟩ := hrel
    have st := many_step (b := i) hmay (by rw [cont_len]; exact hlen) hV (by omega) (nodeB_rem i)
    have HST : Hid _ := st
    have HMD : Hid _ := md
    have HMAY : Hid _ := hmay
    have HLEN : Hid _ := hlen
    have HV : Hid _ := hV
    have HO : Hid _ := O
    have HCQ : Hid _ := CQ
    obtain ⟨x0, x1, x2, x3, x4, x5, x6, x7, x8⟩ := cel9 CQ
    clear st md hmay hlen hV O CQ
    by_cases hlt : i < 12 + k
    · have e1 : decide ((i : Int) < 12 + (k : Int)) = true := decide_eq_true (by omega)
      have e4 : (i : Int) % 256 = (i : Int) := by omega
      go_wp2_with fail
      have S1 := src_mark wr i (i : Int) rfl (0, 0)
      have OA : Off (fun _ => False) wr (wr.alloc (.cells #[.int .u8 (i : Int)] 5)) := (Off.refl _ wr).alloc _
      have r1 := HMD.out.row.off OA
      refine (put_zero f a c l ((i : Int) % 8) (nodeB_rem i) _ i (by omega) _ r1 S1).mono ?_
      rintro e w1 ⟨h, a1, c1, l1, er, rfl, her, hh, hl1, md1, o1⟩
      replace md1 := md1.mono (M := q + 1) (by have := HCQ.out.lt; simp; omega)
      replace o1 := OA.trans o1 (fun _ _ h => h)
      have HHH : Hid _ := hh
      have HL1 : Hid _ := hl1
      have HER : Hid _ := her
      clear S1 r1 OA x0 x1 x2 x3 x4 x5 x6 x7 x8 hh hl1 her
      go_upto_region 7 with fail
      have C1 := Cel.new w1 27 #[.int .i64 (h 0), .int .i64 (h 1), .int .i64 (h 2), .int .i64 (h 3), .int .i64 (h 4), .int .i64 (h 5), .int .i64 (h 6), .int .i64 (h 7), .slice a1 l1.length c1]
      have O2 : Off (fun _ => False) w1 (w1.alloc (.cells #[.int .i64 (h 0), .int .i64 (h 1), .int .i64 (h 2), .int .i64 (h 3), .int .i64 (h 4), .int .i64 (h 5), .int .i64 (h 6), .int .i64 (h 7), .slice a1 l1.length c1] 27)) := (Off.refl _ w1).alloc _
      replace md1 := md1.off O2
      replace o1 := o1.trans O2 (fun _ _ h => h)
      generalize hr : w1.heap.size = r at C1 ⊢
      generalize hv1 : w1.alloc (.cells #[.int .i64 (h 0), .int .i64 (h 1), .int .i64 (h 2), .int .i64 (h 3), .int .i64 (h 4), .int .i64 (h 5), .int .i64 (h 6), .int .i64 (h 7), .slice a1 l1.length c1] 27) = v1 at C1 o1 md1 ⊢
      clear O2 hr hv1
      obtain ⟨y0, y1, y2, y3, y4, y5, y6, y7, y8⟩ := cel9 C1
      have HMD1 : Hid _ := md1
      have HO1 : Hid _ := o1
      have her := HER.out
      clear md1 o1 C1
      by_cases h16 : i < 16
      · obtain ⟨p1, p2, p3, p4⟩ := HST.out.1 h16
        rw [p1] at her
        subst her
        clear HER
        have hn1 : l1.length = i + 1 := by rw [← p2, ← HL1.out, cont_len]
        have t1 : decide (16 ≤ (i : Int)) = false := decide_eq_false (by omega)
        have t2 : ((l1.length : Int) != (i : Int) + 1) = false := by simp; omega
        have HN1 : Hid _ := hn1
        have HP3 : Hid _ := p3
        have HP4 : Hid _ := p4
        clear p1 p2 p3 p4 hn1
        have CQ := HCQ.out.off HO1.out (fun h => h)
        obtain ⟨x0, x1, x2, x3, x4, x5, x6, x7, x8⟩ := cel9 CQ
        have fz := CQ.free
        go_wp2_with fail
        go_roundw
        case rel =>
          refine ⟨i + 1, h, a1, c1, l1, by go_num, by omega, CQ.st9 h (.slice a1 l1.length c1), ?_, ?_, ?_, ?_, (HO.out.trans HO1.out (fun _ _ h => h)).st9 (.inr HQ.out) h _⟩
          · exact HMD1.out.offN ((Off.refl (fun c => c = q) v1).st9 (.inl rfl) h _) (fun k hk e => by omega)
          · rw [HHH.out, HL1.out]
            exact HP3.out
          · have := HN1.out
            omega
          · rw [HHH.out]
            exact HP4.out
        case measure => simp [intOf]; omega
      · have p1 := HST.out.2 (by omega)
        rw [p1] at her
        subst her
        clear HER
        have hn1 : l1.length = 0 := by rw [← cont_len, HL1.out]; simp [putL, p1]
        have t1 : decide (16 ≤ (i : Int)) = true := decide_eq_true (by omega)
        have t2 : ((l1.length : Int) != 0) = false := by simp [hn1]
        clear p1 hn1
        go_wp2_with fail
        go_roundw
        case rel => exact ⟨i + 1, f, a, c, l, by go_num, by omega, HCQ.out.off HO1.out (fun h => h), HMD.out.off HO1.out, HMAY.out, by have := HLEN.out; omega, fun j hj => by have := HV.out j hj; omega, HO.out.trans HO1.out (fun _ _ h => h)⟩
        case measure => simp [intOf]; omega
    · have e1 : decide ((i : Int) < 12 + (k : Int)) = false := decide_eq_false (by omega)
      clear HST HMD HMAY HLEN HV HCQ x0 x1 x2 x3 x4 x5 x6 x7 x8
      have HO2 : Hid _ := HO.out
      clear HO
      go_upto_region 15 with fail
      have CA : Cel wr.heap.size 27 #[.int .i64 (zer 0), .int .i64 (zer 1), .int .i64 (zer 2), .int .i64 (zer 3), .int .i64 (zer 4), .int .i64 (zer 5), .int .i64 (zer 6), .int .i64 (zer 7), .slice none 0 0] ((wr.alloc (.cells #[.int .i64 0, .int .i64 0, .int .i64 0, .int .i64 0, .int .i64 0, .int .i64 0, .int .i64 0, .int .i64 0, .slice none 0 0] 27)).alloc (.cells #[.int .i64 0, .int .i64 0, .int .i64 0, .int .i64 0, .int .i64 0, .int .i64 0, .int .i64 0, .int .i64 0, .slice none 0 0] 27)) := (Cel.new wr _ _).alloc _
      have CB : Cel (wr.heap.size + 1) 27 #[.int .i64 (zer 0), .int .i64 (zer 1), .int .i64 (zer 2), .int .i64 (zer 3), .int .i64 (zer 4), .int .i64 (zer 5), .int .i64 (zer 6), .int .i64 (zer 7), .slice none 0 0] ((wr.alloc (.cells #[.int .i64 0, .int .i64 0, .int .i64 0, .int .i64 0, .int .i64 0, .int .i64 0, .int .i64 0, .int .i64 0, .slice none 0 0] 27)).alloc (.cells #[.int .i64 0, .int .i64 0, .int .i64 0, .int .i64 0, .int .i64 0, .int .i64 0, .int .i64 0, .int .i64 0, .slice none 0 0] 27)) := Cel.new1 wr _ _ _
      have OB : Off (fun _ => False) w ((wr.alloc (.cells #[.int .i64 0, .int .i64 0, .int .i64 0, .int .i64 0, .int .i64 0, .int .i64 0, .int .i64 0, .int .i64 0, .slice none 0 0] 27)).alloc (.cells #[.int .i64 0, .int .i64 0, .int .i64 0, .int .i64 0, .int .i64 0, .int .i64 0, .int .i64 0, .int .i64 0, .slice none 0 0] 27)) := (HO2.out.alloc _).alloc _
      have hsz := HO2.out.size
      generalize hqb : wr.heap.size + 1 = qb at CB ⊢
      generalize hqa : wr.heap.size = qa at CA hsz hqb ⊢
      generalize hv : (wr.alloc (.cells #[.int .i64 0, .int .i64 0, .int .i64 0, .int .i64 0, .int .i64 0, .int .i64 0, .int .i64 0, .int .i64 0, .slice none 0 0] 27)).alloc (.cells #[.int .i64 0, .int .i64 0, .int .i64 0, .int .i64 0, .int .i64 0, .int .i64 0, .int .i64 0, .int .i64 0, .slice none 0 0] 27) = v0 at CA CB OB ⊢
      have HQS : Hid (w.heap.size ≤ qa ∧ qb = qa + 1) := ⟨hsz, hqb.symm⟩
      clear hqa hqb hv hsz HO2
      have HCA : Hid _ := CA
      have HCB : Hid _ := CB
      have HOB : Hid _ := OB
      clear CA CB OB
      go_wp2_with fail
      go_loopw [56] (fun y wr => ∃ (i : Nat) (f g : Nat → Int) (a : Option Addr) (c : Nat) (l : List V) (b : Option Addr) (d : Nat) (m : List V), y = .int .i64 (i : Int) ∧ i ≤ 10 ∧ Cel qa 27 #[.int .i64 (f 0), .int .i64 (f 1), .int .i64 (f 2), .int .i64 (f 3), .int .i64 (f 4), .int .i64 (f 5), .int .i64 (f 6), .int .i64 (f 7), .slice a l.length c] wr ∧ Made (qb + 1) wr a c l ∧ Chain 0 i f (cont l) ∧ Cel qb 27 #[.int .i64 (g 0), .int .i64 (g 1), .int .i64 (g 2), .int .i64 (g 3), .int .i64 (g 4), .int .i64 (g 5), .int .i64 (g 6), .int .i64 (g 7), .slice b m.length d] wr ∧ Made (qb + 1) wr b d m ∧ Chain 1 i g (cont m) ∧ Off (fun _ => False) w wr) (fun y _ => (10 - intOf y).toNat)
      case atStart => exact ⟨0, zer, zer, none, 0, [], none, 0, [], rfl, by omega, HCA.out, Made.nil _ _, Chain.zero 0, HCB.out, Made.nil _ _, Chain.zero 1, HOB.out⟩
      case round =>
        clear HCA HCB HOB
        obtain ⟨i, f, g, a, c, l, b, d, m, rfl, hi, CA, mda, cha, CB, mdb, chb, O⟩ := hrel
        have HMA : Hid _ := mda
        have HMB : Hid _ := mdb
        have HCA : Hid _ := cha
        have HCB : Hid _ := chb
        have HXA : Hid _ := CA
        have HXB : Hid _ := CB
        have HO : Hid _ := O
        clear mda mdb cha chb O
        by_cases hlt : i < 10
        · have e1 : decide ((i : Int) < 10) = true := decide_eq_true (by omega)
          have e4 : (i : Int) % 256 = (i : Int) := by omega
          obtain ⟨x0, x1, x2, x3, x4, x5, x6, x7, x8⟩ := cel9 CA
          have sa := HCA.out.step (by decide) (by omega) i
          have sb := HCB.out.step (by decide) (by omega) i
          have HSA : Hid _ := sa
          have HSB : Hid _ := sb
          clear sa sb CA CB
          go_wp2_with fail
          have S1 := src_mark wr i (i : Int) rfl (0, 0)
          have OA : Off (fun _ => False) wr (wr.alloc (.cells #[.int .u8 (i : Int)] 5)) := (Off.refl _ wr).alloc _
          have r1 := HMA.out.row.off OA
          refine (put_zero f a c l 0 (by decide) _ i (by omega) _ r1 S1).mono ?_
          rintro e wA ⟨fA, aA, cA, lA, er, rfl, her, hh, hl1, md1, o1⟩
          replace md1 := md1.mono (M := qb + 1) (by have := HXB.out.lt; simp; omega)
          replace o1 := OA.trans o1 (fun _ _ h => h)
          have HHA : Hid _ := hh
          have HLA : Hid _ := hl1
          have HOA : Hid _ := o1
          have HMDA : Hid _ := md1
          clear S1 r1 OA x0 x1 x2 x3 x4 x5 x6 x7 x8 hh hl1 her o1 md1
          have CA := HXA.out.off HOA.out (fun h => h)
          obtain ⟨x0, x1, x2, x3, x4, x5, x6, x7, x8⟩ := cel9 CA
          have fz := CA.free
          go_upto_region 19 with fail
          have ZA := CA.st9 fA (.slice aA lA.length cA)
          have OZ : Off (fun c => c = qa) wA (((((((((wA.setCell ⟨qa, 0, none⟩ (.int .i64 (fA 0))).setCell ⟨qa, 1, none⟩ (.int .i64 (fA 1))).setCell ⟨qa, 2, none⟩ (.int .i64 (fA 2))).setCell ⟨qa, 3, none⟩ (.int .i64 (fA 3))).setCell ⟨qa, 4, none⟩ (.int .i64 (fA 4))).setCell ⟨qa, 5, none⟩ (.int .i64 (fA 5))).setCell ⟨qa, 6, none⟩ (.int .i64 (fA 6))).setCell ⟨qa, 7, none⟩ (.int .i64 (fA 7))).setCell ⟨qa, 8, none⟩ (.slice aA lA.length cA)) := (Off.refl (fun c => c = qa) wA).st9 (.inl rfl) fA _
          have MA2 := HMDA.out.offN OZ (fun k hk e => by have := HQS.out.2; omega)
          have MB1 := (HMB.out.off HOA.out).offN OZ (fun k hk e => by have := HQS.out.2; omega)
          have V1 : Off (fun c => c = qa) wr (((((((((wA.setCell ⟨qa, 0, none⟩ (.int .i64 (fA 0))).setCell ⟨qa, 1, none⟩ (.int .i64 (fA 1))).setCell ⟨qa, 2, none⟩ (.int .i64 (fA 2))).setCell ⟨qa, 3, none⟩ (.int .i64 (fA 3))).setCell ⟨qa, 4, none⟩ (.int .i64 (fA 4))).setCell ⟨qa, 5, none⟩ (.int .i64 (fA 5))).setCell ⟨qa, 6, none⟩ (.int .i64 (fA 6))).setCell ⟨qa, 7, none⟩ (.int .i64 (fA 7))).setCell ⟨qa, 8, none⟩ (.slice aA lA.length cA)) := (HOA.out.mono (fun _ _ h => h.elim)).trans OZ (fun _ _ h => h)
          generalize hv1 : (((((((((wA.setCell ⟨qa, 0, none⟩ (.int .i64 (fA 0))).setCell ⟨qa, 1, none⟩ (.int .i64 (fA 1))).setCell ⟨qa, 2, none⟩ (.int .i64 (fA 2))).setCell ⟨qa, 3, none⟩ (.int .i64 (fA 3))).setCell ⟨qa, 4, none⟩ (.int .i64 (fA 4))).setCell ⟨qa, 5, none⟩ (.int .i64 (fA 5))).setCell ⟨qa, 6, none⟩ (.int .i64 (fA 6))).setCell ⟨qa, 7, none⟩ (.int .i64 (fA 7))).setCell ⟨qa, 8, none⟩ (.slice aA lA.length cA)) = v1 at ZA OZ MA2 MB1 V1 ⊢
          have HV1 : Hid _ := V1
          have HNB : Hid (¬ qb = qa) := by show ¬ qb = qa; have := HQS.out.2; omega
          have HZA0 : Hid _ := ZA
          have HMA1 : Hid _ := MA2
          have HMB1 : Hid _ := MB1
          clear hv1 ZA OZ MA2 MB1 V1 x0 x1 x2 x3 x4 x5 x6 x7 x8 CA fz
          have CB := HXB.out.off HV1.out HNB.out
          obtain ⟨x0, x1, x2, x3, x4, x5, x6, x7, x8⟩ := cel9 CB
          have HYB : Hid _ := CB
          clear CB
          go_wp2_with fail
          have S1 := src_mark v1 i (i : Int) rfl (0, 0)
          have OA : Off (fun _ => False) v1 (v1.alloc (.cells #[.int .u8 (i : Int)] 5)) := (Off.refl _ v1).alloc _
          have r1 := HMB1.out.row.off OA
          refine (put_zero g b d m 1 (by decide) _ i (by omega) _ r1 S1).mono ?_
          rintro e wB ⟨fB, aB, cB, lB, er, rfl, her, hh, hl1, md1, o1⟩
          replace md1 := md1.mono (M := qb + 1) (by have := HXB.out.lt; have := HV1.out.size; simp; omega)
          replace o1 := OA.trans o1 (fun _ _ h => h)
          have HHB : Hid _ := hh
          have HLB : Hid _ := hl1
          have HOB : Hid _ := o1
          have HMDB : Hid _ := md1
          clear S1 r1 OA x0 x1 x2 x3 x4 x5 x6 x7 x8 hh hl1 her o1 md1
          have CB := HYB.out.off HOB.out (fun h => h)
          obtain ⟨x0, x1, x2, x3, x4, x5, x6, x7, x8⟩ := cel9 CB
          have fz := CB.free
          go_upto_region 20 with fail
          have ZB := CB.st9 fB (.slice aB lB.length cB)
          have OZ : Off (fun c => c = qb) wB (((((((((wB.setCell ⟨qb, 0, none⟩ (.int .i64 (fB 0))).setCell ⟨qb, 1, none⟩ (.int .i64 (fB 1))).setCell ⟨qb, 2, none⟩ (.int .i64 (fB 2))).setCell ⟨qb, 3, none⟩ (.int .i64 (fB 3))).setCell ⟨qb, 4, none⟩ (.int .i64 (fB 4))).setCell ⟨qb, 5, none⟩ (.int .i64 (fB 5))).setCell ⟨qb, 6, none⟩ (.int .i64 (fB 6))).setCell ⟨qb, 7, none⟩ (.int .i64 (fB 7))).setCell ⟨qb, 8, none⟩ (.slice aB lB.length cB)) := (Off.refl (fun c => c = qb) wB).st9 (.inl rfl) fB _
          have MB2 := HMDB.out.offN OZ (fun k hk e => by omega)
          have MA2 := (HMA1.out.off HOB.out).offN OZ (fun k hk e => by omega)
          have ZA := (HZA0.out.off HOB.out (fun h => h)).off OZ (fun e => HNB.out e.symm)
          have OF : Off (fun c => c = qa ∨ c = qb) wr (((((((((wB.setCell ⟨qb, 0, none⟩ (.int .i64 (fB 0))).setCell ⟨qb, 1, none⟩ (.int .i64 (fB 1))).setCell ⟨qb, 2, none⟩ (.int .i64 (fB 2))).setCell ⟨qb, 3, none⟩ (.int .i64 (fB 3))).setCell ⟨qb, 4, none⟩ (.int .i64 (fB 4))).setCell ⟨qb, 5, none⟩ (.int .i64 (fB 5))).setCell ⟨qb, 6, none⟩ (.int .i64 (fB 6))).setCell ⟨qb, 7, none⟩ (.int .i64 (fB 7))).setCell ⟨qb, 8, none⟩ (.slice aB lB.length cB)) := (HV1.out.mono (fun _ _ h => .inl h)).trans ((HOB.out.mono (fun _ _ h => h.elim)).trans OZ (fun _ _ h => .inr h)) (fun _ _ h => h)
          have OW : Off (fun _ => False) w (((((((((wB.setCell ⟨qb, 0, none⟩ (.int .i64 (fB 0))).setCell ⟨qb, 1, none⟩ (.int .i64 (fB 1))).setCell ⟨qb, 2, none⟩ (.int .i64 (fB 2))).setCell ⟨qb, 3, none⟩ (.int .i64 (fB 3))).setCell ⟨qb, 4, none⟩ (.int .i64 (fB 4))).setCell ⟨qb, 5, none⟩ (.int .i64 (fB 5))).setCell ⟨qb, 6, none⟩ (.int .i64 (fB 6))).setCell ⟨qb, 7, none⟩ (.int .i64 (fB 7))).setCell ⟨qb, 8, none⟩ (.slice aB lB.length cB)) := HO.out.trans OF (fun i hi h => by have := HQS.out; omega)
          generalize hv2 : (((((((((wB.setCell ⟨qb, 0, none⟩ (.int .i64 (fB 0))).setCell ⟨qb, 1, none⟩ (.int .i64 (fB 1))).setCell ⟨qb, 2, none⟩ (.int .i64 (fB 2))).setCell ⟨qb, 3, none⟩ (.int .i64 (fB 3))).setCell ⟨qb, 4, none⟩ (.int .i64 (fB 4))).setCell ⟨qb, 5, none⟩ (.int .i64 (fB 5))).setCell ⟨qb, 6, none⟩ (.int .i64 (fB 6))).setCell ⟨qb, 7, none⟩ (.int .i64 (fB 7))).setCell ⟨qb, 8, none⟩ (.slice aB lB.length cB)) = v2 at ZB OZ MB2 MA2 ZA OF OW ⊢
          have HZA : Hid _ := ZA
          have HZB : Hid _ := ZB
          have HMA2 : Hid _ := MA2
          have HMB2 : Hid _ := MB2
          have HOZ : Hid _ := OW
          clear hv2 ZA ZB OZ MA2 MB2 OF OW x0 x1 x2 x3 x4 x5 x6 x7 x8 CB fz
          go_wp2_with fail
          go_roundw
          case rel => exact ⟨i + 1, fA, fB, aA, cA, lA, aB, cB, lB, by go_num, by omega, HZA.out, HMA2.out, by rw [HHA.out, HLA.out]; exact HSA.out.2, HZB.out, HMB2.out, by rw [HHB.out, HLB.out]; exact HSB.out.2, HOZ.out⟩
          case measure => simp [intOf]; omega
        · have e1 : decide ((i : Int) < 10) = false := decide_eq_false (by omega)
          obtain ⟨x0, x1, x2, x3, x4, x5, x6, x7, x8⟩ := cel9 CA
          obtain ⟨y0, y1, y2, y3, y4, y5, y6, y7, y8⟩ := cel9 CB
          have e10 : i = 10 := by omega
          rw [e10] at HCA HCB
          have HE10 : Hid _ := e10
          have ce := chain_end HCA.out HCB.out
          have cj := chain_join HCA.out HCB.out
          have nl : l.length = 10 := by rw [← cont_len]; exact HCA.out.len
          have nm : m.length = 10 := by rw [← cont_len]; exact HCB.out.len
          have HNL : Hid (((l.length : Int) != 10) = false) := by show _ = false; simp [nl]
          have HNM : Hid (((m.length : Int) != 10) = false) := by show _ = false; simp [nm]
          have HCE : Hid _ := ce
          have HCJ : Hid _ := cj
          clear e10 ce cj nl nm CA CB hlt
          go_wp2_with fail
          refine (sjoin_any f g a b c d l m _ HMA.out.row HMB.out.row).mono ?_
          rintro e w3 ⟨j, a3, c3, l3, rfl, hj, hl3, md3, o3⟩
          have O3 := HO.out.trans o3 (fun _ _ h => h)
          have CA := HXA.out.off o3 (fun h => h)
          have CB := HXB.out.off o3 (fun h => h)
          have hm3 := HCJ.out.2.2
          rw [← hj, ← hl3] at hm3
          have hce := HCE.out
          rw [← hj, ← hl3] at hce
          have HM3 : Hid _ := hm3
          have HE3 : Hid _ := hce
          clear hj hl3 hm3 hce x0 x1 x2 x3 x4 x5 x6 x7 x8 y0 y1 y2 y3 y4 y5 y6 y7 y8
          go_upto_region 22 with fail
          have C3 := Cel.new w3 27 #[.int .i64 (j 0), .int .i64 (j 1), .int .i64 (j 2), .int .i64 (j 3), .int .i64 (j 4), .int .i64 (j 5), .int .i64 (j 6), .int .i64 (j 7), .slice a3 l3.length c3]
          have O4 : Off (fun _ => False) w3 (w3.alloc (.cells #[.int .i64 (j 0), .int .i64 (j 1), .int .i64 (j 2), .int .i64 (j 3), .int .i64 (j 4), .int .i64 (j 5), .int .i64 (j 6), .int .i64 (j 7), .slice a3 l3.length c3] 27)) := (Off.refl _ w3).alloc _
          have r3 := md3.row.off O4
          replace CA := CA.off O4 (fun h => h)
          replace CB := CB.off O4 (fun h => h)
          replace O3 := O3.trans O4 (fun _ _ h => h)
          generalize hq3 : w3.heap.size = q3 at C3 ⊢
          generalize hv3 : w3.alloc (.cells #[.int .i64 (j 0), .int .i64 (j 1), .int .i64 (j 2), .int .i64 (j 3), .int .i64 (j 4), .int .i64 (j 5), .int .i64 (j 6), .int .i64 (j 7), .slice a3 l3.length c3] 27) = v3 at C3 O3 CA CB r3 ⊢
          clear hq3 hv3 O4 md3
          obtain ⟨hlen, h0, h1, h9, h15⟩ := HE3.out
          rw [cont_len] at hlen
          obtain ⟨x9, hx9⟩ : ∃ v, l3[9]? = some v := ⟨_, List.getElem?_eq_getElem (by omega)⟩
          obtain ⟨x15, hx15⟩ : ∃ v, l3[15]? = some v := ⟨_, List.getElem?_eq_getElem (by omega)⟩
          obtain ⟨b3, o3', ha3, k9, -⟩ := r3.at_ 9 x9 hx9
          obtain ⟨b4, o4', hb4, k15, -⟩ := r3.at_ 15 x15 hx15
          subst ha3
          simp only [Option.some.injEq, Addr.mk.injEq, and_true] at hb4
          obtain ⟨rfl, rfl⟩ := hb4
          have d9 := h9 _ (get_cont hx9)
          have d15 := h15 _ (get_cont hx15)
          simp only [V.abs] at d9 d15
          obtain ⟨k0, k1, -, -⟩ := k9
          obtain ⟨m0, m1, -, -⟩ := k15
          rw [d9.1] at k0
          rw [d9.2] at k1
          rw [d15.1] at m0
          rw [d15.2] at m1
          have y0 : v3.cell? ⟨q3, 0, none⟩ = some (.int .i64 10) := by rw [← h0]; exact C3.cell 0
          have y1 : v3.cell? ⟨q3, 1, none⟩ = some (.int .i64 10) := by rw [← h1]; exact C3.cell 1
          have y8 : v3.cell? ⟨q3, 8, none⟩ = some (.slice (some ⟨b3, o3', none⟩) l3.length c3) := C3.cell 8
          have za : v3.cell? ⟨qa, 8, none⟩ = some (.slice a l.length c) := CA.cell 8
          have zb : v3.cell? ⟨qb, 8, none⟩ = some (.slice b m.length d) := CB.cell 8
          have t1 := HNL.out
          have t2 := HNM.out
          have t3 : ((l3.length : Int) != 16) = false := by simp [hlen]
          have t4 : decide ((9 : Int) < (l3.length : Int)) = true := decide_eq_true (by omega)
          have t5 : decide ((15 : Int) < (l3.length : Int)) = true := decide_eq_true (by omega)
          have t6 : decide (9 < l3.length) = true := decide_eq_true (by omega)
          have t7 : decide (15 < l3.length) = true := decide_eq_true (by omega)
          have t8 : 9 < l3.length := by omega
          have t9 : 15 < l3.length := by omega
          have y2 : v3.cell? ⟨q3, 2, none⟩ = some (.int .i64 (j 2)) := C3.cell 2
          have y3 : v3.cell? ⟨q3, 3, none⟩ = some (.int .i64 (j 3)) := C3.cell 3
          have y4 : v3.cell? ⟨q3, 4, none⟩ = some (.int .i64 (j 4)) := C3.cell 4
          have y5 : v3.cell? ⟨q3, 5, none⟩ = some (.int .i64 (j 5)) := C3.cell 5
          have y6 : v3.cell? ⟨q3, 6, none⟩ = some (.int .i64 (j 6)) := C3.cell 6
          have y7 : v3.cell? ⟨q3, 7, none⟩ = some (.int .i64 (j 7)) := C3.cell 7
          have SM := smay_any j (some ⟨b3, o3', none⟩) c3 l3 v3 r3
          rw [h0, h1, may_yes HM3.out] at SM
          have HSM : Hid _ := SM
          have HO3 : Hid _ := O3
          clear SM C3 r3 O3 CA CB hx9 hx15 d9 d15 h9 h15 h0 h1 HM3 HE3 hlen HXA HXB HMA HMB HCA HCB HCE HCJ HNL HNM o3
          go_wp2_with fail
          refine Calls.mono HSM.out ?_
          rintro e w5 ⟨rfl, o5⟩
          go_wp2_with fail
          refine (awake_any _).mono ?_
          rintro e w6 ⟨rfl, o6⟩
          go_wp2_with fail
          go_ret
          exact ⟨rfl, HO3.out.trans (o5.trans o6 (fun _ _ h => h)) (fun _ _ h => h)⟩
end Go.Proofs.Ytfkpnmmcdhibbac
