/- The walk of FrameTakes. -/
import Derived.Test.YtjhhplagnnkpeaaRws
import Derived.Test.YtjhhplagnnkpeaaTells7
import Derived.Test.YtjhhplagnnkpeaaRAll7
namespace Go.Proofs.Ytjhhplagnnkpeaa
open Go.RowKit

theorem xor_any {u x : Nat} (hu : u < 256) (hx : x < 256) : ∃ y : Nat, bits .xor .u8 (u : Int) (x : Int) = (y : Int) ∧ y < 256 :=
  ⟨u ^^^ x, u8_xor_nat u x hu hx, Nat.xor_lt_two_pow (n := 8) hu hx⟩

set_option maxRecDepth 100000 in
set_option maxHeartbeats 2000000 in
theorem takes_walk (a : Option Addr) (cap : Nat) (bl : List B) (tm : Option Addr) (cm : Nat) (ms : List Nat) (ap : Option Addr) (lp cp : Nat) (zp : List Int) (x : Nat) (w : World) (hb : ArgL w a bl) (hm : Inp w tm cm ms) (lm : ms.length ≤ 1048576) (hp : IsRow .i64 w ap lp cp zp) (hx : x < 256) :
    Calls Try.prog 4 #[.slice a bl.length cap, .slice tm ms.length cm, .slice ap lp cp, .int .u8 (x : Int)] w fun e w' => e = .returned (.bool true) ∧ Off (fun _ => False) w w' := by
  have HIM : Hid _ := hm
  have HA : Hid _ := hb
  have HP : Hid _ := hp.cells
  have lpm := hp.len
  clear hb hm hp
  go_enter Try.func4, Try.ntmps4
  go_wp2_with fail
  refine (smallR_any cap HA.out).mono ?_
  rintro e v0 ⟨tr, cr, sl, rfl, RW, -, -, O0⟩
  have HRW : Hid _ := RW
  have HO0 : Hid _ := O0
  have s20 := RW.len
  clear RW O0 HA
  go_wp2_with fail
  go_loopw [9, 29] (fun x y wr => ∃ (i : Nat) (t : Option Addr) (c : Nat), y = .int .i64 (i : Int) ∧ x = .slice t (fr sl i).length c ∧ i ≤ sl.length ∧ OwnR wr t c (fr sl i) ∧ (∀ k, blk t = some k → v0.heap.size ≤ k) ∧ Off (fun _ => False) v0 wr) (fun _ y _ => (sl.length - intOf y).toNat)
  case atStart => exact ⟨0, none, 0, rfl, rfl, by omega, OwnR.nil _, fun k hk => by simp [blk] at hk, Off.refl _ _⟩
  case round =>
    obtain ⟨i, t, c, rfl, rfl, hi, own, hlo, O⟩ := hrel
    have HOWN : Hid _ := own
    have HLO : Hid _ := hlo
    have HO : Hid _ := O
    clear own hlo O
    by_cases hlt : i < sl.length
    · have e1 : decide ((i : Int) < (sl.length : Int)) = true := decide_eq_true (by omega)
      have e2 : decide (i < sl.length) = true := decide_eq_true hlt
      obtain ⟨y, g, hy, hm, rfl, kc⟩ := (HRW.out.off HO.out).at_ hlt
      have HST : Hid _ := fr_succ hy
      have IX : Hid _ := (HRW.out.inp y hm).free HO.out
      have l5 := HRW.out.five y hm
      have lf := HRW.out.fr_len i
      clear hy hm
      generalize fr sl i = ys at *
      have lfr : (frm y.data).length ≤ 508 := by rw [frm_len]; omega
      go_wp2_with fail
      refine (rframe_any IX.out (by omega)).mono ?_
      rintro e w1 ⟨t1, c1, rfl, R1, fr1, O1⟩
      have HR1 : Hid _ := R1
      have HO1 : Hid _ := O1
      clear R1 fr1 O1 kc
      generalize frm y.data = fs at *
      go_wp2_with (at_builtin; refine wpList_app rfl (.tmp 33) (.tmp 35) rfl t c ys rfl (HOWN.out.off HO1.out (fun _ _ _ h => h)) t1 c1 fs rfl HR1.out.src (by omega) ?_; intro t2 c2 w2 zs hzs own2 off2 at2)
      have HZ : Hid (zs = fr sl (i + 1)) := by
        show zs = fr sl (i + 1)
        rw [HST.out, hzs.out]
      have HW2 : Hid _ := own2
      have HF2 : Hid _ := off2
      clear hzs own2 off2
      go_wp2_with fail
      go_roundw
      case rel =>
        have s0 := HO.out.size
        have s1 := HO1.out.size
        refine ⟨i + 1, t2, c2, by go_num, by rw [← HZ.out], by omega, by rw [← HZ.out]; exact HW2.out, fun k hk => ?_, (((HO.out.trans HO1.out (fun _ _ h => h)).mono (fun _ _ h => h.elim)).trans HF2.out (fun _ _ h => h)).mono (fun j hj e => by have := HLO.out j e; omega)⟩
        rcases at2 with h9 | h9
        · exact HLO.out k (h9 ▸ hk)
        · rw [h9] at hk
          simp at hk
          omega
      case measure => simp [intOf]; omega
    · have e1 : decide ((i : Int) < (sl.length : Int)) = false := decide_eq_false (by omega)
      have e2 : decide (i < sl.length) = false := decide_eq_false hlt
      have lf := HRW.out.fr_len i
      have HLT : Hid _ := HRW.out.fr_lt i
      generalize fr sl i = ys at *
      have FW : Hid (Off (fun _ => False) w wr) := HO0.out.trans HO.out (fun _ _ h => h)
      go_wp2_with (at_builtin; refine wpList_app rfl (.tmp 38) (.tmp 39) rfl t c ys rfl HOWN.out tm cm ms rfl (HIM.out.free FW.out).src (by omega) ?_; intro t2 c2 w2 zs hzs own2 off2 at2)
      have lz : zs.length ≤ 1100000 := by rw [hzs.out, List.length_append]; omega
      have HLZ : Hid (∀ x ∈ zs, x < 256) := fun x hx => by
        rw [hzs.out] at hx
        rcases List.mem_append.1 hx with h | h
        · exact HLT.out x h
        · exact HIM.out.lt x h
      have F2 : Hid (Off (fun _ => False) w w2) := ((FW.out.mono (fun _ _ h => h.elim)).trans off2 (fun _ _ h => h)).mono (fun j hj e => by have := HLO.out j e; have := HO0.out.size; omega)
      have HW2 : Hid _ := own2
      have HL2 : Hid (∀ k, blk t2 = some k → w.heap.size ≤ k) := fun k hk => by
        have := HO0.out.size
        have := HO.out.size
        rcases at2 with h9 | h9
        · have := HLO.out k (h9 ▸ hk)
          omega
        · rw [h9] at hk
          simp at hk
          omega
      clear hzs own2 off2 at2 HOWN HLO HO FW HIM HLT HO0
      go_wp2_with fail
      go_loopw [43] (fun y wr => ∃ (j : Nat) (qs : List Nat), y = .int .i64 (j : Int) ∧ j ≤ lp ∧ qs.length = zs.length ∧ OwnR wr t2 c2 qs ∧ (∀ x ∈ qs, x < 256) ∧ Off (fun _ => False) w wr) (fun y _ => (lp - intOf y).toNat)
      case atStart => exact ⟨0, zs, rfl, by omega, rfl, HW2.out, HLZ.out, F2.out⟩
      case round =>
        clear HW2 HLZ F2
        obtain ⟨j, qs, rfl, hj, hql, own, hlt, O⟩ := hrel
        have HQ : Hid _ := own
        have HQT : Hid _ := hlt
        have HO : Hid _ := O
        have HQL : Hid _ := hql
        clear own hlt O
        by_cases hjl : j < lp
        · have e3 : decide ((j : Int) < (lp : Int)) = true := decide_eq_true (by omega)
          have e4 : decide (j < lp) = true := decide_eq_true hjl
          obtain ⟨pb, po, rfl, -, pc⟩ := HP.out j hjl
          have pc2 := keep_cell HO.out pc
          clear pc
          by_cases hj3 : j < 3
          · have q1 : decide ((j : Int) < 3) = true := decide_eq_true (by omega)
            by_cases hz0 : zs.length = 0
            · have q2 : decide ((0 : Int) < (zs.length : Int)) = false := decide_eq_false (by omega)
              have q3 : decide (0 < zs.length) = false := decide_eq_false (by omega)
              have q4 : ¬ 0 < zs.length := by omega
              have HZ0 : Hid _ := hz0
              clear hz0 hql
              go_wp2_with fail
              go_roundw
              case rel => exact ⟨j + 1, qs, by go_num, by omega, HQL.out, HQ.out, HQT.out, HO.out⟩
              case measure => simp [intOf]; omega
            · have q2 : decide ((0 : Int) < (zs.length : Int)) = true := decide_eq_true (by omega)
              have q3 : decide (0 < zs.length) = true := decide_eq_true (by omega)
              generalize zp.getD j 0 = p at *
              obtain ⟨m, hm, em⟩ := u64_mod p zs.length (by omega)
              have ew : wrap64 (m : Int) = (m : Int) := by simp only [wrap64]; omega
              have hmq : m < qs.length := by rw [hql]; exact hm
              obtain ⟨g, hg⟩ : ∃ g, t2 = some ⟨g, 0, none⟩ := by
                rcases HQ.out.shape with ⟨-, h0, -⟩ | ⟨g, h0, -⟩
                · rw [h0] at hmq; simp at hmq
                · exact ⟨g, h0⟩
              subst hg
              obtain ⟨k1, k2⟩ := HQ.out.cellAt hmq
              obtain ⟨y, ey, hy⟩ := xor_any (getD_lt HQT.out m hmq) hx
              have R2 : Hid _ := HQ.out.set m y
              have hg := HL2.out g rfl
              have O2 : Hid (Off (fun _ => False) w (wr.setCell ⟨g, m, none⟩ (.int .u8 (y : Int)))) := HO.out.setCell (.inr hg) _
              have LT2 : Hid (∀ x ∈ qs.set m y, x < 256) := fun x hx => by
                rcases List.mem_or_eq_of_mem_set hx with h | rfl
                · exact HQT.out x h
                · exact hy
              have QL2 : Hid ((qs.set m y).length = zs.length) := by
                show (qs.set m y).length = zs.length
                rw [List.length_set]
                exact HQL.out
              obtain ⟨u, hu⟩ : ∃ u, u = qs.getD m 0 := ⟨_, rfl⟩
              rw [← hu] at k1 ey
              clear hu
              have hmz : (m : Int) < (zs.length : Int) := Int.ofNat_lt.2 hm
              have z1 : 1 ≤ zs.length := Nat.lt_of_le_of_lt (Nat.zero_le _) hm
              clear hql hmq hz0
              go_wp2_with fail
              go_roundw
              case rel => exact ⟨j + 1, qs.set m y, by go_num, by omega, QL2.out, R2.out, LT2.out, O2.out⟩
              case measure => simp [intOf]; omega
          · have q1 : decide ((j : Int) < 3) = false := decide_eq_false (by omega)
            clear hql
            go_wp2_with fail
            go_roundw
            case rel => exact ⟨j + 1, qs, by go_num, by omega, HQL.out, HQ.out, HQT.out, HO.out⟩
            case measure => simp [intOf]; omega
        · have e3 : decide ((j : Int) < (lp : Int)) = false := decide_eq_false (by omega)
          have e4 : decide (j < lp) = false := decide_eq_false hjl
          have I1 : Hid _ := HQ.out.inp HQT.out
          have lq : qs.length ≤ 1100000 := by rw [hql]; exact lz
          have T1 : Hid _ := takeF_any I1.out (by omega)
          rw [hql] at T1
          clear hql
          go_wp2_with fail
          refine Calls.mono T1.out ?_
          rintro e w3 ⟨t3, c3, rfl, R3, -, O3⟩
          have F3 : Hid _ := HO.out.trans O3 (fun _ _ h => h)
          have T4 : Hid _ := rtake_any (I1.out.free O3) (by omega)
          rw [HQL.out] at T4
          go_wp2_with fail
          refine Calls.mono T4.out ?_
          rintro e w4 ⟨t4, c4, rfl, R4, -, O4⟩
          have F4 : Hid _ := F3.out.trans O4 (fun _ _ h => h)
          have cs1 := conv_src (R3.src.off O4 (fun _ _ _ h => h))
          have cs2 := conv_src R4.src
          have A5 : Hid _ := all_any ((I1.out.free O3).free O4) (by omega)
          have I4 : Hid _ := (I1.out.free O3).free O4
          rw [HQL.out] at A5
          clear R3 O3 R4 O4 T1 T4 I1
          have q1 : (tkE qs != tkE qs) = false := by simp
          generalize tkE qs = te at *
          generalize tkN qs = tn at *
          generalize tkR qs = trr at *
          go_wp2_with fail
          refine Calls.mono A5.out ?_
          rintro e w5 ⟨t5, c5, b5, n5, er5, rfl, OG5, -, HB5, AL5, O5⟩
          have F5 : Hid _ := F4.out.trans O5 (fun _ _ h => h)
          have A6 : Hid _ := rall_any (I4.out.free O5) (by omega)
          rw [HQL.out] at A6
          have HOG5 : Hid _ := OG5
          have HBB5 : Hid _ := HB5
          have HAL5 : Hid _ := AL5
          clear OG5 HB5 AL5 O5 A5 cs1 cs2
          go_wp2_with fail
          refine Calls.mono A6.out ?_
          rintro e w6 ⟨t6, c6, b6, n6, er6, rfl, OG6, -, HB6, AL6, O6⟩
          have F6 : Hid _ := F5.out.trans O6 (fun _ _ h => h)
          obtain ⟨hd, hn, he⟩ := HAL5.out.uniq AL6
          subst hn he
          have hml := HAL5.out.got.many
          have hnl := HAL5.out.got.le
          rw [List.length_map] at hml
          have SB : Hid _ := samebytes_any t5 t6 c5 c6 b5 b6 w6 (HOG5.out.off O6 (fun _ _ _ h => h)) OG6 (fun b hb => (HBB5.out b hb).1.src.off O6 (fun _ _ _ h => h)) (fun b hb => (HB6 b hb).1.src) hd (by omega)
          clear OG6 HB6 AL6 O6 A6 hd HAL5
          go_wp2_with fail
          refine Calls.mono SB.out ?_
          rintro e w7 ⟨rfl, O7⟩
          have F7 : Hid _ := F6.out.trans O7 (fun _ _ h => h)
          clear O7 SB
          go_wp2_with fail
          refine (awake_any _).mono ?_
          rintro e va ⟨rfl, oa⟩
          go_wp2_with fail
          go_ret
          exact ⟨rfl, F7.out.trans oa (fun _ _ h => h)⟩
end Go.Proofs.Ytjhhplagnnkpeaa
