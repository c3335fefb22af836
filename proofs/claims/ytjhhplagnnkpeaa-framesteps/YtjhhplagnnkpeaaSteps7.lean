/- The walk of FrameSteps. -/
import Derived.Test.YtjhhplagnnkpeaaRws
namespace Go.Proofs.Ytjhhplagnnkpeaa
open Go.RowKit

theorem Got.head {l : List Nat} {rs : List (List Nat)} {i m : Nat} {r : List Nat} (h : Got l (rs.drop i) m) (hr : rs[i]? = some r) : tkE l = 0 ∧ r = tkR l ∧ ∃ k, m = tkN l + k ∧ Got (l.drop (tkN l)) (rs.drop (i + 1)) k := by
  obtain ⟨hi, e⟩ := List.getElem?_eq_some_iff.1 hr
  rw [List.drop_eq_getElem_cons hi, e] at h
  exact h

set_option maxRecDepth 100000 in
set_option maxHeartbeats 1000000 in
theorem steps_walk (a : Option Addr) (cap : Nat) (bl : List B) (tm : Option Addr) (cm : Nat) (ms : List Nat) (w : World) (hb : ArgL w a bl) (hm : ArgB w tm ms.length cm ms) :
    Calls Try.prog 8 #[.slice a bl.length cap, .slice tm ms.length cm] w fun e w' => e = .returned (.bool true) ∧ Off (fun _ => False) w w' := by
  have HIM : Hid _ := hm.inp
  have HA : Hid _ := hb
  have lm := hm.bound
  clear hb hm
  go_enter Try.func8, Try.ntmps8
  go_wp2_with fail
  refine (smallR_any cap HA.out).mono ?_
  rintro e v0 ⟨tr, cr, sl, rfl, RW, -, -, O0⟩
  have HRW : Hid _ := RW
  have HO0 : Hid _ := O0
  have s20 := RW.len
  clear RW O0 HA
  go_wp2_with fail
  go_loopw [5, 25] (fun x y wr => ∃ (i : Nat) (t : Option Addr) (c : Nat), y = .int .i64 (i : Int) ∧ x = .slice t (fr sl i).length c ∧ i ≤ sl.length ∧ OwnR wr t c (fr sl i) ∧ (∀ k, blk t = some k → v0.heap.size ≤ k) ∧ Off (fun _ => False) v0 wr) (fun _ y _ => (sl.length - intOf y).toNat)
  case atStart => exact ⟨0, none, 0, rfl, rfl, by omega, OwnR.nil _, fun k hk => by simp [blk] at hk, Off.refl _ _⟩
  case round =>
    obtain ⟨i, t, c, rfl, rfl, hi, own, hlo, O⟩ := hrel
    have HOWN : Hid _ := own
    have HLO : Hid _ := hlo
    have HO : Hid _ := O
    clear own hlo O
    by_cases hlt : i < sl.length
    · have e1 : decide ((i : Int) < (sl.length : Int)) = true := decide_eq_true (by omega)
      have e2 : decide (i < sl.length) = true := decide_eq_true hlt
      obtain ⟨x, g, hx, hm, rfl, kc⟩ := (HRW.out.off HO.out).at_ hlt
      have HST : Hid _ := fr_succ hx
      have IX : Hid _ := (HRW.out.inp x hm).free HO.out
      have l5 := HRW.out.five x hm
      have lf := HRW.out.fr_len i
      have HLT : Hid _ := HRW.out.fr_lt i
      clear hx hm
      have P1 : Hid _ := put_any (HOWN.out.inp HLT.out) IX.out (by omega) (by omega)
      rw [← HST.out] at P1
      generalize fr sl i = ys at *
      go_wp2_with fail
      refine Calls.mono P1.out ?_
      rintro e w1 ⟨t1, c1, rfl, R1, fr1, O1⟩
      have HR1 : Hid _ := R1
      have HF1 : Hid _ := fr1
      have HO1 : Hid _ := O1
      clear P1 R1 fr1 O1 kc
      go_wp2_with fail
      go_roundw
      case rel => exact ⟨i + 1, t1, c1, by go_num, rfl, by omega, HR1.out, fun k hk => by have := HF1.out k hk; have := HO.out.size; omega, HO.out.trans HO1.out (fun _ _ h => h)⟩
      case measure => simp [intOf]; omega
    · have e1 : decide ((i : Int) < (sl.length : Int)) = false := decide_eq_false (by omega)
      have e2 : decide (i < sl.length) = false := decide_eq_false hlt
      have lf := HRW.out.fr_len i
      have HLT : Hid _ := HRW.out.fr_lt i
      generalize fr sl i = ys at *
      have FW : Hid (Off (fun _ => False) w wr) := HO0.out.trans HO.out (fun _ _ h => h)
      by_cases h3 : 300 < ms.length
      · have d1 : decide ((300 : Int) < (ms.length : Int)) = true := decide_eq_true (by omega)
        go_wp2_with fail
        refine (awake_any _).mono ?_
        rintro e va ⟨rfl, oa⟩
        go_wp2_with fail
        go_ret
        exact ⟨rfl, FW.out.trans oa (fun _ _ h => h)⟩
      have d1 : decide ((300 : Int) < (ms.length : Int)) = false := decide_eq_false (by omega)
      go_wp2_with (at_builtin; refine wpList_app rfl (.tmp 43) (.tmp 44) rfl t c ys rfl HOWN.out tm cm ms rfl (HIM.out.free FW.out).src (by omega) ?_; intro t2 c2 w2 zs hzs own2 off2 at2)
      have lz : zs.length ≤ 20000 := by rw [hzs.out, List.length_append]; omega
      have HLZ : Hid (∀ x ∈ zs, x < 256) := fun x hx => by
        rw [hzs.out] at hx
        rcases List.mem_append.1 hx with h | h
        · exact HLT.out x h
        · exact HIM.out.lt x h
      have F2 : Hid (Off (fun _ => False) w w2) := ((FW.out.mono (fun _ _ h => h.elim)).trans off2 (fun _ _ h => h)).mono (fun j hj e => by have := HLO.out j e; have := HO0.out.size; omega)
      have IZ : Hid _ := own2.inp HLZ.out
      clear hzs own2 off2 at2 HOWN HLO HO FW HIM HLT
      generalize ys = ys' at *
      refine (all_any IZ.out (by omega)).mono ?_
      rintro e w3 ⟨t3, c3, rl, n, er, rfl, OG, -, HB, HAL, O3⟩
      have F3 : Hid _ := F2.out.trans O3 (fun _ _ h => h)
      have IZ3 : Hid _ := IZ.out.free O3
      have HOG : Hid _ := OG
      have HBB : Hid _ := HB
      have HGT : Hid _ := HAL.got
      have HNE : Hid _ := HAL.ne
      have hnl := HAL.got.le
      have hml := HAL.got.many
      rw [List.length_map] at hml
      clear OG HB HAL O3 IZ F2
      go_wp2_with fail
      go_loopw [13, 54] (fun x y wr => ∃ (i a m : Nat), y = .int .i64 (i : Int) ∧ x = .int .i64 (a : Int) ∧ i ≤ rl.length ∧ a + m = n ∧ Got (zs.drop a) ((rl.map B.data).drop i) m ∧ Off (fun _ => False) w3 wr) (fun _ y _ => (rl.length - intOf y).toNat)
      case atStart => exact ⟨0, 0, n, rfl, rfl, by omega, by omega, HGT.out, Off.refl _ _⟩
      case round =>
        obtain ⟨j, a, m, rfl, rfl, hj, ham, hg, O⟩ := hrel
        have HG : Hid _ := hg
        have HO : Hid _ := O
        have HAM : Hid _ := ham
        have haz : a ≤ zs.length := by omega
        clear hg O ham
        obtain ⟨td, sd, id, bd⟩ := (IZ3.out.free HO.out).drop (k := a) haz
        have HID : Hid _ := id
        have ldd : (zs.drop a).length ≤ 20000 := by rw [List.length_drop]; omega
        clear id bd
        by_cases hlj : j < rl.length
        · have e1 : decide ((j : Int) < (rl.length : Int)) = true := decide_eq_true (by omega)
          have e2 : decide (j < rl.length) = true := decide_eq_true hlj
          obtain ⟨y, hy⟩ : ∃ y, rl[j]? = some y := ⟨_, List.getElem?_eq_getElem hlj⟩
          have hyd : (rl.map B.data)[j]? = some y.data := by rw [List.getElem?_map, hy]; rfl
          obtain ⟨hE, hR, m', hm', hG'⟩ := HG.out.head hyd
          have hNL := tkR_len hE
          rw [← hR] at hNL
          have hy1 := List.mem_of_getElem? hy
          obtain ⟨gy, rfl, ky⟩ := (HOG.out.off HO.out (fun _ _ _ h => h)).at_ bcs_len hy
          have k0 := ky 0 _ rfl
          simp only [Nat.mul_one, Nat.add_zero] at k0
          have SY : Hid _ := (HBB.out y hy1).1.src.off HO.out (fun _ _ _ h => h)
          have T1 : Hid _ := takeF_any HID.out (by omega)
          rw [hE, ← hR] at T1
          rw [List.drop_drop] at hG'
          have HREL : Hid (a + tkN (zs.drop a) + m' = n ∧ Got (zs.drop (a + tkN (zs.drop a))) ((rl.map B.data).drop (j + 1)) m') := ⟨by have := HAM.out; omega, hG'⟩
          have hat : a + tkN (zs.drop a) ≤ 20000 := by have := HREL.out.1; omega
          have q3 : ((tkN (zs.drop a) : Int) != (y.data.length : Int) + 8) = false := by
            simp
            omega
          have lyd : y.data.length ≤ 20000 := by omega
          clear hE hR hm' hG' hNL hy hyd hy1 ky HG HAM
          obtain ⟨yd, hyd⟩ : ∃ yd, yd = y.data := ⟨_, rfl⟩
          have HYD : Hid _ := hyd
          rw [← hyd] at k0 q3 T1 SY lyd
          clear hyd
          generalize zs.drop a = ds at *
          generalize tkN ds = tn at *
          go_wp2_with fail
          refine Calls.mono T1.out ?_
          rintro e w4 ⟨t4, c4, rfl, R4, -, O4⟩
          have hs1 := conv_src R4.src
          have hs2 := conv_src (SY.out.off O4 (fun _ _ _ h => h))
          have F4 : Hid _ := HO.out.trans O4 (fun _ _ h => h)
          clear R4 O4 T1 k0
          go_wp2_with fail
          go_roundw
          case rel => exact ⟨j + 1, a + tn, m', by go_num, by go_num, by omega, HREL.out.1, HREL.out.2, F4.out⟩
          case measure => simp [intOf]; omega
        · have e1 : decide ((j : Int) < (rl.length : Int)) = false := decide_eq_false (by omega)
          have e2 : decide (j < rl.length) = false := decide_eq_false hlj
          have hm0 : m = 0 := by
            have := HG.out
            rw [show (rl.map B.data).drop j = [] from List.drop_of_length_le (by simp; omega)] at this
            exact this
          have han : a = n := by have := HAM.out; omega
          have hne := HNE.out
          rw [← han] at hne
          have q1 : ((a : Int) == (n : Int)) = true := by rw [han]; simp
          have q2 : ((tkE (zs.drop a)) != 0) = true := by simpa using hne
          have T1 : Hid _ := takeF_any HID.out (by omega)
          clear hm0 han hne HG HAM
          generalize zs.drop a = ds at *
          generalize tkE ds = te at *
          generalize tkN ds = tn at *
          generalize tkR ds = rr at *
          go_wp2_with fail
          refine Calls.mono T1.out ?_
          rintro e w4 ⟨t4, c4, rfl, -, -, O4⟩
          have F4 : Hid (Off (fun _ => False) w w4) := F3.out.trans (HO.out.trans O4 (fun _ _ h => h)) (fun _ _ h => h)
          clear O4 T1
          go_wp2_with fail
          refine (awake_any _).mono ?_
          rintro e va ⟨rfl, oa⟩
          go_wp2_with fail
          go_ret
          exact ⟨rfl, F4.out.trans oa (fun _ _ h => h)⟩
end Go.Proofs.Ytjhhplagnnkpeaa
