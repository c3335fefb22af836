/- The walk of FrameBack. -/
import Derived.Test.YtjhhplagnnkpeaaRws
import Derived.Test.YtjhhplagnnkpeaaTells7
namespace Go.Proofs.Ytjhhplagnnkpeaa
open Go.RowKit

/-- Where the records end. -/
def ens (sl : List B) (i : Nat) : List Nat := (List.range i).map fun k => (fr sl (k + 1)).length
theorem ens_zero (sl : List B) : ens sl 0 = [] := rfl
theorem ens_succ (sl : List B) (i : Nat) : ens sl (i + 1) = ens sl i ++ [(fr sl (i + 1)).length] := by simp [ens, List.range_succ]
theorem ens_len (sl : List B) (i : Nat) : (ens sl i).length = i := by simp [ens]
theorem ens_get (sl : List B) {i k : Nat} (h : k < i) : (ens sl i)[k]? = some (fr sl (k + 1)).length := by simp [ens, List.getElem?_range h]
def ncs (n : Nat) : List Value := [.int .i64 (n : Int)]
theorem ncs_len (n : Nat) : (ncs n).length = 1 := rfl
theorem ncs_one (n : Nat) : ∀ u ∈ ncs n, u.oneCell' = true := by simp [ncs, Value.oneCell']
theorem Try.infoI : (Try.prog.info? 3).map (fun i => (i.zero, i.size, i.bytes)) = some (some (.int .i64 0), 1, 8) := by kernel_rfl
theorem ens_at {w : World} {t : Option Addr} {c : Nat} {sl : List B} {i k : Nat} (h : OwnG 3 1 ncs w t c (ens sl i)) (hk : k < i) : ∃ g, t = some ⟨g, 0, none⟩ ∧ w.cell? ⟨g, k, none⟩ = some (.int .i64 (((fr sl (k + 1)).length : Nat) : Int)) := by
  obtain ⟨g, e, kk⟩ := h.at_ ncs_len (ens_get sl hk)
  have k0 := kk 0 _ rfl
  simp only [Nat.mul_one, Nat.add_zero] at k0
  exact ⟨g, e, k0⟩

set_option maxRecDepth 100000 in
set_option maxHeartbeats 2000000 in
theorem back_walk (a : Option Addr) (cap : Nat) (bl : List B) (p : Int) (w : World) (hb : ArgL w a bl) (_ : -9223372036854775808 ≤ p ∧ p ≤ 9223372036854775807) :
    Calls Try.prog 6 #[.slice a bl.length cap, .int .i64 p] w fun e w' => e = .returned (.bool true) ∧ Off (fun _ => False) w w' := by
  have HA : Hid _ := hb
  have hnot : ∀ (x : Bool) (w : World), (Op.unary .not (.bool x)).run Try.prog w = .ok (.bool (!x)) w := fun _ _ => rfl
  clear hb
  go_enter Try.func6, Try.ntmps6
  go_wp2_with fail
  refine (smallR_any cap HA.out).mono ?_
  rintro e v0 ⟨tr, cr, sl, rfl, RW, -, -, O0⟩
  have HRW : Hid _ := RW
  have HO0 : Hid _ := O0
  have s20 := RW.len
  clear RW O0 HA
  go_wp2_with fail
  go_loopw [6, 7, 24] (fun x z y wr => ∃ (i : Nat) (t : Option Addr) (c : Nat) (te : Option Addr) (ce : Nat), y = .int .i64 (i : Int) ∧ x = .slice t (fr sl i).length c ∧ z = .slice te i ce ∧ i ≤ sl.length ∧ OwnR wr t c (fr sl i) ∧ OwnG 3 1 ncs wr te ce (ens sl i) ∧ (∀ k, blk te = some k → v0.heap.size ≤ k ∧ blk t ≠ some k) ∧ Off (fun _ => False) v0 wr) (fun _ _ y _ => (sl.length - intOf y).toNat)
  case atStart => exact ⟨0, none, 0, none, 0, rfl, rfl, rfl, by omega, OwnR.nil _, OwnG.nil _ _ _ _, fun k hk => by simp [blk] at hk, Off.refl _ _⟩
  case round =>
    obtain ⟨i, t, c, te, ce, rfl, rfl, rfl, hi, own, owne, hlo, O⟩ := hrel
    have HOWN : Hid _ := own
    have HOWE : Hid _ := owne
    have HLO : Hid _ := hlo
    have HO : Hid _ := O
    clear own owne hlo O
    by_cases hlt : i < sl.length
    · have e1 : decide ((i : Int) < (sl.length : Int)) = true := decide_eq_true (by omega)
      have e2 : decide (i < sl.length) = true := decide_eq_true hlt
      obtain ⟨x, g, hx, hm, rfl, kc⟩ := (HRW.out.off HO.out).at_ hlt
      have HST := fr_succ hx
      have IX : Hid _ := (HRW.out.inp x hm).free HO.out
      have l5 := HRW.out.five x hm
      have lf := HRW.out.fr_len i
      have lf1 := HRW.out.fr_len (i + 1)
      have HLT : Hid _ := HRW.out.fr_lt i
      clear hx hm
      have P1 : Hid _ := put_any (HOWN.out.inp HLT.out) IX.out (by omega) (by omega)
      rw [← HST] at P1
      have HEN : Hid _ := ens_succ sl i
      have HEL : Hid _ := ens_len sl i
      generalize ens sl i = es at *
      generalize hen1 : ens sl (i + 1) = es1 at *
      have HE1 : Hid _ := hen1
      clear hen1
      clear HST
      generalize fr sl i = ys at *
      generalize hzz : fr sl (i + 1) = zs at *
      have HZZ : Hid _ := hzz
      clear hzz
      go_wp2_with fail
      refine Calls.mono P1.out ?_
      rintro e w1 ⟨t1, c1, rfl, R1, fr1, O1⟩
      have HR1 : Hid _ := R1
      have HF1 : Hid _ := fr1
      have HO1 : Hid _ := O1
      clear P1 R1 fr1 O1 kc
      have OA : Off (fun _ => False) w1 (w1.alloc (.cells #[.int .i64 (zs.length : Int)] 3)) := (Off.refl _ w1).alloc _
      have own4 := (HOWE.out.off HO1.out (fun _ _ _ h => h)).off OA (fun _ _ _ h => h)
      have cn := Cel.new w1 3 #[.int .i64 (zs.length : Int)]
      have hcn : ∀ j u, (ncs zs.length)[j]? = some u → (w1.alloc (.cells #[.int .i64 (zs.length : Int)] 3)).cell? ⟨w1.heap.size, j, none⟩ = some u := fun j u hj => by
        rw [cn.cell j]
        simpa [ncs] using hj
      have HOA : Hid _ := OA
      clear OA cn
      go_wp2_with (at_builtin; refine wpList_appG rfl (.tmp 37) (.tmp 40) Try.underlying30 Try.infoI rfl (by decide) (by decide) ncs_len ncs_one rfl te ce es (by rw [HEL.out]; rfl) own4 w1.heap.size 1 zs.length rfl hcn (by have := HEL.out; omega) ?_; intro t' c' w' qs hqs own' off' at')
      have HQS : Hid (qs = es1) := by
        show qs = es1
        rw [hqs.out, HEN.out]
      have HQL : Hid (qs.length = i + 1) := by
        show qs.length = i + 1
        rw [hqs.out, List.length_append, HEL.out]
        rfl
      have HOW' : Hid _ := own'
      have HOF' : Hid _ := off'
      clear own' off' own4 hcn hqs
      go_wp2_with fail
      go_roundw
      case rel =>
        have s1 := HO1.out.size
        have s0 := HO.out.size
        simp only [World.size_alloc] at at'
        have hold : ∀ k, blk te = some k → k < wr.heap.size := HOWE.out.lt
        have tf : ∀ k, blk t' = some k → v0.heap.size ≤ k ∧ blk t1 ≠ some k := fun k hk => by
          rcases at' with h9 | h9
          · have := HLO.out k (h9 ▸ hk)
            refine ⟨this.1, fun e => ?_⟩
            have h1 := HF1.out k e
            have h2 := hold k (h9 ▸ hk)
            omega
          · rw [h9] at hk
            simp at hk
            refine ⟨by omega, fun e => ?_⟩
            have h1 := HR1.out.lt k e
            omega
        have FA := (HO.out.trans HO1.out (fun _ _ h => h)).trans HOA.out (fun _ _ h => h)
        refine ⟨i + 1, t1, c1, t', c', by go_num, by rw [HZZ.out], by rw [HQL.out], by omega, by rw [HZZ.out]; exact (HR1.out.off HOA.out (fun _ _ _ h => h)).off HOF'.out (fun c _ hc e => by have h1 := HF1.out c hc; have h2 := hold c e; omega), by rw [HE1.out, ← HQS.out]; exact HOW'.out, tf, ((FA.mono (fun _ _ h => h.elim)).trans HOF'.out (fun _ _ h => h)).mono (fun j hj e => by have := (HLO.out j e).1; omega)⟩
      case measure => simp [intOf]; omega
    · have e1 : decide ((i : Int) < (sl.length : Int)) = false := decide_eq_false (by omega)
      have e2 : decide (i < sl.length) = false := decide_eq_false hlt
      have hil : i = sl.length := by omega
      have HIL : Hid _ := hil
      have HREC : Hid _ := HRW.out.rec_
      have lf := HRW.out.fr_len i
      have HLT : Hid _ := HRW.out.fr_lt i
      have HFA : Hid (fr sl i = frs (sl.map B.data)) := by
        show fr sl i = _
        rw [hil, fr_all]
      have IB : Hid _ := HOWN.out.inp HLT.out
      have hbi : sl.length ≤ i := by omega
      have hbi2 : i ≤ 20 := by omega
      have F0 : Hid (Off (fun _ => False) w wr) := HO0.out.trans HO.out (fun _ _ h => h)
      have HEX : Hid (8 * i ≤ (fr sl i).length) := by
        have h1 := (al_frs HREC.out).got.many
        rw [List.length_map, ← HFA.out, ← hil] at h1
        show 8 * i ≤ _
        omega
      have HALL : Hid _ := al_frs HREC.out
      rw [← HFA.out] at HALL
      have HCUT : Hid (∀ k cut, k < sl.length → (fr sl k).length ≤ cut → cut < (fr sl (k + 1)).length → Al ((fr sl i).take cut) ((sl.take k).map B.data) (fr sl k).length 0) := fun k cut hk lo hi => by
        rw [HFA.out, List.map_take]
        exact al_cut HREC.out (by simpa using hk) lo hi
      have HOE : Hid _ := HOWE.out
      have HFI : Hid (fr sl i = fr sl sl.length) := by
        show fr sl i = _
        rw [hil]
      clear hil HFA HOWN HOWE HLO
      have HYF : Hid (∃ ys, ys = fr sl i) := ⟨_, rfl⟩
      obtain ⟨ys, hys⟩ := HYF.out
      rw [← hys] at lf HALL HCUT IB HEX HLT HFI ⊢
      have HYS : Hid _ := hys
      clear hys HYF
      go_wp2_with fail
      refine (all_any IB.out (by omega)).mono ?_
      rintro e W1 ⟨t1, c1, rl, n, er, rfl, OG, -, HB, HAL, O1⟩
      obtain ⟨hd1, hn1, he1⟩ := HAL.uniq HALL.out
      subst hn1 he1
      have q1 : (((ys.length : Nat) : Int) != (ys.length : Int)) = false := by simp
      have F1 : Hid _ := F0.out.trans O1 (fun _ _ h => h)
      have F01 : Hid _ := HO.out.trans O1 (fun _ _ h => h)
      have hlr : rl.length ≤ 20 := by
        have := congrArg List.length hd1
        simp at this
        omega
      have SB : Hid _ := samebytes_any t1 tr c1 cr rl sl W1 OG (HRW.out.off F01.out).own (fun b hb => (HB b hb).1.src) (fun b hb => ((HRW.out.off F01.out).inp b hb).src) hd1 (by omega)
      have IB1 : Hid _ := IB.out.free O1
      have HOE1 : Hid _ := HOE.out.off O1 (fun _ _ _ h => h)
      clear OG HB HAL O1 hd1 IB HOE HALL
      go_wp2_with fail
      refine Calls.mono SB.out ?_
      rintro e W0 ⟨rfl, O2⟩
      have F1' : Hid _ := F1.out.trans O2 (fun _ _ h => h)
      have F01' : Hid _ := F01.out.trans O2 (fun _ _ h => h)
      have IB1' : Hid _ := IB1.out.free O2
      have HOE1' : Hid _ := HOE1.out.off O2 (fun _ _ _ h => h)
      clear SB O2 F1 F01 IB1 HOE1
      by_cases h0 : ys.length = 0
      · have hsl : sl.length = 0 := by have := HEX.out; omega
        have z1 : ((ys.length : Int) == 0) = true := by rw [h0]; rfl
        have z2 : ((sl.length : Int) == 0) = true := by rw [hsl]; rfl
        clear h0 hsl
        go_wp2_with fail
        refine (awake_any _).mono ?_
        rintro e va ⟨rfl, oa⟩
        go_wp2_with fail
        go_ret
        exact ⟨rfl, F1'.out.trans oa (fun _ _ h => h)⟩
      have z1 : ((ys.length : Int) == 0) = false := by
        have : ¬ ((ys.length : Int) = 0) := by omega
        simpa using this
      obtain ⟨cut, hcut, em⟩ := u64_mod p ys.length (by omega)
      have ew : wrap64 (cut : Int) = (cut : Int) := by simp only [wrap64]; omega
      have ly1 : 1 ≤ ys.length := by omega
      go_wp2_with fail
      go_loopw [15] (fun x wr => ∃ k : Nat, x = .int .i64 (k : Int) ∧ k ≤ sl.length ∧ (fr sl k).length ≤ cut ∧ Off (fun _ => False) W0 wr) (fun x _ => (sl.length - intOf x).toNat)
      case atStart => exact ⟨0, rfl, by omega, by simp [fr_zero], Off.refl _ _⟩
      case round =>
        obtain ⟨k, rfl, hk, hkc, O⟩ := hrel
        rename_i wr2
        have HO2 : Hid _ := O
        clear O
        have hkl : k < sl.length := by
          rcases Nat.lt_or_ge k sl.length with h | h
          · exact h
          · exfalso
            have : k = sl.length := by omega
            rw [this, ← HFI.out] at hkc
            omega
        have hki : k < i := by have := HIL.out; omega
        have e3 : decide ((k : Int) < (i : Int)) = true := decide_eq_true (by omega)
        have e4 : decide (k < i) = true := decide_eq_true hki
        obtain ⟨ge, hge, kc⟩ := ens_at (HOE1'.out.off HO2.out (fun _ _ _ h => h)) hki
        subst hge
        by_cases hle : (fr sl (k + 1)).length ≤ cut
        · have e5 : decide ((((fr sl (k + 1)).length : Nat) : Int) ≤ (cut : Int)) = true := decide_eq_true (by omega)
          have e6 : decide ((fr sl (k + 1)).length ≤ cut) = true := decide_eq_true hle
          have HLE : Hid (∃ m, m = (fr sl (k + 1)).length ∧ m ≤ cut) := ⟨_, rfl, hle⟩
          clear hle
          have lfk := HRW.out.fr_len (k + 1)
          generalize hzk : (fr sl (k + 1)).length = zk at kc e5 e6 lfk
          clear hzk
          go_wp2_with fail
          go_roundw
          case rel => exact ⟨k + 1, by go_num, by omega, by obtain ⟨m, rfl, h⟩ := HLE.out; exact h, HO2.out⟩
          case measure => simp [intOf]; omega
        · have e5 : decide ((((fr sl (k + 1)).length : Nat) : Int) ≤ (cut : Int)) = false := decide_eq_false (by omega)
          have e6 : decide ((fr sl (k + 1)).length ≤ cut) = false := decide_eq_false hle
          obtain ⟨-, ic⟩ := (IB1'.out.free HO2.out).take (k := cut) (by omega) .i64
          have hcc : cut ≤ c := by have := IB1'.out.cap; omega
          have lct : (ys.take cut).length = cut := by rw [List.length_take]; omega
          have A2 : Hid _ := all_any ic (by omega)
          rw [lct] at A2
          have HAC : Hid _ := HCUT.out k cut hkl hkc (by omega)
          obtain ⟨-, rk⟩ := (HRW.out).take (k := k) (by omega)
          have hkr : k ≤ cr := by
            rcases HRW.out.own.row.2 with ⟨hv, h0⟩ | ⟨g, c', cur, hv, -, -, hc, -⟩
            · omega
            · simp only [Value.slice.injEq] at hv
              obtain ⟨-, -, rfl⟩ := hv
              omega
          have HRK : Hid _ := rk
          have HKL : Hid ((sl.take k).length = k) := by
            show (sl.take k).length = k
            rw [List.length_take]
            omega
          have F2a : Hid _ := F1'.out.trans HO2.out (fun _ _ h => h)
          have F02a : Hid _ := F01'.out.trans HO2.out (fun _ _ h => h)
          have HOE2 : Hid _ := HOE1'.out.off HO2.out (fun _ _ _ h => h)
          have lfk := HRW.out.fr_len (k + 1)
          generalize hzk : (fr sl (k + 1)).length = zk at *
          clear ic rk hle hzk lct
          go_wp2_with fail
          refine Calls.mono A2.out ?_
          clear A2
          rintro e W2 ⟨t2, c2, rl2, n2, er2, rfl, OG2, -, HB2, HAL2, O3⟩
          obtain ⟨hd2, hn2, he2⟩ := HAL2.uniq HAC.out
          subst hn2 he2
          have F2 : Hid _ := F2a.out.trans O3 (fun _ _ h => h)
          have F02 : Hid _ := F02a.out.trans O3 (fun _ _ h => h)
          have HOG2 : Hid _ := OG2
          have HBB2 : Hid _ := HB2
          have HEQ2 : Hid _ := hd2
          have HL2 : Hid (rl2.length ≤ 20) := by
            have := congrArg List.length hd2
            simp at this
            show rl2.length ≤ 20
            omega
          have hl2 := HL2.out
          have SB2 : Hid _ := samebytes_any t2 tr c2 cr rl2 (sl.take k) W2 OG2 (HRK.out.off F02.out).own (fun b hb => (HB2 b hb).1.src) (fun b hb => ((HRK.out.off F02.out).inp b hb).src) hd2 (by omega)
          rw [HKL.out] at SB2
          clear OG2 HB2 HAL2 hd2 kc F2a F02a
          have lfk2 := HRW.out.fr_len k
          by_cases hk0 : k = 0
          · have d0 : decide ((0 : Int) < (k : Int)) = false := decide_eq_false (by omega)
            have d0' : decide (0 < k) = false := decide_eq_false (by omega)
            have d0n : ¬ 0 < k := by omega
            have q2 : ((((fr sl k).length : Nat) : Int) == 0) = true := by rw [hk0, fr_zero]; rfl
            clear O3 hk0
            generalize (fr sl k).length = fk at *
            go_wp2_with fail
            refine Calls.mono SB2.out ?_
            rintro e W3 ⟨rfl, O3⟩
            have F3 : Hid _ := F2.out.trans O3 (fun _ _ h => h)
            clear O3
            go_wp2_with fail
            refine (awake_any _).mono ?_
            rintro e va ⟨rfl, oa⟩
            go_wp2_with fail
            go_ret
            exact ⟨rfl, F3.out.trans oa (fun _ _ h => h)⟩
          · have d0 : decide ((0 : Int) < (k : Int)) = true := decide_eq_true (by omega)
            have d0' : decide (0 < k) = true := decide_eq_true (by omega)
            obtain ⟨ge', hge', kc'⟩ := ens_at (k := k - 1) (HOE2.out.off O3 (fun _ _ _ h => h)) (by omega)
            simp only [Option.some.injEq, Addr.mk.injEq, and_true] at hge'
            obtain rfl := hge'
            rw [show k - 1 + 1 = k by omega] at kc'
            have hk1 : 1 ≤ k := by omega
            have et : ((k : Int) - 1).toNat = k - 1 := by omega
            have hk1i : (k : Int) - 1 < (i : Int) := by omega
            have hk1z : 0 ≤ (k : Int) - 1 := by omega
            have hk20 : k ≤ 20 := by omega
            clear O3 hk0
            generalize (fr sl k).length = fk at *
            go_wp2_with fail
            refine Calls.mono SB2.out ?_
            rintro e W3 ⟨rfl, O3⟩
            have F3 : Hid _ := F2.out.trans O3 (fun _ _ h => h)
            clear O3
            go_wp2_with fail
            refine (awake_any _).mono ?_
            rintro e va ⟨rfl, oa⟩
            go_wp2_with fail
            go_ret
            exact ⟨rfl, F3.out.trans oa (fun _ _ h => h)⟩
end Go.Proofs.Ytjhhplagnnkpeaa
