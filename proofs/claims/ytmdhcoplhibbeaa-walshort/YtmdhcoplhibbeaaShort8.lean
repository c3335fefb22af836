/- The walk of WalShort. -/
import Derived.Test.YtmdhcoplhibbeaaRoom8
namespace Go.Proofs.Ytmdhcoplhibbeaa
open Go.RowKit

theorem wlenC_any {lb : Nat} {p z : Value} {k : Nat} {v : World} (h : Cel lb 63 #[p, .int .i64 (k : Int), z] v) :
    Calls Try.prog 19 #[.pointer (some ⟨lb, 0, none⟩)] v fun e v' => e = .returned (.int .i64 (k : Int)) ∧ v' = v := by
  have c1 : v.cell? ⟨lb, 1, none⟩ = some (.int .i64 (k : Int)) := by rw [h.cell]; rfl
  clear h
  go_enter Try.func19, Try.ntmps19
  go_wp2_with fail
  go_ret
  exact ⟨rfl, rfl⟩
theorem smL_rec {w : World} {a : Option Addr} {bl : List B} (h : ArgL w a bl) : ∀ r ∈ smL (bl.map B.data), Rec r := by
  intro r hr
  simp only [smL, List.mem_filter, decide_eq_true_eq] at hr
  have h1 := List.mem_of_mem_take hr.1
  simp only [List.mem_map] at h1
  obtain ⟨x, hx, rfl⟩ := h1
  exact ⟨by omega, (h.inp x hx).lt⟩

set_option maxRecDepth 100000 in
set_option maxHeartbeats 2000000 in
theorem short_walk (a : Option Addr) (cap : Nat) (bl : List B) (a2 : Option Addr) (cap2 : Nat) (bl2 : List B) (p : Int) (w : World) (hb : ArgL w a bl) (hb2 : ArgL w a2 bl2) (_ : -9223372036854775808 ≤ p ∧ p ≤ 9223372036854775807) :
    Calls Try.prog 7 #[.slice a bl.length cap, .slice a2 bl2.length cap2, .int .i64 p] w fun e w' => e = .returned (.bool true) ∧ Off (fun _ => False) w w' := by
  have HA : Hid _ := hb
  have HA2 : Hid _ := hb2
  have HRC : Hid _ := smL_rec hb2
  obtain ⟨m, hm, em⟩ := u64_mod p 4000 (by omega)
  replace em : (IntKind.u64.wrap p).tmod 4000 = (m : Int) := em
  have ew : wrap64 (m : Int) = (m : Int) := by simp only [wrap64]; omega
  have LL : ∃ L : Nat, (frs (smL (bl2.map B.data))).length = L ∧ L ≤ 100000 := ⟨_, rfl, by
    have h1 : (frs (smL (bl2.map B.data))).length ≤ (smL (bl2.map B.data)).length * (400 + 8) := frs_len (fun r hr => by
      simp only [smL, List.mem_filter, decide_eq_true_eq] at hr
      exact hr.2)
    have h2 := smL_len (bl2.map B.data)
    omega⟩
  obtain ⟨L, hll, hL⟩ := LL
  have HLL : Hid _ := hll
  clear hb hb2 hll
  go_enter Try.func7, Try.ntmps7
  go_wp2_with fail
  clear em
  refine (dnew_any (m : Int) w).mono ?_
  rintro e w1 ⟨b, rfl, hb, K, o1⟩
  rw [roomOf_small (by omega)] at K
  have C1 : Hid _ := wopen_new K
  have N1 : Hid (∀ c, (fun c => c = b) c → w.heap.size ≤ c) := fun c hc => by rw [show c = b from hc]; exact hb
  have O1 : Hid _ := o1
  clear K hb o1 ew
  go_wp2_with fail
  refine Calls.mono C1.out ?_
  rintro e w2 ⟨lb, t2, c2, rfl, D2, lg, ch⟩
  obtain ⟨o2, n2⟩ := ch.new O1.out N1.out
  have S2 : Hid _ := Std.new lg
  have O2 : Hid _ := o2
  have N2 : Hid _ := n2
  have P2 : Hid _ := small_kept cap HA.out o2 lg.lt
  clear C1 lg ch o2 n2 O1 N1
  go_wp2_with fail
  refine Calls.mono P2.out ?_
  rintro e w3 ⟨ts, cs, sl, rfl, kp, -, o3⟩
  have s30 := kp.len
  have R3 : Hid (Rnd w lb b m ts cs sl [] w3) := ⟨O2.out.trans o3 (fun _ _ h => h), D2, S2.out.free o3, kp, N2.out⟩
  clear P2 kp o3 S2 O2 N2 HA
  go_wp2_with fail
  go_loopw [39] (fun y wr => ∃ (i : Nat) (rs : List (List Nat)), y = .int .i64 (i : Int) ∧ i ≤ sl.length ∧ Rnd w lb b m ts cs sl rs wr) (fun y _ => (sl.length - intOf y).toNat)
  case atStart => exact ⟨0, [], rfl, by omega, R3.out⟩
  case round =>
    clear R3
    obtain ⟨i, rs, rfl, hi, rnd⟩ := hrel
    have HR : Hid _ := rnd
    clear rnd
    by_cases hlt : i < sl.length
    · have e1 : decide ((i : Int) < (sl.length : Int)) = true := decide_eq_true (by omega)
      have e2 : decide (i < sl.length) = true := decide_eq_true hlt
      obtain ⟨x, g, hx, hmm, rfl, kc⟩ : ∃ x g, sl[i]? = some x ∧ x ∈ sl ∧ ts = some ⟨g, 0, none⟩ ∧ wr.cell? ⟨g, i, none⟩ = some (.slice x.ad x.data.length x.cap) := by
        obtain ⟨D, -, kp, -⟩ := HR.out.is
        exact (kp.rws HR.out.off).at_ hlt
      have A1 : Hid (Calls Try.prog 23 #[.pointer (some ⟨lb, 0, none⟩), .slice x.ad x.data.length x.cap] wr fun e v' => ∃ er : Int, e = .returned (.int .i64 er) ∧ Rnd w lb b m (some ⟨g, 0, none⟩) cs sl (addL m rs x.data) v') := by
        obtain ⟨D, -, kp, -⟩ := HR.out.is
        exact HR.out.append ((kp.rws HR.out.off).inp x hmm) (by have := kp.five x hmm; omega)
      clear hx hmm
      go_wp2_with fail
      refine Calls.mono A1.out ?_
      rintro e w4 ⟨er, rfl, rn⟩
      have HR4 : Hid _ := rn
      clear rn A1 kc HR
      go_wp2_with fail
      go_roundw
      case rel => exact ⟨i + 1, _, by go_num, by omega, HR4.out⟩
      case measure => simp [intOf]; omega
    · have e1 : decide ((i : Int) < (sl.length : Int)) = false := decide_eq_false (by omega)
      have e2 : decide (i < sl.length) = false := decide_eq_false hlt
      obtain ⟨D, sd, -, nw⟩ := HR.out.is
      obtain ⟨D4, K4, -⟩ := sd.lg.disk
      have O4 : Hid _ := HR.out.off
      have HS : Hid _ := sd
      have NW : Hid _ := nw
      have few := sd.few
      have B4 : Hid _ := dbytes_any K4
      have HRS : Hid _ := sd.rec_
      clear sd nw HR K4
      go_wp2_with fail
      refine Calls.mono B4.out ?_
      rintro e w5 ⟨tw, cw, rfl, own5, fr5, o5⟩
      have NTW : Hid (∀ k, blk tw = some k → ¬ D k) := fun k hk hD => by
        have := fr5 k hk
        have := HS.out.lg.lt k hD
        omega
      have HW5 : Hid _ := own5
      have HS5 : Hid _ := HS.out.free o5
      have O5 : Hid _ := O4.out.trans o5 (fun _ _ h => h)
      have P5 : Hid _ := small_kept (D := D) cap2 HA2.out O5.out HS5.out.lg.lt
      clear B4 own5 fr5 o5 O4 HS
      go_wp2_with fail
      refine Calls.mono P5.out ?_
      rintro e w6 ⟨t6, c6, sl6, rfl, kp6, hd6, o6⟩
      have HS6 : Hid _ := HS5.out.free o6
      have O6 : Hid _ := O5.out.trans o6 (fun _ _ h => h)
      have HW6 : Hid _ := HW5.out.off o6 (fun _ _ _ h => h)
      have s6 := kp6.len
      have RW6 : Hid _ := kp6.rws O6.out
      have HD6 : Hid _ := hd6
      clear P5 kp6 o6 HS5 O5 HW5 hd6
      by_cases hfit : L ≤ m
      · have A6 : Hid _ := wcompact_ok HS6.out.lg RW6.out (by rw [HD6.out, HLL.out]; exact hfit)
        go_wp2_with fail
        refine Calls.mono A6.out ?_
        rintro e w7 ⟨rfl, D7, lg7, ch7⟩
        obtain ⟨o7, n7⟩ := ch7.new O6.out NW.out
        rw [HD6.out] at lg7
        obtain ⟨D0, K0, sub0, nlb⟩ := lg7.dsk
        have GL : Hid _ := lg7.log
        have P7 : Hid _ := wopen_ok K0 (frs_lt HRC.out) (al_frs HRC.out)
        have O7 : Hid _ := o7
        have N7 : Hid (∀ c, D0 c → w.heap.size ≤ c) := fun c hc => n7 c (sub0 c hc)
        have NLB : Hid _ := nlb
        clear A6 lg7 ch7 o7 n7 K0 sub0 nlb O6 HS6 NW HW6 NTW RW6
        go_wp2_with fail
        refine Calls.mono P7.out ?_
        rintro e w8 ⟨lb8, t8, c8, rl, rfl, hd8, D8, tl8, lg8, ch8⟩
        obtain ⟨o8, -⟩ := ch8.new O7.out N7.out
        have GL8 : Hid _ := GL.out.off ch8.off NLB.out
        have TL8 : Hid _ := tl8
        have HD8 : Hid _ := hd8
        have O8 : Hid _ := o8
        have P8 : Hid _ := small_kept (D := fun _ => False) cap2 HA2.out o8 (fun _ h => h.elim)
        have l8 : rl.length ≤ 30 := by
          have h1 := congrArg List.length hd8
          have h2 := smL_len (bl2.map B.data)
          rw [← h1, List.length_map] at h2
          exact h2
        clear P7 tl8 lg8 ch8 hd8 o8 O7 N7 GL NLB
        go_wp2_with fail
        refine Calls.mono P8.out ?_
        rintro e w9 ⟨t9, c9, sl9, rfl, kp9, hd9, o9⟩
        have O9 : Hid _ := O8.out.trans o9 (fun _ _ h => h)
        have SB : Hid _ := samebytes_any t8 t9 c8 c9 rl sl9 w9 (TL8.out.free o9).own kp9.own (fun b hb => ((TL8.out.free o9).each b hb).1.src) (fun b hb => ((kp9.rws O9.out).inp b hb).src) (HD8.out.trans hd9.symm) (by omega)
        have GL9 : Hid _ := GL8.out.off o9 (fun h => h)
        clear P8 kp9 hd9 o9 TL8 HD8 O8 GL8
        go_wp2_with fail
        refine Calls.mono SB.out ?_
        rintro e wa ⟨rfl, oa⟩
        have GLa : Hid _ := GL9.out.off oa (fun h => h)
        have Oa : Hid _ := O9.out.trans oa (fun _ _ h => h)
        clear SB oa GL9 O9
        go_wp2_with fail
        refine (wlenC_any GLa.out).mono ?_
        rintro e wb ⟨rfl, hw⟩
        rw [hw]
        clear hw wb
        go_wp2_with fail
        refine (small_kept (D := fun _ => False) cap2 HA2.out Oa.out (fun _ h => h.elim)).mono ?_
        rintro e wc ⟨tc, cc, slc, rfl, kpc, hdc, oc⟩
        have Oc : Hid _ := Oa.out.trans oc (fun _ _ h => h)
        have el : sl6.length = slc.length := by
          have h1 := congrArg List.length (HD6.out.trans hdc.symm)
          simpa using h1
        rw [el]
        have qe : ((slc.length : Int) == (slc.length : Int)) = true := by simp
        clear kpc hdc oc el Oa
        go_wp2_with fail
        refine (awake_any _).mono ?_
        rintro e va ⟨rfl, oa⟩
        go_wp2_with fail
        go_ret
        exact ⟨rfl, Oc.out.trans oa (fun _ _ h => h)⟩
      · have A6 : Hid _ := wcompact_no HS6.out.lg RW6.out (by rw [HD6.out, HLL.out]; omega)
        have dgt : decide ((m : Int) < (L : Int)) = true := decide_eq_true (by omega)
        have dgt2 : decide ((L : Int) > (m : Int)) = true := decide_eq_true (by omega)
        go_wp2_with fail
        refine Calls.mono A6.out ?_
        rintro e w7 ⟨rfl, D7, lg7, ch7⟩
        obtain ⟨o7, n7⟩ := ch7.new O6.out NW.out
        have HW7 : Hid _ := HW6.out.off ch7.off (fun c _ e => NTW.out c e)
        have NT7 : Hid (∀ k, blk tw = some k → ¬ D7 k) := fun k hk => ch7.not (HW6.out.lt k hk) (NTW.out k hk)
        obtain ⟨D0, K0, sub0, nlb⟩ := lg7.dsk
        have P7 : Hid _ := wopen_ok K0 (frs_lt HRS.out) (al_frs HRS.out)
        have O7 : Hid _ := o7
        have N7 : Hid (∀ c, D0 c → w.heap.size ≤ c) := fun c hc => n7 c (sub0 c hc)
        have NT0 : Hid (∀ k, blk tw = some k → ¬ D0 k) := fun k hk h => NT7.out k hk (sub0 k h)
        clear A6 lg7 ch7 o7 n7 K0 sub0 nlb O6 HS6 NW HW6 NTW RW6 NT7
        go_wp2_with fail
        refine Calls.mono P7.out ?_
        rintro e V ⟨lb8, t8, c8, rl, rfl, hd8, D8, tl8, lg8, ch8⟩
        obtain ⟨o8, -⟩ := ch8.new O7.out N7.out
        rw [List.take_length] at lg8
        obtain ⟨D9, K9, -⟩ := lg8.disk
        have KV : Hid _ := K9
        have OV : Hid _ := o8
        have HWS : Hid _ := (HW7.out.off ch8.off (fun c _ e => NT0.out c e)).src
        have l8 : rl.length ≤ 1000000 := by
          have h1 := congrArg List.length hd8
          rw [List.length_map] at h1
          omega
        clear P7 tl8 lg8 ch8 hd8 o8 O7 N7 HW7 NT0 K9
        generalize frs rs = ys at *
        go_upto_region 15 with fail
        refine wp_region_held_drew (S := fun w' => Off (fun _ => False) V w') (by kernel_rfl) ((Off.refl _ V).drew) (fun hS => ?_)
        generalize hdr : V.drew = W0 at hS ⊢
        clear hdr
        refine take_at (i := 0) 61 (v := .int .i64 5) rfl rfl (by kernel_rfl) (by kernel_rfl) (by kernel_rfl) (fun _ _ _ h => h) (Or.inl ⟨by rfl, fun w' hw' => by go_simp⟩) hS ?_
        simp only [Act.put, List.setIfInBounds_toArray, List.set_cons_zero, List.set_cons_succ]
        refine take_at (i := 1) 62 (v := .bool true) rfl rfl (by kernel_rfl) (by kernel_rfl) (by kernel_rfl) (fun _ _ _ h => h) (Or.inl ⟨by rfl, fun w' hw' => by go_simp⟩) hS ?_
        simp only [Act.put, List.setIfInBounds_toArray, List.set_cons_zero, List.set_cons_succ]
        refine take_at (i := 2) 63 (v := .bool true) rfl rfl (by kernel_rfl) (by kernel_rfl) (by kernel_rfl) (fun _ _ _ h => h) (Or.inl ⟨by rfl, fun w' hw' => by go_simp⟩) hS ?_
        simp only [Act.put, List.setIfInBounds_toArray, List.set_cons_zero, List.set_cons_succ]
        refine take_at (i := 3) 64 (v := .slice a2 bl2.length cap2) rfl rfl (by kernel_rfl) (by kernel_rfl) (by kernel_rfl) (fun _ _ _ h => h) (Or.inl ⟨by rfl, fun w' hw' => by go_simp⟩) hS ?_
        simp only [Act.put, List.setIfInBounds_toArray, List.set_cons_zero, List.set_cons_succ]
        refine take_at (i := 6) 67 (v := .int .i64 (m : Int)) rfl rfl (by kernel_rfl) (by kernel_rfl) (by kernel_rfl) (fun _ _ _ h => h) (Or.inl ⟨by rfl, fun w' hw' => by go_simp⟩) hS ?_
        simp only [Act.put, List.setIfInBounds_toArray, List.set_cons_zero, List.set_cons_succ]
        refine wpAnyH_ready (rs := [4]) (by kernel_rfl) (by simp) ?_
        refine AllReadyH.cons rfl (fun K' hK' => ?_) AllReadyH.nil
        go_simp
        refine Calls.mono (small_kept (D := fun _ => False) cap2 HA2.out (OV.out.trans hS (fun _ _ h => h)) (fun _ h => h.elim)) ?_
        rintro e W1 ⟨t1, c1, sl1, rfl, kp1, hd1, o1⟩
        refine hK'.out _ _ (hS.trans o1 (fun _ _ h => h)) (fun hS => ?_)
        clear hK' K'
        have Z1 : Hid _ := size_any (kp1.rws (OV.out.trans hS (fun _ _ h => h))).rg
        rw [hd1, HLL.out] at Z1
        clear kp1 hd1 o1
        refine wpAnyH_ready (rs := [5]) (by kernel_rfl) (by simp) ?_
        refine AllReadyH.cons rfl (fun K' hK' => ?_) AllReadyH.nil
        go_simp
        refine Calls.mono (Z1.out) ?_
        rintro e W2 ⟨rfl, hw2⟩
        clear Z1
        refine hK'.out _ _ (by rw [hw2]; exact hS) (fun hS => ?_)
        clear hK' K'
        clear hw2
        refine take_at (i := 7) 68 (v := .bool true) rfl rfl (by kernel_rfl) (by kernel_rfl) (by kernel_rfl) (fun _ _ _ h => h) (Or.inl ⟨by rfl, fun w' hw' => by go_simp; omega⟩) hS ?_
        simp only [Act.put, List.setIfInBounds_toArray, List.set_cons_zero, List.set_cons_succ]
        refine take_at (i := 8) 69 (v := .bool true) rfl rfl (by kernel_rfl) (by kernel_rfl) (by kernel_rfl) (fun _ _ _ h => h) (Or.inl ⟨by rfl, fun w' hw' => by go_simp⟩) hS ?_
        simp only [Act.put, List.setIfInBounds_toArray, List.set_cons_zero, List.set_cons_succ]
        refine take_at (i := 9) 70 (v := .bool true) rfl rfl (by kernel_rfl) (by kernel_rfl) (by kernel_rfl) (fun _ _ _ h => h) (Or.inl ⟨by rfl, fun w' hw' => by go_simp⟩) hS ?_
        simp only [Act.put, List.setIfInBounds_toArray, List.set_cons_zero, List.set_cons_succ]
        refine take_at (i := 10) 71 (v := .pointer (some ⟨b, 0, none⟩)) rfl rfl (by kernel_rfl) (by kernel_rfl) (by kernel_rfl) (fun _ _ _ h => h) (Or.inl ⟨by rfl, fun w' hw' => by go_simp⟩) hS ?_
        simp only [Act.put, List.setIfInBounds_toArray, List.set_cons_zero, List.set_cons_succ]
        refine take_at (i := 13) 74 (v := .slice tw ys.length cw) rfl rfl (by kernel_rfl) (by kernel_rfl) (by kernel_rfl) (fun _ _ _ h => h) (Or.inl ⟨by rfl, fun w' hw' => by go_simp⟩) hS ?_
        simp only [Act.put, List.setIfInBounds_toArray, List.set_cons_zero, List.set_cons_succ]
        refine take_at (i := 14) 75 (v := .string (strOf ys)) rfl rfl (by kernel_rfl) (by kernel_rfl) (by kernel_rfl) (fun _ _ _ h => h) (Or.inl ⟨by rfl, fun w' hw' => by have hcs := conv_src (HWS.out.off hw' (fun _ _ _ h => h)); go_simp⟩) hS ?_
        simp only [Act.put, List.setIfInBounds_toArray, List.set_cons_zero, List.set_cons_succ]
        refine wpAnyH_ready (rs := [11]) (by kernel_rfl) (by simp) ?_
        refine AllReadyH.cons rfl (fun K' hK' => ?_) AllReadyH.nil
        go_simp
        refine Calls.mono (dbytes_any (KV.out.free hS)) ?_
        rintro e W3 ⟨t3, c3, rfl, own3, -, o3⟩
        refine hK'.out _ _ (hS.trans o3 (fun _ _ h => h)) (fun hS => ?_)
        clear hK' K'
        have HS3 : Hid _ := own3.src
        clear own3 o3
        refine wpAnyH_ready (rs := [12]) (by kernel_rfl) (by simp) ?_
        refine AllReadyH.cons rfl (fun K' hK' => ?_) AllReadyH.nil
        have hcs := conv_src HS3.out
        go_simp
        refine hK'.out _ _ hS (fun hS => ?_)
        clear hK' K'
        refine take_at (i := 15) 76 (v := .bool true) rfl rfl (by kernel_rfl) (by kernel_rfl) (by kernel_rfl) (fun _ _ _ h => h) (Or.inl ⟨by rfl, fun w' hw' => by go_simp⟩) hS ?_
        simp only [Act.put, List.setIfInBounds_toArray, List.set_cons_zero, List.set_cons_succ]
        refine take_at (i := 16) 77 (v := .bool true) rfl rfl (by kernel_rfl) (by kernel_rfl) (by kernel_rfl) (fun _ _ _ h => h) (Or.inl ⟨by rfl, fun w' hw' => by go_simp⟩) hS ?_
        simp only [Act.put, List.setIfInBounds_toArray, List.set_cons_zero, List.set_cons_succ]
        refine take_at (i := 17) 78 (v := .bool true) rfl rfl (by kernel_rfl) (by kernel_rfl) (by kernel_rfl) (fun _ _ _ h => h) (Or.inl ⟨by rfl, fun w' hw' => by go_simp⟩) hS ?_
        simp only [Act.put, List.setIfInBounds_toArray, List.set_cons_zero, List.set_cons_succ]
        refine wpAnyH_ready (rs := [18]) (by kernel_rfl) (by simp) ?_
        refine AllReadyH.cons rfl (fun K' hK' => ?_) AllReadyH.nil
        go_simp
        refine Calls.mono (awake_any _) ?_
        rintro e W4 ⟨rfl, o4⟩
        refine hK'.out _ _ (hS.trans o4 (fun _ _ h => h)) (fun hS => ?_)
        clear hK' K'
        refine take_at (i := 19) 80 (v := .bool true) rfl rfl (by kernel_rfl) (by kernel_rfl) (by kernel_rfl) (fun _ _ _ h => h) (Or.inl ⟨by rfl, fun w' hw' => by go_simp⟩) hS ?_
        simp only [Act.put, List.setIfInBounds_toArray, List.set_cons_zero, List.set_cons_succ]
        refine take_at (i := 20) 6 (v := .bool true) rfl rfl (by kernel_rfl) (by kernel_rfl) (by kernel_rfl) (fun _ _ _ h => h) (Or.inl ⟨by rfl, fun w' hw' => by go_simp⟩) hS ?_
        simp only [Act.put, List.setIfInBounds_toArray, List.set_cons_zero, List.set_cons_succ]
        refine wpAnyH_done (by kernel_rfl) ?_ _
        go_wp2_with fail
        go_ret
        exact ⟨rfl, OV.out.trans hS (fun _ _ h => h)⟩
end Go.Proofs.Ytmdhcoplhibbeaa
