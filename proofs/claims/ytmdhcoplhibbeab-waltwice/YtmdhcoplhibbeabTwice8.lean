/- The walk of WalTwice. -/
import Derived.Test.YtmdhcoplhibbeabRoom8
namespace Go.Proofs.Ytmdhcoplhibbeab
open Go.RowKit

theorem own4n (w : World) : OwnR (w.alloc (.cells #[.int .u8 0, .int .u8 0, .int .u8 1, .int .u8 255] 5)) (some ⟨w.heap.size, 0, none⟩) 4 [0, 0, 1, 255] := ⟨World.ownsRow_lit w #[.int .u8 0, .int .u8 0, .int .u8 1, .int .u8 255] 4 (Nat.zero_le _) (by decide) rfl⟩
theorem torn_short {x : List Nat} (h : x.length ≤ 200) : tkE ([0, 0, 1, 255] ++ x) = 2 := by
  have hn : num4 ([0, 0, 1, 255] ++ x) = 511 := by simp [num4]
  unfold tkE
  rw [hn]
  split
  · rfl
  · rw [if_neg (by decide), if_pos (by simp; omega)]
theorem smL_rec {w : World} {a : Option Addr} {bl : List B} (h : ArgL w a bl) : ∀ r ∈ smL (bl.map B.data), Rec r := by
  intro r hr
  simp only [smL, List.mem_filter, decide_eq_true_eq] at hr
  have h1 := List.mem_of_mem_take hr.1
  simp only [List.mem_map] at h1
  obtain ⟨x, hx, rfl⟩ := h1
  exact ⟨by omega, (h.inp x hx).lt⟩
/-- The first n rows' data. -/
def dat (sl : List B) (n : Nat) : List (List Nat) := (sl.take n).map B.data
theorem dat_snoc {sl : List B} {n : Nat} {x : B} (h : sl[n]? = some x) : dat sl (n + 1) = dat sl n ++ [x.data] := by rw [dat, List.take_add_one, h, List.map_append]; rfl
theorem dat_fr (sl : List B) (n : Nat) : frs (dat sl n) = fr sl n := by rw [dat, fr, List.map_take]
theorem dat_all (sl : List B) : dat sl sl.length = sl.map B.data := by rw [dat, List.take_length]

set_option maxRecDepth 100000 in
set_option maxHeartbeats 2000000 in
theorem twice_walk (a : Option Addr) (cap : Nat) (bl : List B) (at_ : Option Addr) (ct : Nat) (xs : List Nat) (w : World) (hb : ArgL w a bl) (hx : ArgB w at_ xs.length ct xs) :
    Calls Try.prog 3 #[.slice a bl.length cap, .slice at_ xs.length ct] w fun e w' => e = .returned (.bool true) ∧ Off (fun _ => False) w w' := by
  have HA : Hid _ := hb
  have HX : Hid _ := hx.inp
  have lx := hx.bound
  have HRC : Hid _ := smL_rec hb
  clear hb hx
  go_enter Try.func3, Try.ntmps3
  go_wp2_with fail
  refine (dnew_any 60000 w).mono ?_
  rintro e w1 ⟨b, rfl, hb, K, o1⟩
  have hro : roomOf 60000 = 60000 := rfl
  rw [hro] at K
  have C1 : Hid _ := wopen_new K
  have N1 : Hid (∀ c, (fun c => c = b) c → w.heap.size ≤ c) := fun c hc => by rw [show c = b from hc]; exact hb
  have O1 : Hid _ := o1
  clear K hb o1 hro
  by_cases hl : 200 < xs.length
  · have d1 : decide ((200 : Int) < (xs.length : Int)) = true := decide_eq_true (by omega)
    have d2 : decide (200 < xs.length) = true := decide_eq_true hl
    go_wp2_with fail
    refine Calls.mono C1.out ?_
    rintro e w2 ⟨lb, t2, c2, rfl, D2, lg, ch⟩
    obtain ⟨o2, -⟩ := ch.new O1.out N1.out
    have O2 : Hid _ := o2
    clear C1 lg ch o2 O1 N1
    go_wp2_with fail
    refine (awake_any _).mono ?_
    rintro e va ⟨rfl, oa⟩
    go_wp2_with fail
    go_ret
    exact ⟨rfl, O2.out.trans oa (fun _ _ h => h)⟩
  have d1 : decide ((200 : Int) < (xs.length : Int)) = false := decide_eq_false (by omega)
  have d2 : decide (200 < xs.length) = false := decide_eq_false hl
  go_wp2_with fail
  refine Calls.mono C1.out ?_
  rintro e w2 ⟨lb, t2, c2, rfl, D2, lg, ch⟩
  obtain ⟨o2, n2⟩ := ch.new O1.out N1.out
  have S2 : Hid _ := Std.new lg
  have O2 : Hid _ := o2
  have N2 : Hid _ := n2
  have P2 : Hid _ := small_kept cap HA.out o2 lg.lt
  clear C1 lg ch o2 n2 O1 N1
  go_wp2_with fail
  refine Calls.mono P2.out ?_
  rintro e w3 ⟨ts, cs, sl, rfl, kp, hdd, o3⟩
  have s30 := kp.len
  have HDD : Hid _ := hdd
  have R3 : Hid (Rnd w lb b 60000 ts cs sl (dat sl 0) w3) := ⟨O2.out.trans o3 (fun _ _ h => h), D2, S2.out.free o3, kp, N2.out⟩
  clear P2 kp o3 S2 O2 N2 hdd
  go_wp2_with fail
  go_loopw [45] (fun y wr => ∃ (i : Nat), y = .int .i64 (i : Int) ∧ i ≤ sl.length ∧ Rnd w lb b 60000 ts cs sl (dat sl i) wr) (fun y _ => (sl.length - intOf y).toNat)
  case atStart => exact ⟨0, rfl, by omega, R3.out⟩
  case round =>
    clear R3
    obtain ⟨i, rfl, hi, rnd⟩ := hrel
    have HR : Hid _ := rnd
    clear rnd
    by_cases hlt : i < sl.length
    · have e1 : decide ((i : Int) < (sl.length : Int)) = true := decide_eq_true (by omega)
      have e2 : decide (i < sl.length) = true := decide_eq_true hlt
      obtain ⟨x, g, hx, hmm, rfl, kc⟩ : ∃ x g, sl[i]? = some x ∧ x ∈ sl ∧ ts = some ⟨g, 0, none⟩ ∧ wr.cell? ⟨g, i, none⟩ = some (.slice x.ad x.data.length x.cap) := by
        obtain ⟨D, -, kp, -⟩ := HR.out.is
        exact (kp.rws HR.out.off).at_ hlt
      have A1 : Hid (Calls Try.prog 8 #[.pointer (some ⟨lb, 0, none⟩), .slice x.ad x.data.length x.cap] wr fun e v' => e = .returned (.int .i64 0) ∧ Rnd w lb b 60000 (some ⟨g, 0, none⟩) cs sl (dat sl (i + 1)) v') := by
        obtain ⟨D, sd, kp, nw⟩ := HR.out.is
        have l4 := kp.five x hmm
        have lf := (kp.rws HR.out.off).fr_len i
        refine (append_ok sd ((kp.rws HR.out.off).inp x hmm) (by omega) (by rw [dat_fr]; omega)).mono ?_
        rintro e v' ⟨rfl, D', sd', ch⟩
        obtain ⟨o', n'⟩ := ch.new HR.out.off nw
        rw [dat_snoc hx]
        exact ⟨rfl, o', D', sd', kp.chg ch, n'⟩
      clear hx hmm
      go_wp2_with fail
      refine Calls.mono A1.out ?_
      rintro e w4 ⟨rfl, rn⟩
      have HR4 : Hid _ := rn
      clear rn A1 kc HR
      go_wp2_with fail
      go_roundw
      case rel => exact ⟨i + 1, by go_num, by omega, HR4.out⟩
      case measure => simp [intOf]; omega
    · have e1 : decide ((i : Int) < (sl.length : Int)) = false := decide_eq_false (by omega)
      have e2 : decide (i < sl.length) = false := decide_eq_false hlt
      have hil : dat sl i = smL (bl.map B.data) := by rw [show i = sl.length by omega, dat_all, HDD.out]
      obtain ⟨D, sd, kp, nw⟩ := HR.out.is
      have lf : (frs (dat sl i)).length ≤ 12240 := by rw [dat_fr]; exact (kp.rws HR.out.off).fr_len i
      rw [hil] at sd lf
      obtain ⟨D4, K4, ch4⟩ := sd.lg.disk
      obtain ⟨o4, n4⟩ := ch4.new HR.out.off nw
      have HK4 : Hid _ := K4
      have O4 : Hid _ := o4
      have N4 : Hid _ := n4
      have L0 := own4n wr
      have OA : Off (fun _ => False) wr (wr.alloc (.cells #[.int .u8 0, .int .u8 0, .int .u8 1, .int .u8 255] 5)) := (Off.refl _ wr).alloc _
      have HOA : Hid _ := OA
      have HL0 : Hid _ := L0
      have HLF : Hid _ := lf
      clear sd kp nw HR hil K4 ch4 o4 n4 OA L0 lf
      go_wp2_with (at_builtin; refine wpList_app rfl (.tmp 55) (.tmp 56) rfl _ 4 [0, 0, 1, 255] rfl HL0.out at_ ct xs rfl (HX.out.free (O4.out.trans HOA.out (fun _ _ h => h))).src (by simp; omega) ?_; intro t' c' w' qs hqs own' off' at')
      have F5 : Off (fun _ => False) wr w' := ((HOA.out.mono (fun _ _ h => h.elim)).trans off' (fun _ _ h => h)).mono (fun i hi e => by simp [blk] at e; omega)
      have A5 : Hid _ := dappend_any (HK4.out.free F5) t' c' qs own'.src (by rw [hqs.out]; simp; omega)
      have HF := HLF.out
      rw [show appE 60000 (frs (smL (bl.map B.data))) qs = 0 by rw [appE, if_pos (by rw [hqs.out]; simp; omega)], show appL 60000 (frs (smL (bl.map B.data))) qs = frs (smL (bl.map B.data)) ++ ([0, 0, 1, 255] ++ xs) by rw [appL, if_pos (by rw [hqs.out]; simp; omega), hqs.out]] at A5
      have O5 : Hid _ := O4.out.trans F5 (fun _ _ h => h)
      have lq : qs.length ≤ 204 := by rw [hqs.out]; simp; omega
      clear F5 off' own' hqs HF O4 HK4 HL0 HOA at'
      go_wp2_with fail
      refine Calls.mono A5.out ?_
      rintro e w6 ⟨rfl, D6, K6, o6, d6⟩
      obtain ⟨o7, n7⟩ := Chg.new ⟨o6, d6⟩ O5.out N4.out
      have P6 : Hid _ := wopen_ok K6 (fun y hy => by
        rcases List.mem_append.1 hy with hy | hy
        · exact frs_lt HRC.out y hy
        · rcases List.mem_append.1 hy with hy | hy
          · simp at hy; omega
          · exact HX.out.lt y hy) (al_tail HRC.out (torn_short (x := xs) (by omega)))
      have O7 : Hid _ := o7
      have N7 : Hid _ := n7
      clear A5 K6 o6 d6 o7 n7 O5 N4
      go_wp2_with fail
      refine Calls.mono P6.out ?_
      rintro e w7 ⟨lb7, t6, c6, rl, rfl, hd6, D7, tl, lg, ch⟩
      obtain ⟨o8, n8⟩ := ch.new O7.out N7.out
      rw [List.take_left] at lg
      have hsz : rl.length ≤ 30 := by
        have h1 := congrArg List.length hd6
        have h2 := smL_len (bl.map B.data)
        rw [← h1, List.length_map] at h2
        exact h2
      obtain ⟨s9, hs9⟩ : ∃ s, s = (if (frs (smL (bl.map B.data))).length < (frs (smL (bl.map B.data)) ++ ([0, 0, 1, 255] ++ xs)).length then (frs (smL (bl.map B.data))).length else (frs (smL (bl.map B.data))).length) := ⟨_, rfl⟩
      rw [← hs9] at lg
      obtain ⟨D9, K9, ch9⟩ := lg.disk
      have B9 : Hid _ := dbytes_any K9
      have HK9 : Hid _ := K9
      have TL9 : Hid _ := tl.chg ch9
      have HD6 : Hid _ := hd6
      obtain ⟨o9, n9⟩ := ch9.new o8 n8
      have O9 : Hid _ := o9
      have N9 : Hid _ := n9
      clear P6 lg tl ch o8 n8 ch9 K9 o9 n9 O7 N7 hs9 hd6
      go_wp2_with fail
      refine Calls.mono B9.out ?_
      rintro e w8 ⟨tw, cw, rfl, own8, fr8, o8⟩
      have HW8 : Hid _ := own8
      have HK8 : Hid _ := HK9.out.free o8
      have TL8 : Hid _ := TL9.out.free o8
      have O8 : Hid _ := O9.out.trans o8 (fun _ _ h => h)
      have NT : Hid (∀ k, blk tw = some k → ¬ D9 k) := fun k hk hD => by
        have := fr8 k hk
        have := HK9.out.lt k hD
        omega
      have P8 : Hid _ := wopen_ok HK8.out (frs_lt HRC.out) (al_frs HRC.out)
      clear B9 own8 fr8 o8 HK9 TL9 O9
      go_wp2_with fail
      refine Calls.mono P8.out ?_
      rintro e V ⟨lb8, t8, c8, ql, rfl, hd8, D8, tl8, lg8, ch8⟩
      obtain ⟨oV, -⟩ := ch8.new O8.out N9.out
      rw [List.take_length] at lg8
      obtain ⟨DV, KV, -⟩ := lg8.disk
      have KV : Hid _ := KV
      have OVW : Hid _ := oV
      have TLV : Hid _ := TL8.out.chg ch8
      have TL8' : Hid _ := tl8
      have HWS : Hid _ := (HW8.out.off ch8.off (fun c _ e => NT.out c e)).src
      have lql : ql.length ≤ 30 := by
        have h1 := congrArg List.length hd8
        have h2 := smL_len (bl.map B.data)
        rw [← h1, List.length_map] at h2
        exact h2
      have SB1 : Hid (∀ W, Off (fun _ => False) V W → Calls Try.prog 11 #[.slice t6 rl.length c6, .slice t8 ql.length c8] W fun e w' => e = .returned (.bool true) ∧ Off (fun _ => False) W w') := fun W o => samebytes_any t6 t8 c6 c8 rl ql W (TLV.out.free o).own (TL8'.out.free o).own (fun x hx => ((TLV.out.free o).each x hx).1.src) (fun x hx => ((TL8'.out.free o).each x hx).1.src) (HD6.out.trans hd8.symm) (by omega)
      have SB : Hid (∀ W, Off (fun _ => False) V W → ∀ (t9 : Option Addr) (c9 : Nat) (sl9 : List B), OwnG 23 1 bcs W t9 c9 sl9 → (∀ x ∈ sl9, Src W x.ad x.cap x.data) → sl9.map B.data = smL (bl.map B.data) → Calls Try.prog 11 #[.slice t6 rl.length c6, .slice t9 sl9.length c9] W fun e w' => e = .returned (.bool true) ∧ Off (fun _ => False) W w') := fun W o t9 c9 sl9 own9 src9 hd9 => samebytes_any t6 t9 c6 c9 rl sl9 W (TLV.out.free o).own own9 (fun x hx => ((TLV.out.free o).each x hx).1.src) src9 (HD6.out.trans hd9.symm) (by omega)
      clear P8 hd8 tl8 lg8 ch8 oV TL8 TLV TL8' HW8 NT HK8 O8 N9 HD6 HRC
      have lys : (frs (smL (bl.map B.data))).length ≤ 12240 := HLF.out
      clear HLF
      generalize frs (smL (bl.map B.data)) = ys at *
      go_upto_region 15 with fail
      refine wp_region_held_drew (S := fun w' => Off (fun _ => False) V w') (by kernel_rfl) ((Off.refl _ V).drew) (fun hS => ?_)
      generalize hdr : V.drew = W0 at hS ⊢
      clear hdr
      refine take_at (i := 0) 73 (v := .int .i64 0) rfl rfl (by kernel_rfl) (by kernel_rfl) (by kernel_rfl) (fun _ _ _ h => h) (Or.inl ⟨by rfl, fun w' hw' => by go_simp⟩) hS ?_
      simp only [Act.put, List.setIfInBounds_toArray, List.set_cons_zero, List.set_cons_succ]
      refine take_at (i := 1) 74 (v := .bool true) rfl rfl (by kernel_rfl) (by kernel_rfl) (by kernel_rfl) (fun _ _ _ h => h) (Or.inl ⟨by rfl, fun w' hw' => by go_simp⟩) hS ?_
      simp only [Act.put, List.setIfInBounds_toArray, List.set_cons_zero, List.set_cons_succ]
      refine take_at (i := 2) 75 (v := .bool true) rfl rfl (by kernel_rfl) (by kernel_rfl) (by kernel_rfl) (fun _ _ _ h => h) (Or.inl ⟨by rfl, fun w' hw' => by go_simp⟩) hS ?_
      simp only [Act.put, List.setIfInBounds_toArray, List.set_cons_zero, List.set_cons_succ]
      refine take_at (i := 3) 76 (v := .int .i64 0) rfl rfl (by kernel_rfl) (by kernel_rfl) (by kernel_rfl) (fun _ _ _ h => h) (Or.inl ⟨by rfl, fun w' hw' => by go_simp⟩) hS ?_
      simp only [Act.put, List.setIfInBounds_toArray, List.set_cons_zero, List.set_cons_succ]
      refine take_at (i := 4) 77 (v := .bool true) rfl rfl (by kernel_rfl) (by kernel_rfl) (by kernel_rfl) (fun _ _ _ h => h) (Or.inl ⟨by rfl, fun w' hw' => by go_simp⟩) hS ?_
      simp only [Act.put, List.setIfInBounds_toArray, List.set_cons_zero, List.set_cons_succ]
      refine take_at (i := 5) 78 (v := .bool true) rfl rfl (by kernel_rfl) (by kernel_rfl) (by kernel_rfl) (fun _ _ _ h => h) (Or.inl ⟨by rfl, fun w' hw' => by go_simp⟩) hS ?_
      simp only [Act.put, List.setIfInBounds_toArray, List.set_cons_zero, List.set_cons_succ]
      refine take_at (i := 6) 79 (v := .bool true) rfl rfl (by kernel_rfl) (by kernel_rfl) (by kernel_rfl) (fun _ _ _ h => h) (Or.inl ⟨by rfl, fun w' hw' => by go_simp⟩) hS ?_
      simp only [Act.put, List.setIfInBounds_toArray, List.set_cons_zero, List.set_cons_succ]
      refine take_at (i := 7) 80 (v := .pointer (some ⟨lb8, 0, none⟩)) rfl rfl (by kernel_rfl) (by kernel_rfl) (by kernel_rfl) (fun _ _ _ h => h) (Or.inl ⟨by rfl, fun w' hw' => by go_simp⟩) hS ?_
      simp only [Act.put, List.setIfInBounds_toArray, List.set_cons_zero, List.set_cons_succ]
      refine take_at (i := 8) 81 (v := .bool true) rfl rfl (by kernel_rfl) (by kernel_rfl) (by kernel_rfl) (fun _ _ _ h => h) (Or.inl ⟨by rfl, fun w' hw' => by go_simp⟩) hS ?_
      simp only [Act.put, List.setIfInBounds_toArray, List.set_cons_zero, List.set_cons_succ]
      refine take_at (i := 9) 82 (v := .bool true) rfl rfl (by kernel_rfl) (by kernel_rfl) (by kernel_rfl) (fun _ _ _ h => h) (Or.inl ⟨by rfl, fun w' hw' => by go_simp⟩) hS ?_
      simp only [Act.put, List.setIfInBounds_toArray, List.set_cons_zero, List.set_cons_succ]
      refine take_at (i := 10) 83 (v := .bool true) rfl rfl (by kernel_rfl) (by kernel_rfl) (by kernel_rfl) (fun _ _ _ h => h) (Or.inl ⟨by rfl, fun w' hw' => by go_simp⟩) hS ?_
      simp only [Act.put, List.setIfInBounds_toArray, List.set_cons_zero, List.set_cons_succ]
      refine take_at (i := 11) 84 (v := .slice t6 rl.length c6) rfl rfl (by kernel_rfl) (by kernel_rfl) (by kernel_rfl) (fun _ _ _ h => h) (Or.inl ⟨by rfl, fun w' hw' => by go_simp⟩) hS ?_
      simp only [Act.put, List.setIfInBounds_toArray, List.set_cons_zero, List.set_cons_succ]
      refine take_at (i := 12) 85 (v := .slice t8 ql.length c8) rfl rfl (by kernel_rfl) (by kernel_rfl) (by kernel_rfl) (fun _ _ _ h => h) (Or.inl ⟨by rfl, fun w' hw' => by go_simp⟩) hS ?_
      simp only [Act.put, List.setIfInBounds_toArray, List.set_cons_zero, List.set_cons_succ]
      refine wpAnyH_ready (rs := [13]) (by kernel_rfl) (by simp) ?_
      refine AllReadyH.cons rfl (fun K' hK' => ?_) AllReadyH.nil
      go_simp
      refine Calls.mono (SB1.out _ hS) ?_
      rintro e W1 ⟨rfl, o1⟩
      refine hK'.out _ _ (hS.trans o1 (fun _ _ h => h)) (fun hS => ?_)
      clear hK' K'
      clear o1
      refine take_at (i := 14) 87 (v := .bool true) rfl rfl (by kernel_rfl) (by kernel_rfl) (by kernel_rfl) (fun _ _ _ h => h) (Or.inl ⟨by rfl, fun w' hw' => by go_simp⟩) hS ?_
      simp only [Act.put, List.setIfInBounds_toArray, List.set_cons_zero, List.set_cons_succ]
      refine take_at (i := 15) 88 (v := .bool true) rfl rfl (by kernel_rfl) (by kernel_rfl) (by kernel_rfl) (fun _ _ _ h => h) (Or.inl ⟨by rfl, fun w' hw' => by go_simp⟩) hS ?_
      simp only [Act.put, List.setIfInBounds_toArray, List.set_cons_zero, List.set_cons_succ]
      refine take_at (i := 16) 89 (v := .slice t6 rl.length c6) rfl rfl (by kernel_rfl) (by kernel_rfl) (by kernel_rfl) (fun _ _ _ h => h) (Or.inl ⟨by rfl, fun w' hw' => by go_simp⟩) hS ?_
      simp only [Act.put, List.setIfInBounds_toArray, List.set_cons_zero, List.set_cons_succ]
      refine take_at (i := 17) 90 (v := .slice a bl.length cap) rfl rfl (by kernel_rfl) (by kernel_rfl) (by kernel_rfl) (fun _ _ _ h => h) (Or.inl ⟨by rfl, fun w' hw' => by go_simp⟩) hS ?_
      simp only [Act.put, List.setIfInBounds_toArray, List.set_cons_zero, List.set_cons_succ]
      refine wpAnyH_ready (rs := [18]) (by kernel_rfl) (by simp) ?_
      refine AllReadyH.cons rfl (fun K' hK' => ?_) AllReadyH.nil
      go_simp
      refine Calls.mono (small_kept (D := fun _ => False) cap HA.out (OVW.out.trans hS (fun _ _ h => h)) (fun _ h => h.elim)) ?_
      rintro e W2 ⟨t9, c9, sl9, rfl, kp9, hd9, o9⟩
      refine hK'.out _ _ (hS.trans o9 (fun _ _ h => h)) (fun hS => ?_)
      clear hK' K'
      have SB2 : Hid _ := SB.out W2 hS t9 c9 sl9 kp9.own (fun x hx => ((kp9.rws (OVW.out.trans hS (fun _ _ h => h))).inp x hx).src) hd9
      clear kp9 hd9 o9
      refine wpAnyH_ready (rs := [19]) (by kernel_rfl) (by simp) ?_
      refine AllReadyH.cons rfl (fun K' hK' => ?_) AllReadyH.nil
      go_simp
      refine Calls.mono (SB2.out) ?_
      rintro e W3 ⟨rfl, o3⟩
      clear SB2
      refine hK'.out _ _ (hS.trans o3 (fun _ _ h => h)) (fun hS => ?_)
      clear hK' K'
      clear o3
      refine take_at (i := 20) 93 (v := .bool true) rfl rfl (by kernel_rfl) (by kernel_rfl) (by kernel_rfl) (fun _ _ _ h => h) (Or.inl ⟨by rfl, fun w' hw' => by go_simp⟩) hS ?_
      simp only [Act.put, List.setIfInBounds_toArray, List.set_cons_zero, List.set_cons_succ]
      refine take_at (i := 21) 94 (v := .bool true) rfl rfl (by kernel_rfl) (by kernel_rfl) (by kernel_rfl) (fun _ _ _ h => h) (Or.inl ⟨by rfl, fun w' hw' => by go_simp⟩) hS ?_
      simp only [Act.put, List.setIfInBounds_toArray, List.set_cons_zero, List.set_cons_succ]
      refine take_at (i := 22) 95 (v := .pointer (some ⟨b, 0, none⟩)) rfl rfl (by kernel_rfl) (by kernel_rfl) (by kernel_rfl) (fun _ _ _ h => h) (Or.inl ⟨by rfl, fun w' hw' => by go_simp⟩) hS ?_
      simp only [Act.put, List.setIfInBounds_toArray, List.set_cons_zero, List.set_cons_succ]
      refine take_at (i := 25) 98 (v := .slice tw ys.length cw) rfl rfl (by kernel_rfl) (by kernel_rfl) (by kernel_rfl) (fun _ _ _ h => h) (Or.inl ⟨by rfl, fun w' hw' => by go_simp⟩) hS ?_
      simp only [Act.put, List.setIfInBounds_toArray, List.set_cons_zero, List.set_cons_succ]
      refine take_at (i := 26) 99 (v := .string (strOf ys)) rfl rfl (by kernel_rfl) (by kernel_rfl) (by kernel_rfl) (fun _ _ _ h => h) (Or.inl ⟨by rfl, fun w' hw' => by have hcs := conv_src (HWS.out.off hw' (fun _ _ _ h => h)); go_simp⟩) hS ?_
      simp only [Act.put, List.setIfInBounds_toArray, List.set_cons_zero, List.set_cons_succ]
      refine wpAnyH_ready (rs := [23]) (by kernel_rfl) (by simp) ?_
      refine AllReadyH.cons rfl (fun K' hK' => ?_) AllReadyH.nil
      go_simp
      refine Calls.mono (dbytes_any (KV.out.free hS)) ?_
      rintro e W4 ⟨t4, c4, rfl, own4, -, o4⟩
      refine hK'.out _ _ (hS.trans o4 (fun _ _ h => h)) (fun hS => ?_)
      clear hK' K'
      have HS3 : Hid _ := own4.src
      clear own4 o4
      refine wpAnyH_ready (rs := [24]) (by kernel_rfl) (by simp) ?_
      refine AllReadyH.cons rfl (fun K' hK' => ?_) AllReadyH.nil
      have hcs := conv_src HS3.out
      go_simp
      refine hK'.out _ _ hS (fun hS => ?_)
      clear hK' K'
      refine take_at (i := 27) 100 (v := .bool true) rfl rfl (by kernel_rfl) (by kernel_rfl) (by kernel_rfl) (fun _ _ _ h => h) (Or.inl ⟨by rfl, fun w' hw' => by go_simp⟩) hS ?_
      simp only [Act.put, List.setIfInBounds_toArray, List.set_cons_zero, List.set_cons_succ]
      refine take_at (i := 28) 101 (v := .bool true) rfl rfl (by kernel_rfl) (by kernel_rfl) (by kernel_rfl) (fun _ _ _ h => h) (Or.inl ⟨by rfl, fun w' hw' => by go_simp⟩) hS ?_
      simp only [Act.put, List.setIfInBounds_toArray, List.set_cons_zero, List.set_cons_succ]
      refine take_at (i := 29) 102 (v := .bool true) rfl rfl (by kernel_rfl) (by kernel_rfl) (by kernel_rfl) (fun _ _ _ h => h) (Or.inl ⟨by rfl, fun w' hw' => by go_simp⟩) hS ?_
      simp only [Act.put, List.setIfInBounds_toArray, List.set_cons_zero, List.set_cons_succ]
      refine wpAnyH_ready (rs := [30]) (by kernel_rfl) (by simp) ?_
      refine AllReadyH.cons rfl (fun K' hK' => ?_) AllReadyH.nil
      go_simp
      refine Calls.mono (awake_any _) ?_
      rintro e W5 ⟨rfl, o5⟩
      refine hK'.out _ _ (hS.trans o5 (fun _ _ h => h)) (fun hS => ?_)
      clear hK' K'
      refine take_at (i := 31) 104 (v := .bool true) rfl rfl (by kernel_rfl) (by kernel_rfl) (by kernel_rfl) (fun _ _ _ h => h) (Or.inl ⟨by rfl, fun w' hw' => by go_simp⟩) hS ?_
      simp only [Act.put, List.setIfInBounds_toArray, List.set_cons_zero, List.set_cons_succ]
      refine take_at (i := 32) 4 (v := .bool true) rfl rfl (by kernel_rfl) (by kernel_rfl) (by kernel_rfl) (fun _ _ _ h => h) (Or.inl ⟨by rfl, fun w' hw' => by go_simp⟩) hS ?_
      simp only [Act.put, List.setIfInBounds_toArray, List.set_cons_zero, List.set_cons_succ]
      refine wpAnyH_done (by kernel_rfl) ?_ _
      go_wp2_with fail
      go_ret
      exact ⟨rfl, OVW.out.trans hS (fun _ _ h => h)⟩
end Go.Proofs.Ytmdhcoplhibbeab
