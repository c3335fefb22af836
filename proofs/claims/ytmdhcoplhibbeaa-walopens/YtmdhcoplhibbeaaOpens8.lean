/- The walk of WalOpens. -/
import Derived.Test.YtmdhcoplhibbeaaRoom8
import Derived.Test.YtmdhcoplhibbeaaRAll7
import Derived.Laws.BitsAllLaws
import Derived.Deep.DeepAppendWide
namespace Go.Proofs.Ytmdhcoplhibbeaa
open Go.RowKit

theorem vl_set (bs : List Nat) (i y : Nat) : vl (bs.set i y) = (vl bs).set i (.int .u8 (y : Int)) := by simp [vl, List.map_set]
/-- A byte of a row of the call's own is written over. -/
theorem OwnR.set {w : World} {g cap : Nat} {bs : List Nat} (h : OwnR w (some ⟨g, 0, none⟩) cap bs) (i y : Nat) : OwnR (w.setCell ⟨g, i, none⟩ (.int .u8 (y : Int))) (some ⟨g, 0, none⟩) cap (bs.set i y) := by
  have := (World.ownsRow.stored h.row i (.int .u8 (y : Int))).1
  refine ⟨?_⟩
  rw [List.length_set, vl_set]
  exact this
theorem OwnR.cellAt {w : World} {g cap : Nat} {bs : List Nat} (h : OwnR w (some ⟨g, 0, none⟩) cap bs) {i : Nat} (hi : i < bs.length) : w.cell? ⟨g, i, none⟩ = some (.int .u8 ((bs.getD i 0 : Nat) : Int)) ∧ w.frozen? ⟨g, i, none⟩ = false := by
  refine ⟨?_, World.ownsRow.frozenAt h.row i⟩
  rw [World.ownsRow.cellAt h.row i (by simpa using hi)]
  exact vl_get bs i hi
/-- 'append(s, x...)' of bytes, s the call's own, as far as the allocator goes. -/
theorem wpList_appW {w : World} {ops : Array Oper} {rest : List Oper} {o : Oper} {a : Act} {Q : Exit → Act → World → Prop} (hgd : o.guard = none) (s x : Operand)
    (ho : o.op = .call { callee := .builtin .append, args := #[s, x], argTypes := #[23, 23] })
    (tad : Option Addr) (cap : Nat) (bs : List Nat) (hs : a.eval s = .slice tad bs.length cap) (hown : OwnR w tad cap bs) (N : Nat) (hN : ∀ k, blk tad = some k → N ≤ k) (hNw : N ≤ w.heap.size)
    (xt : Option Addr) (xc : Nat) (xs : List Nat) (hx : a.eval x = .slice xt xs.length xc) (hsrc : Src w xt xc xs) (hb : bs.length + xs.length ≤ 200000000000000)
    (h : ∀ t' c' w' ys, Hid (ys = bs ++ xs) → OwnR w' t' c' ys → Off (fun c => blk tad = some c) w w' → (∀ k, blk t' = some k → N ≤ k) → wpList Try.prog ops Q rest (a.put o.dst (.slice t' ys.length c')) w') :
    wpList Try.prog ops Q (o :: rest) a w := by
  obtain ⟨i0, hi, hz0, hz1, hz2⟩ := info_parts Try.infoB
  rcases hsrc.is with ⟨rfl, rfl, rfl⟩ | ⟨ad, rfl, hc⟩
  · refine wpList_append_own_none hgd s x 23 ho 0 5 i0 1 Try.underlying23 hi _ _ _ hs hown.row hx ?_
    exact h tad cap w bs (show bs = bs ++ [] by simp) hown (Off.refl _ w) hN
  · have rowN : w.ownsRow N 5 1 (.slice tad bs.length cap) bs.length (vl bs) := by
      refine ⟨hown.row.1, ?_⟩
      rcases hown.row.2 with h2 | ⟨g, c, cur, hv, hg, r⟩
      · exact .inl h2
      · have hv' := hv
        simp only [Value.slice.injEq] at hv'
        obtain ⟨rfl, -, rfl⟩ := hv'
        exact .inr ⟨g, _, cur, rfl, hN g rfl, r⟩
    refine wpList_append_own_wide w hgd s x 23 ho N 5 i0 (.int .u8 0) 1 1 Try.underlying23 hi hz0 hz1 hz2 rfl (by decide) _ _ _ hs rowN ad _ _ (vl xs) hx (by simp [vl_len]) hc (vl_one xs) (by unfold maxLen; omega) (by omega) hNw ?_
    intro v' w' own' grow' hnil
    rw [← vl_append, ← List.length_append] at own'
    obtain ⟨t', c', rfl⟩ : ∃ t' c', v' = .slice t' (bs ++ xs).length c' := by
      rcases own'.2 with ⟨rfl, h0⟩ | ⟨g, c, cur, hv, -⟩
      · exact ⟨none, 0, by rw [h0]⟩
      · exact ⟨_, _, hv⟩
    rw [blk_own] at grow'
    refine h t' c' w' _ (show bs ++ xs = bs ++ xs from rfl) ⟨own'.1, ?_⟩ ((Off.refl _ w).grown grow' (fun k hk => .inl hk)) (fun k hk => ?_)
    · rcases own'.2 with h2 | ⟨g, c, cur, hv, hg, r⟩
      · exact .inl h2
      · exact .inr ⟨g, c, cur, hv, Nat.zero_le _, r⟩
    · exact (World.ownsRow.lt own' k (by rw [blk_own]; exact hk)).1
theorem xor_any {u x : Nat} (hu : u < 256) (hx : x < 256) : ∃ y : Nat, bits .xor .u8 (u : Int) (x : Int) = (y : Int) ∧ y < 256 :=
  ⟨u ^^^ x, u8_xor_nat u x hu hx, Nat.xor_lt_two_pow (n := 8) hu hx⟩

set_option maxRecDepth 100000 in
set_option maxHeartbeats 2000000 in
theorem opens_walk (a : Option Addr) (cap : Nat) (bl : List B) (tm : Option Addr) (cm : Nat) (ms : List Nat) (ap : Option Addr) (lp cp : Nat) (zp : List Int) (x : Nat) (w : World) (hb : ArgL w a bl) (hm : ArgB w tm ms.length cm ms) (hp : IsRow .i64 w ap lp cp zp) (hx : x < 256) :
    Calls Try.prog 3 #[.slice a bl.length cap, .slice tm ms.length cm, .slice ap lp cp, .int .u8 (x : Int)] w fun e w' => e = .returned (.bool true) ∧ Off (fun _ => False) w w' := by
  have HIM : Hid _ := hm.inp
  have lm := hm.bound
  have HA : Hid _ := hb
  have HP : Hid _ := IsRow.cells (zs := zp) hp
  have lpm := hp.len
  clear hb hm hp
  go_enter Try.func3, Try.ntmps3
  go_wp2_with fail
  refine (smallR_any cap HA.out).mono ?_
  rintro e v0 ⟨tr, cr, sl, rfl, RW, -, -, O0⟩
  have HRW : Hid _ := RW
  have HO0 : Hid _ := O0
  have s30 := RW.len
  clear RW O0 HA
  go_wp2_with fail
  go_loopw [9, 24] (fun x y wr => ∃ (i : Nat) (t : Option Addr) (c : Nat), y = .int .i64 (i : Int) ∧ x = .slice t (fr sl i).length c ∧ i ≤ sl.length ∧ OwnR wr t c (fr sl i) ∧ (∀ k, blk t = some k → v0.heap.size ≤ k) ∧ Off (fun _ => False) v0 wr) (fun _ y _ => (sl.length - intOf y).toNat)
  case atStart => exact ⟨0, none, 0, rfl, rfl, by omega, OwnR.nil _, fun k hk => by simp [blk] at hk, Off.refl _ _⟩
  case round =>
    obtain ⟨i, t, c, rfl, rfl, hi, own, hlo, O⟩ := hrel
    have HOWN : Hid _ := own
    have HLO : Hid _ := hlo
    have HO : Hid _ := O
    clear own hlo O
    by_cases hlt : i < sl.length
    · have e1 : decide ((i : Int) < (sl.length : Int)) = true := decide_eq_true (by omega)
      have e2 : decide (i < sl.length) = true := decide_eq_true hlt
      obtain ⟨y, g, hy, hm, rfl, kc⟩ := (HRW.out.off HO.out).at_ hlt
      have HST : Hid _ := fr_succ hy
      have IX : Hid _ := (HRW.out.inp y hm).free HO.out
      have l5 := HRW.out.five y hm
      have lf := HRW.out.fr_len i
      clear hy hm
      generalize fr sl i = ys at *
      have lfr : (frm y.data).length ≤ 408 := by rw [frm_len]; omega
      go_wp2_with fail
      refine (rframe_any IX.out (by omega)).mono ?_
      rintro e w1 ⟨t1, c1, rfl, R1, fr1, O1⟩
      have HR1 : Hid _ := R1
      have HO1 : Hid _ := O1
      clear R1 fr1 O1 kc
      generalize frm y.data = fs at *
      go_wp2_with (at_builtin; refine wpList_app rfl (.tmp 28) (.tmp 30) rfl t c ys rfl (HOWN.out.off HO1.out (fun _ _ _ h => h)) t1 c1 fs rfl HR1.out.src (by omega) ?_; intro t2 c2 w2 zs hzs own2 off2 at2)
      have HZ : Hid (zs = fr sl (i + 1)) := by
        show zs = fr sl (i + 1)
        rw [HST.out, hzs.out]
      have HW2 : Hid _ := own2
      have HF2 : Hid _ := off2
      clear hzs own2 off2
      go_wp2_with fail
      go_roundw
      case rel =>
        have s0 := HO.out.size
        have s1 := HO1.out.size
        refine ⟨i + 1, t2, c2, by go_num, by rw [← HZ.out], by omega, by rw [← HZ.out]; exact HW2.out, fun k hk => ?_, (((HO.out.trans HO1.out (fun _ _ h => h)).mono (fun _ _ h => h.elim)).trans HF2.out (fun _ _ h => h)).mono (fun j hj e => by have := HLO.out j e; omega)⟩
        rcases at2 with h9 | h9
        · exact HLO.out k (h9 ▸ hk)
        · rw [h9] at hk
          simp at hk
          omega
      case measure => simp [intOf]; omega
    · have e1 : decide ((i : Int) < (sl.length : Int)) = false := decide_eq_false (by omega)
      have e2 : decide (i < sl.length) = false := decide_eq_false hlt
      have lf := HRW.out.fr_len i
      have HLT : Hid _ := HRW.out.fr_lt i
      generalize fr sl i = ys at *
      have FW : Hid (Off (fun _ => False) w wr) := HO0.out.trans HO.out (fun _ _ h => h)
      go_wp2_with (at_builtin; refine wpList_appW rfl (.tmp 33) (.tmp 34) rfl t c ys rfl HOWN.out w.heap.size (fun k hk => by have := HLO.out k hk; have := HO0.out.size; omega) FW.out.size tm cm ms rfl (HIM.out.free FW.out).src (by omega) ?_; intro t2 c2 w2 zs hzs own2 off2 at2)
      have lz : zs.length ≤ 140737488371232 := by rw [hzs.out, List.length_append]; omega
      have HLZ : Hid (∀ x ∈ zs, x < 256) := fun x hx => by
        rw [hzs.out] at hx
        rcases List.mem_append.1 hx with h | h
        · exact HLT.out x h
        · exact HIM.out.lt x h
      have F2 : Hid (Off (fun _ => False) w w2) := ((FW.out.mono (fun _ _ h => h.elim)).trans off2 (fun _ _ h => h)).mono (fun j hj e => by have := HLO.out j e; have := HO0.out.size; omega)
      have HW2 : Hid _ := own2
      have HL2 : Hid (∀ k, blk t2 = some k → w.heap.size ≤ k) := at2
      clear hzs own2 off2 at2 HOWN HLO HO FW HIM HLT HO0
      go_wp2_with fail
      go_loopw [38] (fun y wr => ∃ (j : Nat) (qs : List Nat), y = .int .i64 (j : Int) ∧ j ≤ lp ∧ qs.length = zs.length ∧ OwnR wr t2 c2 qs ∧ (∀ x ∈ qs, x < 256) ∧ Off (fun _ => False) w wr) (fun y _ => (lp - intOf y).toNat)
      case atStart => exact ⟨0, zs, rfl, by omega, rfl, HW2.out, HLZ.out, F2.out⟩
      case round =>
        clear HW2 HLZ F2
        obtain ⟨j, qs, rfl, hj, hql, own, hlt, O⟩ := hrel
        have HQ : Hid _ := own
        have HQT : Hid _ := hlt
        have HO : Hid _ := O
        have HQL : Hid _ := hql
        clear own hlt O
        by_cases hjl : j < lp
        · have e3 : decide ((j : Int) < (lp : Int)) = true := decide_eq_true (by omega)
          have e4 : decide (j < lp) = true := decide_eq_true hjl
          obtain ⟨pb, po, rfl, -, pc⟩ := HP.out j hjl
          have pc2 := keep_cell HO.out pc
          clear pc
          by_cases hj3 : j < 2
          · have q1 : decide ((j : Int) < 2) = true := decide_eq_true (by omega)
            by_cases hz0 : zs.length = 0
            · have q2 : decide ((0 : Int) < (zs.length : Int)) = false := decide_eq_false (by omega)
              have q3 : decide (0 < zs.length) = false := decide_eq_false (by omega)
              have q4 : ¬ 0 < zs.length := by omega
              have HZ0 : Hid _ := hz0
              clear hz0 hql
              go_wp2_with fail
              go_roundw
              case rel => exact ⟨j + 1, qs, by go_num, by omega, HQL.out, HQ.out, HQT.out, HO.out⟩
              case measure => simp [intOf]; omega
            · have q2 : decide ((0 : Int) < (zs.length : Int)) = true := decide_eq_true (by omega)
              have q3 : decide (0 < zs.length) = true := decide_eq_true (by omega)
              generalize zp.getD j 0 = p at *
              obtain ⟨m, hm, em⟩ := u64_mod p zs.length (by omega)
              have ew : wrap64 (m : Int) = (m : Int) := by simp only [wrap64]; omega
              have hmq : m < qs.length := by rw [hql]; exact hm
              obtain ⟨g, hg⟩ : ∃ g, t2 = some ⟨g, 0, none⟩ := by
                rcases HQ.out.shape with ⟨-, h0, -⟩ | ⟨g, h0, -⟩
                · rw [h0] at hmq; simp at hmq
                · exact ⟨g, h0⟩
              subst hg
              obtain ⟨k1, k2⟩ := HQ.out.cellAt hmq
              obtain ⟨y, ey, hy⟩ := xor_any (getD_lt HQT.out m hmq) hx
              have R2 : Hid _ := HQ.out.set m y
              have hg := HL2.out g rfl
              have O2 : Hid (Off (fun _ => False) w (wr.setCell ⟨g, m, none⟩ (.int .u8 (y : Int)))) := HO.out.setCell (.inr hg) _
              have LT2 : Hid (∀ x ∈ qs.set m y, x < 256) := fun x hx => by
                rcases List.mem_or_eq_of_mem_set hx with h | rfl
                · exact HQT.out x h
                · exact hy
              have QL2 : Hid ((qs.set m y).length = zs.length) := by
                show (qs.set m y).length = zs.length
                rw [List.length_set]
                exact HQL.out
              obtain ⟨u, hu⟩ : ∃ u, u = qs.getD m 0 := ⟨_, rfl⟩
              rw [← hu] at k1 ey
              clear hu
              have hmz : (m : Int) < (zs.length : Int) := Int.ofNat_lt.2 hm
              have z1 : 1 ≤ zs.length := Nat.lt_of_le_of_lt (Nat.zero_le _) hm
              clear hql hmq hz0
              go_wp2_with fail
              go_roundw
              case rel => exact ⟨j + 1, qs.set m y, by go_num, by omega, QL2.out, R2.out, LT2.out, O2.out⟩
              case measure => simp [intOf]; omega
          · have q1 : decide ((j : Int) < 2) = false := decide_eq_false (by omega)
            clear hql
            go_wp2_with fail
            go_roundw
            case rel => exact ⟨j + 1, qs, by go_num, by omega, HQL.out, HQ.out, HQT.out, HO.out⟩
            case measure => simp [intOf]; omega
        · have e3 : decide ((j : Int) < (lp : Int)) = false := decide_eq_false (by omega)
          have e4 : decide (j < lp) = false := decide_eq_false hjl
          clear hql
          have OWR : Hid _ := HO.out
          obtain ⟨wq, hwq⟩ : ∃ x, x = wr := ⟨_, rfl⟩
          by_cases hbig : 100000 < zs.length
          · have q1 : decide ((100000 : Int) < (zs.length : Int)) = true := decide_eq_true (by omega)
            have q2 : decide (100000 < zs.length) = true := decide_eq_true hbig
            clear hwq
            go_wp2_with fail
            refine (awake_any _).mono ?_
            rintro e va ⟨rfl, oa⟩
            go_wp2_with fail
            go_ret
            exact ⟨rfl, OWR.out.trans oa (fun _ _ h => h)⟩
          · have q1 : decide ((100000 : Int) < (zs.length : Int)) = false := decide_eq_false (by omega)
            have q2 : decide (100000 < zs.length) = false := decide_eq_false hbig
            rw [← hwq] at HQ OWR
            clear HO
            rw [← hwq]
            clear hwq
            go_wp2_with fail
            refine (dnew_any 200000 wq).mono ?_
            rintro e w1 ⟨b, rfl, hb, K, o1⟩
            have hro : roomOf 200000 = 200000 := rfl
            rw [hro] at K
            have A1 : Hid _ := dappend_any K t2 c2 qs (HQ.out.off o1 (fun _ _ _ h => h)).src (by rw [HQL.out]; omega)
            rw [show appE 200000 [] qs = 0 by rw [appE, HQL.out, if_pos (by simp; omega)], show appL 200000 [] qs = qs by rw [appL, HQL.out, if_pos (by simp; omega), List.nil_append], HQL.out] at A1
            have N1 : Hid (∀ c, (fun c => c = b) c → wq.heap.size ≤ c) := fun c hc => by rw [show c = b from hc]; exact hb
            have O1 : Hid _ := o1
            clear K hb o1 hro
            go_wp2_with fail
            refine Calls.mono A1.out ?_
            rintro e w2' ⟨rfl, D2, K2, o2, d2⟩
            obtain ⟨o3, n3⟩ := Chg.new ⟨o2, d2⟩ O1.out N1.out
            have HK2 : Hid _ := K2
            have O3 : Hid _ := o3
            have N3 : Hid _ := n3
            clear A1 K2 o2 d2 o3 n3 O1 N1
            go_wp2_with fail
            refine (dsync_any HK2.out.toDsk0).mono ?_
            rintro e w3 ⟨rfl, K3, o3⟩
            obtain ⟨o4, n4⟩ := Chg.new ⟨o3, fun c h => .inl h⟩ O3.out N3.out
            have HK3 : Hid _ := K3
            have O4 : Hid _ := o4
            have N4 : Hid _ := n4
            have RA : Hid _ := rall_any ((HQ.out.off o4 (fun _ _ _ h => h)).inp HQT.out) (by rw [HQL.out]; omega)
            rw [HQL.out] at RA
            clear HK2 O3 N3 K3 o3 o4 n4
            go_wp2_with fail
            refine Calls.mono RA.out ?_
            rintro e w4 ⟨t5, c5, b5, n, er, rfl, OG, fr5, each5, al, o5⟩
            have TL : Hid (Tol D2 w4 t5 c5 b5) := ⟨OG, fun k hk hD => by have := fr5 k hk; have := HK3.out.lt k hD; omega, fun x hx => ⟨(each5 x hx).1, fun k hk hD => by have := (each5 x hx).2.1 k hk; have := HK3.out.lt k hD; omega⟩⟩
            have HK4 : Hid _ := HK3.out.free o5
            have O5 : Hid _ := O4.out.trans o5 (fun _ _ h => h)
            have hml := al.got.many
            have hnl := al.got.le
            rw [List.length_map] at hml
            have HAL : Hid _ := al
            have hnz : n ≤ zs.length := by have := HQL.out; omega
            have hbm : b5.length ≤ 100000 := by have := HQL.out; omega
            clear RA OG fr5 each5 al o5 HK3 O4 hml hnl
            by_cases he : er = 0
            · have HAL0 : Hid (Al qs (b5.map B.data) n 0) := by
                have := HAL.out
                rw [he] at this
                exact this
              subst he
              have P4 : Hid _ := wopen_ok HK4.out HQT.out HAL0.out
              clear HAL
              go_wp2_with fail
              refine Calls.mono P4.out ?_
              rintro e V ⟨lb, t8, c8, rl, rfl, hd, D8, tl8, lg8, ch8⟩
              obtain ⟨o8, -⟩ := ch8.new O5.out N4.out
              have hll : rl.length = b5.length := by
                have := congrArg List.length hd
                simpa using this
              have HLL : Hid _ := hll
              have rlb : rl.length ≤ 100000 := by omega
              have es : (if n < qs.length then n else qs.length) = n := by
                have := HQL.out
                split <;> omega
              rw [es] at lg8
              have LG : Hid _ := lg8
              have TL8 : Hid _ := tl8
              have TL5 : Hid _ := TL.out.chg ch8
              have SB : Hid (∀ W, Off (fun _ => False) V W → Calls Try.prog 18 #[.slice t8 rl.length c8, .slice t5 b5.length c5] W fun e w' => e = .returned (.bool true) ∧ Off (fun _ => False) W w') := fun W o => samebytes_any t8 t5 c8 c5 rl b5 W (TL8.out.free o).own (TL5.out.free o).own (fun x hx => ((TL8.out.free o).each x hx).1.src) (fun x hx => ((TL5.out.free o).each x hx).1.src) hd (by omega)
              have OV : Hid _ := o8
              have OVW : Hid _ := OWR.out.trans o8 (fun _ _ h => h)
              obtain ⟨hsl, ownT⟩ := (HQ.out.off o8 (fun _ _ _ h => h)).take (k := n) (by rw [HQL.out]; exact hnz)
              rw [HQL.out] at hsl
              have hcap : n ≤ c2 := by
                have := HQ.out.cap
                have := HQL.out
                omega
              have HWS : Hid _ := ownT.src
              have lct : (qs.take n).length = n := by
                have := HQL.out
                rw [List.length_take]
                omega
              have HCV : Hid (∀ W, Off (fun _ => False) V W → (convert 23 9 (.slice t2 n c2)).run Try.prog W = .ok (.string (strOf (qs.take n))) W) := fun W o => by
                have := conv_src (HWS.out.off o (fun _ _ _ h => h))
                rwa [lct] at this
              have HBY : Hid (∀ W, Off (fun _ => False) V W → Calls Try.prog 17 #[.pointer (some ⟨b, 0, none⟩)] W fun e w' => ∃ t c, e = .returned (.slice t n c) ∧ OwnR w' t c (qs.take n) ∧ Off (fun _ => False) W w') := fun W o => by
                obtain ⟨D9, K9, -⟩ := LG.out.disk
                refine (dbytes_any (K9.free o)).mono ?_
                rintro e w' ⟨t, c, rfl, own, -, o'⟩
                rw [lct]
                exact ⟨t, c, rfl, own, o'⟩
              have HSU : Hid (∀ W, Off (fun _ => False) V W → Calls Try.prog 21 #[.pointer (some ⟨b, 0, none⟩)] W fun e w' => e = .returned (.int .i64 (n : Int)) ∧ w' = W) := fun W o => by
                obtain ⟨D9, K9, -⟩ := LG.out.disk
                exact dsure_any (K9.free o)
              have HXL : Hid _ := lct
              have bz : n ≤ 100000 := by omega
              clear P4 hd hll tl8 lg8 ch8 o8 TL8 TL5 TL HAL0 HK4 O5 N4 ownT HWS lct es HQ OWR
              generalize qs.take n = ps at *
              go_upto_region 23 with fail
              refine wp_region_held_drew (S := fun w' => Off (fun _ => False) V w') (by kernel_rfl) ((Off.refl _ V).drew) (fun hS => ?_)
              generalize hdr : V.drew = W0 at hS ⊢
              clear hdr
              refine take_at (i := 0) 115 (v := .int .i64 0) rfl rfl (by kernel_rfl) (by kernel_rfl) (by kernel_rfl) (fun _ _ _ h => h) (Or.inl ⟨by rfl, fun w' hw' => by go_simp⟩) hS ?_
              simp only [Act.put, List.setIfInBounds_toArray, List.set_cons_zero, List.set_cons_succ]
              refine take_at (i := 1) 116 (v := .bool true) rfl rfl (by kernel_rfl) (by kernel_rfl) (by kernel_rfl) (fun _ _ _ h => h) (Or.inl ⟨by rfl, fun w' hw' => by go_simp⟩) hS ?_
              simp only [Act.put, List.setIfInBounds_toArray, List.set_cons_zero, List.set_cons_succ]
              refine take_at (i := 2) 117 (v := .bool true) rfl rfl (by kernel_rfl) (by kernel_rfl) (by kernel_rfl) (fun _ _ _ h => h) (Or.inl ⟨by rfl, fun w' hw' => by go_simp⟩) hS ?_
              simp only [Act.put, List.setIfInBounds_toArray, List.set_cons_zero, List.set_cons_succ]
              refine take_at (i := 3) 118 (v := .pointer (some ⟨lb, 0, none⟩)) rfl rfl (by kernel_rfl) (by kernel_rfl) (by kernel_rfl) (fun _ _ _ h => h) (Or.inl ⟨by rfl, fun w' hw' => by go_simp⟩) hS ?_
              simp only [Act.put, List.setIfInBounds_toArray, List.set_cons_zero, List.set_cons_succ]
              refine take_at (i := 4) 119 (v := .bool true) rfl rfl (by kernel_rfl) (by kernel_rfl) (by kernel_rfl) (fun _ _ _ h => h) (Or.inl ⟨by rfl, fun w' hw' => by go_simp⟩) hS ?_
              simp only [Act.put, List.setIfInBounds_toArray, List.set_cons_zero, List.set_cons_succ]
              refine take_at (i := 5) 120 (v := .bool true) rfl rfl (by kernel_rfl) (by kernel_rfl) (by kernel_rfl) (fun _ _ _ h => h) (Or.inl ⟨by rfl, fun w' hw' => by go_simp⟩) hS ?_
              simp only [Act.put, List.setIfInBounds_toArray, List.set_cons_zero, List.set_cons_succ]
              refine take_at (i := 6) 121 (v := .bool true) rfl rfl (by kernel_rfl) (by kernel_rfl) (by kernel_rfl) (fun _ _ _ h => h) (Or.inl ⟨by rfl, fun w' hw' => by go_simp⟩) hS ?_
              simp only [Act.put, List.setIfInBounds_toArray, List.set_cons_zero, List.set_cons_succ]
              refine take_at (i := 7) 122 (v := .slice t8 rl.length c8) rfl rfl (by kernel_rfl) (by kernel_rfl) (by kernel_rfl) (fun _ _ _ h => h) (Or.inl ⟨by rfl, fun w' hw' => by go_simp⟩) hS ?_
              simp only [Act.put, List.setIfInBounds_toArray, List.set_cons_zero, List.set_cons_succ]
              refine take_at (i := 8) 123 (v := .slice t5 b5.length c5) rfl rfl (by kernel_rfl) (by kernel_rfl) (by kernel_rfl) (fun _ _ _ h => h) (Or.inl ⟨by rfl, fun w' hw' => by go_simp⟩) hS ?_
              simp only [Act.put, List.setIfInBounds_toArray, List.set_cons_zero, List.set_cons_succ]
              refine wpAnyH_ready (rs := [9]) (by kernel_rfl) (by simp) ?_
              refine AllReadyH.cons rfl (fun K' hK' => ?_) AllReadyH.nil
              go_simp
              refine Calls.mono (SB.out _ hS) ?_
              rintro e W1 ⟨rfl, o1⟩
              refine hK'.out _ _ (hS.trans o1 (fun _ _ h => h)) (fun hS => ?_)
              clear hK' K'
              clear o1
              refine take_at (i := 10) 125 (v := .bool true) rfl rfl (by kernel_rfl) (by kernel_rfl) (by kernel_rfl) (fun _ _ _ h => h) (Or.inl ⟨by rfl, fun w' hw' => by go_simp⟩) hS ?_
              simp only [Act.put, List.setIfInBounds_toArray, List.set_cons_zero, List.set_cons_succ]
              refine take_at (i := 11) 126 (v := .bool true) rfl rfl (by kernel_rfl) (by kernel_rfl) (by kernel_rfl) (fun _ _ _ h => h) (Or.inl ⟨by rfl, fun w' hw' => by go_simp⟩) hS ?_
              simp only [Act.put, List.setIfInBounds_toArray, List.set_cons_zero, List.set_cons_succ]
              refine take_at (i := 12) 127 (v := .pointer (some ⟨lb, 0, none⟩)) rfl rfl (by kernel_rfl) (by kernel_rfl) (by kernel_rfl) (fun _ _ _ h => h) (Or.inl ⟨by rfl, fun w' hw' => by go_simp⟩) hS ?_
              simp only [Act.put, List.setIfInBounds_toArray, List.set_cons_zero, List.set_cons_succ]
              refine take_at (i := 14) 129 (v := .slice t5 b5.length c5) rfl rfl (by kernel_rfl) (by kernel_rfl) (by kernel_rfl) (fun _ _ _ h => h) (Or.inl ⟨by rfl, fun w' hw' => by go_simp⟩) hS ?_
              simp only [Act.put, List.setIfInBounds_toArray, List.set_cons_zero, List.set_cons_succ]
              refine take_at (i := 15) 130 (v := .int .i64 (b5.length : Int)) rfl rfl (by kernel_rfl) (by kernel_rfl) (by kernel_rfl) (fun _ _ _ h => h) (Or.inl ⟨by rfl, fun w' hw' => by go_simp⟩) hS ?_
              simp only [Act.put, List.setIfInBounds_toArray, List.set_cons_zero, List.set_cons_succ]
              refine wpAnyH_ready (rs := [13]) (by kernel_rfl) (by simp) ?_
              refine AllReadyH.cons rfl (fun K' hK' => ?_) AllReadyH.nil
              go_simp
              refine Calls.mono (wlen_any (LG.out.free hS)) ?_
              rintro e W2 ⟨rfl, hw⟩
              refine hK'.out _ _ (by rw [hw]; exact hS) (fun hS => ?_)
              clear hK' K'
              clear hw
              refine take_at (i := 16) 131 (v := .bool true) rfl rfl (by kernel_rfl) (by kernel_rfl) (by kernel_rfl) (fun _ _ _ h => h) (Or.inl ⟨by rfl, fun w' hw' => by have h9 := HLL.out; first | (go_simp; done) | (go_simp; omega)⟩) hS ?_
              simp only [Act.put, List.setIfInBounds_toArray, List.set_cons_zero, List.set_cons_succ]
              refine take_at (i := 17) 132 (v := .bool true) rfl rfl (by kernel_rfl) (by kernel_rfl) (by kernel_rfl) (fun _ _ _ h => h) (Or.inl ⟨by rfl, fun w' hw' => by go_simp⟩) hS ?_
              simp only [Act.put, List.setIfInBounds_toArray, List.set_cons_zero, List.set_cons_succ]
              refine take_at (i := 18) 133 (v := .bool true) rfl rfl (by kernel_rfl) (by kernel_rfl) (by kernel_rfl) (fun _ _ _ h => h) (Or.inl ⟨by rfl, fun w' hw' => by go_simp⟩) hS ?_
              simp only [Act.put, List.setIfInBounds_toArray, List.set_cons_zero, List.set_cons_succ]
              refine take_at (i := 19) 134 (v := .pointer (some ⟨lb, 0, none⟩)) rfl rfl (by kernel_rfl) (by kernel_rfl) (by kernel_rfl) (fun _ _ _ h => h) (Or.inl ⟨by rfl, fun w' hw' => by go_simp⟩) hS ?_
              simp only [Act.put, List.setIfInBounds_toArray, List.set_cons_zero, List.set_cons_succ]
              refine take_at (i := 21) 136 (v := .int .i64 (n : Int)) rfl rfl (by kernel_rfl) (by kernel_rfl) (by kernel_rfl) (fun _ _ _ h => h) (Or.inl ⟨by rfl, fun w' hw' => by go_simp⟩) hS ?_
              simp only [Act.put, List.setIfInBounds_toArray, List.set_cons_zero, List.set_cons_succ]
              refine wpAnyH_ready (rs := [20]) (by kernel_rfl) (by simp) ?_
              refine AllReadyH.cons rfl (fun K' hK' => ?_) AllReadyH.nil
              go_simp
              refine Calls.mono (wsize_any (LG.out.free hS)) ?_
              rintro e W3 ⟨rfl, hw⟩
              refine hK'.out _ _ (by rw [hw]; exact hS) (fun hS => ?_)
              clear hK' K'
              clear hw
              refine take_at (i := 22) 137 (v := .bool true) rfl rfl (by kernel_rfl) (by kernel_rfl) (by kernel_rfl) (fun _ _ _ h => h) (Or.inl ⟨by rfl, fun w' hw' => by go_simp⟩) hS ?_
              simp only [Act.put, List.setIfInBounds_toArray, List.set_cons_zero, List.set_cons_succ]
              refine take_at (i := 23) 138 (v := .bool true) rfl rfl (by kernel_rfl) (by kernel_rfl) (by kernel_rfl) (fun _ _ _ h => h) (Or.inl ⟨by rfl, fun w' hw' => by go_simp⟩) hS ?_
              simp only [Act.put, List.setIfInBounds_toArray, List.set_cons_zero, List.set_cons_succ]
              refine take_at (i := 24) 139 (v := .bool true) rfl rfl (by kernel_rfl) (by kernel_rfl) (by kernel_rfl) (fun _ _ _ h => h) (Or.inl ⟨by rfl, fun w' hw' => by go_simp⟩) hS ?_
              simp only [Act.put, List.setIfInBounds_toArray, List.set_cons_zero, List.set_cons_succ]
              refine take_at (i := 25) 140 (v := .pointer (some ⟨b, 0, none⟩)) rfl rfl (by kernel_rfl) (by kernel_rfl) (by kernel_rfl) (fun _ _ _ h => h) (Or.inl ⟨by rfl, fun w' hw' => by go_simp⟩) hS ?_
              simp only [Act.put, List.setIfInBounds_toArray, List.set_cons_zero, List.set_cons_succ]
              refine take_at (i := 28) 143 (v := .slice t2 zs.length c2) rfl rfl (by kernel_rfl) (by kernel_rfl) (by kernel_rfl) (fun _ _ _ h => h) (Or.inl ⟨by rfl, fun w' hw' => by go_simp⟩) hS ?_
              simp only [Act.put, List.setIfInBounds_toArray, List.set_cons_zero, List.set_cons_succ]
              refine take_at (i := 29) 144 (v := .int .i64 (n : Int)) rfl rfl (by kernel_rfl) (by kernel_rfl) (by kernel_rfl) (fun _ _ _ h => h) (Or.inl ⟨by rfl, fun w' hw' => by go_simp⟩) hS ?_
              simp only [Act.put, List.setIfInBounds_toArray, List.set_cons_zero, List.set_cons_succ]
              refine take_at (i := 30) 145 (v := .slice t2 n c2) rfl rfl (by kernel_rfl) (by kernel_rfl) (by kernel_rfl) (fun _ _ _ h => h) (Or.inl ⟨by rfl, fun w' hw' => by go_simp⟩) hS ?_
              simp only [Act.put, List.setIfInBounds_toArray, List.set_cons_zero, List.set_cons_succ]
              refine take_at (i := 31) 146 (v := .string (strOf ps)) rfl rfl (by kernel_rfl) (by kernel_rfl) (by kernel_rfl) (fun _ _ _ h => h) (Or.inl ⟨by rfl, fun w' hw' => by have hcs := HCV.out _ hw'; go_simp⟩) hS ?_
              simp only [Act.put, List.setIfInBounds_toArray, List.set_cons_zero, List.set_cons_succ]
              refine wpAnyH_ready (rs := [26]) (by kernel_rfl) (by simp) ?_
              refine AllReadyH.cons rfl (fun K' hK' => ?_) AllReadyH.nil
              go_simp
              refine Calls.mono (HBY.out _ hS) ?_
              rintro e W5 ⟨t6, c6, rfl, own6, o6⟩
              refine hK'.out _ _ (hS.trans o6 (fun _ _ h => h)) (fun hS => ?_)
              clear hK' K'
              have HS3 : Hid _ := own6.src
              clear own6 o6
              refine wpAnyH_ready (rs := [27]) (by kernel_rfl) (by simp) ?_
              refine AllReadyH.cons rfl (fun K' hK' => ?_) AllReadyH.nil
              have hcs := conv_src HS3.out
              rw [HXL.out] at hcs
              go_simp
              refine hK'.out _ _ hS (fun hS => ?_)
              clear hK' K'
              refine take_at (i := 32) 147 (v := .bool true) rfl rfl (by kernel_rfl) (by kernel_rfl) (by kernel_rfl) (fun _ _ _ h => h) (Or.inl ⟨by rfl, fun w' hw' => by go_simp⟩) hS ?_
              simp only [Act.put, List.setIfInBounds_toArray, List.set_cons_zero, List.set_cons_succ]
              refine take_at (i := 33) 148 (v := .bool true) rfl rfl (by kernel_rfl) (by kernel_rfl) (by kernel_rfl) (fun _ _ _ h => h) (Or.inl ⟨by rfl, fun w' hw' => by go_simp⟩) hS ?_
              simp only [Act.put, List.setIfInBounds_toArray, List.set_cons_zero, List.set_cons_succ]
              refine take_at (i := 34) 149 (v := .bool true) rfl rfl (by kernel_rfl) (by kernel_rfl) (by kernel_rfl) (fun _ _ _ h => h) (Or.inl ⟨by rfl, fun w' hw' => by go_simp⟩) hS ?_
              simp only [Act.put, List.setIfInBounds_toArray, List.set_cons_zero, List.set_cons_succ]
              refine take_at (i := 35) 150 (v := .pointer (some ⟨b, 0, none⟩)) rfl rfl (by kernel_rfl) (by kernel_rfl) (by kernel_rfl) (fun _ _ _ h => h) (Or.inl ⟨by rfl, fun w' hw' => by go_simp⟩) hS ?_
              simp only [Act.put, List.setIfInBounds_toArray, List.set_cons_zero, List.set_cons_succ]
              refine take_at (i := 37) 152 (v := .int .i64 (n : Int)) rfl rfl (by kernel_rfl) (by kernel_rfl) (by kernel_rfl) (fun _ _ _ h => h) (Or.inl ⟨by rfl, fun w' hw' => by go_simp⟩) hS ?_
              simp only [Act.put, List.setIfInBounds_toArray, List.set_cons_zero, List.set_cons_succ]
              refine wpAnyH_ready (rs := [36]) (by kernel_rfl) (by simp) ?_
              refine AllReadyH.cons rfl (fun K' hK' => ?_) AllReadyH.nil
              go_simp
              refine Calls.mono (HSU.out _ hS) ?_
              rintro e W6 ⟨rfl, hw⟩
              refine hK'.out _ _ (by rw [hw]; exact hS) (fun hS => ?_)
              clear hK' K'
              clear hw
              refine take_at (i := 38) 153 (v := .bool true) rfl rfl (by kernel_rfl) (by kernel_rfl) (by kernel_rfl) (fun _ _ _ h => h) (Or.inl ⟨by rfl, fun w' hw' => by go_simp⟩) hS ?_
              simp only [Act.put, List.setIfInBounds_toArray, List.set_cons_zero, List.set_cons_succ]
              refine take_at (i := 39) 154 (v := .bool true) rfl rfl (by kernel_rfl) (by kernel_rfl) (by kernel_rfl) (fun _ _ _ h => h) (Or.inl ⟨by rfl, fun w' hw' => by go_simp⟩) hS ?_
              simp only [Act.put, List.setIfInBounds_toArray, List.set_cons_zero, List.set_cons_succ]
              refine take_at (i := 40) 155 (v := .bool true) rfl rfl (by kernel_rfl) (by kernel_rfl) (by kernel_rfl) (fun _ _ _ h => h) (Or.inl ⟨by rfl, fun w' hw' => by go_simp⟩) hS ?_
              simp only [Act.put, List.setIfInBounds_toArray, List.set_cons_zero, List.set_cons_succ]
              refine wpAnyH_ready (rs := [41]) (by kernel_rfl) (by simp) ?_
              refine AllReadyH.cons rfl (fun K' hK' => ?_) AllReadyH.nil
              go_simp
              refine Calls.mono (awake_any _) ?_
              rintro e W7 ⟨rfl, o7⟩
              refine hK'.out _ _ (hS.trans o7 (fun _ _ h => h)) (fun hS => ?_)
              clear hK' K'
              refine take_at (i := 42) 157 (v := .bool true) rfl rfl (by kernel_rfl) (by kernel_rfl) (by kernel_rfl) (fun _ _ _ h => h) (Or.inl ⟨by rfl, fun w' hw' => by go_simp⟩) hS ?_
              simp only [Act.put, List.setIfInBounds_toArray, List.set_cons_zero, List.set_cons_succ]
              refine take_at (i := 43) 8 (v := .bool true) rfl rfl (by kernel_rfl) (by kernel_rfl) (by kernel_rfl) (fun _ _ _ h => h) (Or.inl ⟨by rfl, fun w' hw' => by go_simp⟩) hS ?_
              simp only [Act.put, List.setIfInBounds_toArray, List.set_cons_zero, List.set_cons_succ]
              refine wpAnyH_done (by kernel_rfl) ?_ _
              go_wp2_with fail
              go_ret
              exact ⟨rfl, OVW.out.trans hS (fun _ _ h => h)⟩
            · have qne : (er != 0) = true := by simpa using he
              have P4 : Hid _ := wopen_no HK4.out HQT.out HAL.out he
              go_wp2_with fail
              refine Calls.mono P4.out ?_
              rintro e V ⟨rfl, o8⟩
              have OVW : Hid _ := OWR.out.trans (O5.out.trans o8 (fun _ _ h => h)) (fun _ _ h => h)
              have KV : Hid _ := HK4.out.free o8
              have HWS : Hid _ := (HQ.out.off (O5.out.trans o8 (fun _ _ h => h)) (fun _ _ _ h => h)).src
              have HCV : Hid (∀ W, Off (fun _ => False) V W → (convert 23 9 (.slice t2 zs.length c2)).run Try.prog W = .ok (.string (strOf qs)) W) := fun W o => by
                have := conv_src (HWS.out.off o (fun _ _ _ h => h))
                rwa [HQL.out] at this
              have HBY : Hid (∀ W, Off (fun _ => False) V W → Calls Try.prog 17 #[.pointer (some ⟨b, 0, none⟩)] W fun e w' => ∃ t c, e = .returned (.slice t zs.length c) ∧ OwnR w' t c qs ∧ Off (fun _ => False) W w') := fun W o => by
                refine (dbytes_any (KV.out.free o)).mono ?_
                rintro e w' ⟨t, c, rfl, own, -, o'⟩
                rw [HQL.out]
                exact ⟨t, c, rfl, own, o'⟩
              have qe : (er == er) = true := by simp
              clear P4 o8 KV HWS O5 N4 TL HK4 HAL HQ OWR
              go_upto_region 22 with fail
              refine wp_region_held_drew (S := fun w' => Off (fun _ => False) V w') (by kernel_rfl) ((Off.refl _ V).drew) (fun hS => ?_)
              generalize hdr : V.drew = W0 at hS ⊢
              clear hdr
              refine take_at (i := 0) 92 (v := .int .i64 er) rfl rfl (by kernel_rfl) (by kernel_rfl) (by kernel_rfl) (fun _ _ _ h => h) (Or.inl ⟨by rfl, fun w' hw' => by go_simp⟩) hS ?_
              simp only [Act.put, List.setIfInBounds_toArray, List.set_cons_zero, List.set_cons_succ]
              refine take_at (i := 1) 93 (v := .int .i64 er) rfl rfl (by kernel_rfl) (by kernel_rfl) (by kernel_rfl) (fun _ _ _ h => h) (Or.inl ⟨by rfl, fun w' hw' => by go_simp⟩) hS ?_
              simp only [Act.put, List.setIfInBounds_toArray, List.set_cons_zero, List.set_cons_succ]
              refine take_at (i := 2) 94 (v := .bool true) rfl rfl (by kernel_rfl) (by kernel_rfl) (by kernel_rfl) (fun _ _ _ h => h) (Or.inl ⟨by rfl, fun w' hw' => by go_simp⟩) hS ?_
              simp only [Act.put, List.setIfInBounds_toArray, List.set_cons_zero, List.set_cons_succ]
              refine take_at (i := 3) 95 (v := .bool true) rfl rfl (by kernel_rfl) (by kernel_rfl) (by kernel_rfl) (fun _ _ _ h => h) (Or.inl ⟨by rfl, fun w' hw' => by go_simp⟩) hS ?_
              simp only [Act.put, List.setIfInBounds_toArray, List.set_cons_zero, List.set_cons_succ]
              refine take_at (i := 4) 96 (v := .pointer none) rfl rfl (by kernel_rfl) (by kernel_rfl) (by kernel_rfl) (fun _ _ _ h => h) (Or.inl ⟨by rfl, fun w' hw' => by go_simp⟩) hS ?_
              simp only [Act.put, List.setIfInBounds_toArray, List.set_cons_zero, List.set_cons_succ]
              refine take_at (i := 5) 97 (v := .bool true) rfl rfl (by kernel_rfl) (by kernel_rfl) (by kernel_rfl) (fun _ _ _ h => h) (Or.inl ⟨by rfl, fun w' hw' => by go_simp⟩) hS ?_
              simp only [Act.put, List.setIfInBounds_toArray, List.set_cons_zero, List.set_cons_succ]
              refine take_at (i := 6) 98 (v := .bool true) rfl rfl (by kernel_rfl) (by kernel_rfl) (by kernel_rfl) (fun _ _ _ h => h) (Or.inl ⟨by rfl, fun w' hw' => by go_simp⟩) hS ?_
              simp only [Act.put, List.setIfInBounds_toArray, List.set_cons_zero, List.set_cons_succ]
              refine take_at (i := 7) 99 (v := .bool true) rfl rfl (by kernel_rfl) (by kernel_rfl) (by kernel_rfl) (fun _ _ _ h => h) (Or.inl ⟨by rfl, fun w' hw' => by go_simp⟩) hS ?_
              simp only [Act.put, List.setIfInBounds_toArray, List.set_cons_zero, List.set_cons_succ]
              refine take_at (i := 8) 100 (v := .slice none 0 0) rfl rfl (by kernel_rfl) (by kernel_rfl) (by kernel_rfl) (fun _ _ _ h => h) (Or.inl ⟨by rfl, fun w' hw' => by go_simp⟩) hS ?_
              simp only [Act.put, List.setIfInBounds_toArray, List.set_cons_zero, List.set_cons_succ]
              refine take_at (i := 9) 101 (v := .int .i64 0) rfl rfl (by kernel_rfl) (by kernel_rfl) (by kernel_rfl) (fun _ _ _ h => h) (Or.inl ⟨by rfl, fun w' hw' => by go_simp⟩) hS ?_
              simp only [Act.put, List.setIfInBounds_toArray, List.set_cons_zero, List.set_cons_succ]
              refine take_at (i := 10) 102 (v := .bool true) rfl rfl (by kernel_rfl) (by kernel_rfl) (by kernel_rfl) (fun _ _ _ h => h) (Or.inl ⟨by rfl, fun w' hw' => by go_simp⟩) hS ?_
              simp only [Act.put, List.setIfInBounds_toArray, List.set_cons_zero, List.set_cons_succ]
              refine take_at (i := 11) 103 (v := .bool true) rfl rfl (by kernel_rfl) (by kernel_rfl) (by kernel_rfl) (fun _ _ _ h => h) (Or.inl ⟨by rfl, fun w' hw' => by go_simp⟩) hS ?_
              simp only [Act.put, List.setIfInBounds_toArray, List.set_cons_zero, List.set_cons_succ]
              refine take_at (i := 12) 104 (v := .bool true) rfl rfl (by kernel_rfl) (by kernel_rfl) (by kernel_rfl) (fun _ _ _ h => h) (Or.inl ⟨by rfl, fun w' hw' => by go_simp⟩) hS ?_
              simp only [Act.put, List.setIfInBounds_toArray, List.set_cons_zero, List.set_cons_succ]
              refine take_at (i := 13) 105 (v := .pointer (some ⟨b, 0, none⟩)) rfl rfl (by kernel_rfl) (by kernel_rfl) (by kernel_rfl) (fun _ _ _ h => h) (Or.inl ⟨by rfl, fun w' hw' => by go_simp⟩) hS ?_
              simp only [Act.put, List.setIfInBounds_toArray, List.set_cons_zero, List.set_cons_succ]
              refine take_at (i := 16) 108 (v := .slice t2 zs.length c2) rfl rfl (by kernel_rfl) (by kernel_rfl) (by kernel_rfl) (fun _ _ _ h => h) (Or.inl ⟨by rfl, fun w' hw' => by go_simp⟩) hS ?_
              simp only [Act.put, List.setIfInBounds_toArray, List.set_cons_zero, List.set_cons_succ]
              refine take_at (i := 17) 109 (v := .string (strOf qs)) rfl rfl (by kernel_rfl) (by kernel_rfl) (by kernel_rfl) (fun _ _ _ h => h) (Or.inl ⟨by rfl, fun w' hw' => by have hcs := HCV.out _ hw'; go_simp⟩) hS ?_
              simp only [Act.put, List.setIfInBounds_toArray, List.set_cons_zero, List.set_cons_succ]
              refine wpAnyH_ready (rs := [14]) (by kernel_rfl) (by simp) ?_
              refine AllReadyH.cons rfl (fun K' hK' => ?_) AllReadyH.nil
              go_simp
              refine Calls.mono (HBY.out _ hS) ?_
              rintro e W1 ⟨t6, c6, rfl, own6, o6⟩
              refine hK'.out _ _ (hS.trans o6 (fun _ _ h => h)) (fun hS => ?_)
              clear hK' K'
              have HS3 : Hid _ := own6.src
              clear own6 o6
              refine wpAnyH_ready (rs := [15]) (by kernel_rfl) (by simp) ?_
              refine AllReadyH.cons rfl (fun K' hK' => ?_) AllReadyH.nil
              have hcs := conv_src HS3.out
              rw [HQL.out] at hcs
              go_simp
              refine hK'.out _ _ hS (fun hS => ?_)
              clear hK' K'
              refine take_at (i := 18) 110 (v := .bool true) rfl rfl (by kernel_rfl) (by kernel_rfl) (by kernel_rfl) (fun _ _ _ h => h) (Or.inl ⟨by rfl, fun w' hw' => by go_simp⟩) hS ?_
              simp only [Act.put, List.setIfInBounds_toArray, List.set_cons_zero, List.set_cons_succ]
              refine take_at (i := 19) 111 (v := .bool true) rfl rfl (by kernel_rfl) (by kernel_rfl) (by kernel_rfl) (fun _ _ _ h => h) (Or.inl ⟨by rfl, fun w' hw' => by go_simp⟩) hS ?_
              simp only [Act.put, List.setIfInBounds_toArray, List.set_cons_zero, List.set_cons_succ]
              refine take_at (i := 20) 112 (v := .bool true) rfl rfl (by kernel_rfl) (by kernel_rfl) (by kernel_rfl) (fun _ _ _ h => h) (Or.inl ⟨by rfl, fun w' hw' => by go_simp⟩) hS ?_
              simp only [Act.put, List.setIfInBounds_toArray, List.set_cons_zero, List.set_cons_succ]
              refine wpAnyH_ready (rs := [21]) (by kernel_rfl) (by simp) ?_
              refine AllReadyH.cons rfl (fun K' hK' => ?_) AllReadyH.nil
              go_simp
              refine Calls.mono (awake_any _) ?_
              rintro e W4 ⟨rfl, o4⟩
              refine hK'.out _ _ (hS.trans o4 (fun _ _ h => h)) (fun hS => ?_)
              clear hK' K'
              refine take_at (i := 22) 114 (v := .bool true) rfl rfl (by kernel_rfl) (by kernel_rfl) (by kernel_rfl) (fun _ _ _ h => h) (Or.inl ⟨by rfl, fun w' hw' => by go_simp⟩) hS ?_
              simp only [Act.put, List.setIfInBounds_toArray, List.set_cons_zero, List.set_cons_succ]
              refine take_at (i := 23) 8 (v := .bool true) rfl rfl (by kernel_rfl) (by kernel_rfl) (by kernel_rfl) (fun _ _ _ h => h) (Or.inl ⟨by rfl, fun w' hw' => by go_simp⟩) hS ?_
              simp only [Act.put, List.setIfInBounds_toArray, List.set_cons_zero, List.set_cons_succ]
              refine wpAnyH_done (by kernel_rfl) ?_ _
              go_wp2_with fail
              go_ret
              exact ⟨rfl, OVW.out.trans hS (fun _ _ h => h)⟩
end Go.Proofs.Ytmdhcoplhibbeaa
