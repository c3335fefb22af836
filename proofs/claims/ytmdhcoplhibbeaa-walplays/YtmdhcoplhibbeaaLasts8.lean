/- The walk of WalLasts. -/
import Derived.Test.YtmdhcoplhibbeaaShort8
import Derived.Test.YtmdhcoplhibbeaaRRef7
namespace Go.Proofs.Ytmdhcoplhibbeaa
open Go.RowKit

theorem Lg.off {D E : Nat → Prop} {lb b most : Nat} {ds : List Nat} {s k m : Nat} {w w' : World} (h : Lg D lb b most ds s k m w) (o : Off E w w') (hE : ∀ c, D c → ¬ E c) : Lg D lb b most ds s k m w' := by
  obtain ⟨D0, h1, h2, h3⟩ := h.dsk
  exact ⟨h.here, fun c hc => Nat.lt_of_lt_of_le (h.lt c hc) o.size, ⟨D0, h1.off o (fun c _ hc => hE c (h2 c hc)), h2, h3⟩, h.log.off o (hE lb h.here)⟩
theorem Std.off {D E : Nat → Prop} {lb b most : Nat} {rs : List (List Nat)} {v v' : World} (h : Std D lb b most rs v) (o : Off E v v') (hE : ∀ c, D c → ¬ E c) : Std D lb b most rs v' := ⟨h.lg.off o hE, h.rec_⟩

/-- A file with these records, and at its end a beginning of another one. -/
structure Tor (rs : List (List Nat)) (bs : List Nat) (s : Nat) : Prop where
  is : (∀ r ∈ rs, Rec r) → ∃ x j, Rec x ∧ j < x.length + 8 ∧ bs = frs rs ++ (frm x).take j ∧ (frs rs).length ≤ s
theorem Tor.whole (rs : List (List Nat)) : Tor rs (frs rs) (frs rs).length := ⟨fun _ => ⟨[], 0, ⟨by simp, by simp⟩, by simp, by simp, Nat.le_refl _⟩⟩
theorem Tor.more (rs : List (List Nat)) {x : List Nat} (hx : Rec x) {j : Nat} (hj : j < x.length + 8) : Tor rs (frs rs ++ (frm x).take j) (frs rs).length := ⟨fun _ => ⟨x, j, hx, hj, rfl, Nat.le_refl _⟩⟩
theorem Tor.cut {rs : List (List Nat)} {bs : List Nat} {s k : Nat} (h : Tor rs bs s) (hk : s ≤ k) : Tor rs (bs.take k) k := by
  refine ⟨fun hr => ?_⟩
  obtain ⟨x, j, hx, hj, rfl, hs⟩ := h.is hr
  refine ⟨x, min (k - (frs rs).length) j, hx, by omega, ?_, by omega⟩
  rw [List.take_append, List.take_of_length_le (by omega), List.take_take]
theorem open_std {D : Nat → Prop} {b most : Nat} {bs : List Nat} {s : Nat} {rs : List (List Nat)} {v : World} (h : Dsk D b most bs s v) (ht : Tor rs bs s) (hr : ∀ r ∈ rs, Rec r) :
    Calls Try.prog 16 #[.pointer (some ⟨b, 0, none⟩)] v fun e v' => ∃ (lb : Nat) (t : Option Addr) (c : Nat) (bl : List B), e = .returned (.tuple #[.pointer (some ⟨lb, 0, none⟩), .slice t bl.length c, .int .i64 0]) ∧ bl.map B.data = rs ∧ ∃ D', Tol D' v' t c bl ∧ Std D' lb b most rs v' ∧ Chg D D' v v' := by
  obtain ⟨x, j, hx, hj, rfl, hs⟩ := ht.is hr
  have hsu := h.su
  have h2 : tkE ((frm x).take j) = 2 := by
    have := tkE_short hx [] hj
    rwa [List.append_nil] at this
  refine (wopen_ok h (fun y hy => ?_) (al_tail hr h2)).mono ?_
  · rcases List.mem_append.1 hy with hy | hy
    · exact frs_lt hr y hy
    · exact frm_lt hx.lt y (List.mem_of_mem_take hy)
  · rintro e v' ⟨lb, t, c, bl, rfl, hd, D', tl, lg, ch⟩
    refine ⟨lb, t, c, bl, rfl, hd, D', tl, ⟨?_, hr⟩, ch⟩
    have e1 : (if (frs rs).length < (frs rs ++ (frm x).take j).length then (frs rs).length else s) = (frs rs).length := by
      split
      · rfl
      · omega
    have e2 : bl.length = rs.length := by rw [← hd, List.length_map]
    rw [e1, e2, List.take_left] at lg
    exact lg

/-- The first n rows' data. -/
def dat (sl : List B) (n : Nat) : List (List Nat) := (sl.take n).map B.data
theorem dat_zero (sl : List B) : dat sl 0 = [] := rfl
theorem take_snoc {sl : List B} {n : Nat} {x : B} (h : sl[n]? = some x) : sl.take (n + 1) = sl.take n ++ [x] := by rw [List.take_add_one, h]; rfl
theorem dat_snoc {sl : List B} {n : Nat} {x : B} (h : sl[n]? = some x) : dat sl (n + 1) = dat sl n ++ [x.data] := by rw [dat, take_snoc h, List.map_append]; rfl
theorem dat_fr (sl : List B) (n : Nat) : frs (dat sl n) = fr sl n := by rw [dat, fr, List.map_take]
/-- The rows and what is sure, beside the blocks of D. -/
structure Las (w : World) (ts : Option Addr) (cs : Nat) (sl : List B) (tq : Option Addr) (cq n : Nat) (D : Nat → Prop) (v : World) : Prop where
  off : Off (fun _ => False) w v
  kept : Kept w D v ts cs sl
  own : OwnG 23 1 bcs v tq cq (sl.take n)
  no : ∀ k, blk tq = some k → ¬ D k ∧ blk ts ≠ some k ∧ w.heap.size ≤ k
  new : ∀ c, D c → w.heap.size ≤ c
theorem Las.chg {w : World} {ts : Option Addr} {cs : Nat} {sl : List B} {tq : Option Addr} {cq n : Nat} {D E : Nat → Prop} {v v' : World} (h : Las w ts cs sl tq cq n D v) (k : Chg D E v v') : Las w ts cs sl tq cq n E v' :=
  ⟨(k.new h.off h.new).1, h.kept.chg k, h.own.off k.off (fun c _ e => (h.no c e).1), fun c e => ⟨k.not (h.own.lt c e) (h.no c e).1, (h.no c e).2⟩, (k.new h.off h.new).2⟩
theorem Las.free {w : World} {ts : Option Addr} {cs : Nat} {sl : List B} {tq : Option Addr} {cq n : Nat} {D : Nat → Prop} {v v' : World} (h : Las w ts cs sl tq cq n D v) (o : Off (fun _ => False) v v') : Las w ts cs sl tq cq n D v' := h.chg ((Chg.refl D v).free o)
theorem Las.recs {w : World} {ts : Option Addr} {cs : Nat} {sl : List B} {tq : Option Addr} {cq n : Nat} {D : Nat → Prop} {v : World} (h : Las w ts cs sl tq cq n D v) : ∀ r ∈ dat sl n, Rec r := fun r hr => by
  simp only [dat, List.mem_map] at hr
  obtain ⟨x, hx, rfl⟩ := hr
  have := List.mem_of_mem_take hx
  exact ⟨by have := h.kept.five x this; omega, (h.kept.inp x this).lt⟩

theorem Kept.cellAt {w : World} {D : Nat → Prop} {v : World} {g c n : Nat} {sl : List B} {x : B} (h : Kept w D v (some ⟨g, 0, none⟩) c sl) (hx : sl[n]? = some x) : v.cell? ⟨g, n, none⟩ = some (.slice x.ad x.data.length x.cap) := by
  obtain ⟨g', e, k⟩ := h.own.at_ bcs_len hx
  simp only [Option.some.injEq, Addr.mk.injEq, and_true] at e
  subst e
  have k0 := k 0 _ rfl
  simpa using k0
theorem Las.push {w : World} {ts : Option Addr} {cs : Nat} {sl : List B} {tq : Option Addr} {cq n : Nat} {D : Nat → Prop} {v v' : World} (h : Las w ts cs sl tq cq n D v) {t' : Option Addr} {c' : Nat} (own : OwnG 23 1 bcs v' t' c' (sl.take (n + 1))) (o : Off (fun c => blk tq = some c) v v') (hat : blk t' = blk tq ∨ blk t' = some v.heap.size) (hD : ∀ c, D c → c < v.heap.size) : Las w ts cs sl t' c' (n + 1) D v' := by
  have hs := h.off.size
  refine ⟨((h.off.mono (fun _ _ h => h.elim)).trans o (fun _ _ h => h)).mono (fun i hi e => by have := (h.no i e).2.2; omega), ⟨h.kept.own.off o (fun c _ e e2 => (h.no c e2).2.1 e), h.kept.no, h.kept.inp, h.kept.len, h.kept.five⟩, own, fun k hk => ?_, h.new⟩
  rcases hat with e | e
  · exact h.no k (e ▸ hk)
  · rw [e] at hk
    obtain rfl : v.heap.size = k := by simpa using hk
    refine ⟨fun hd => ?_, fun ht => ?_, hs⟩
    · have := hD _ hd
      omega
    · have := h.kept.own.lt _ ht
      omega

set_option maxRecDepth 100000 in
set_option maxHeartbeats 4000000 in
theorem lasts_walk (a : Option Addr) (cap : Nat) (bl : List B) (a2 : Option Addr) (cap2 : Nat) (bl2 : List B) (ap : Option Addr) (lp cp : Nat) (zs : List Int) (w : World) (hb : ArgL w a bl) (hb2 : ArgL w a2 bl2) (hp : IsRow .i64 w ap lp cp zs) :
    Calls Try.prog 6 #[.slice a bl.length cap, .slice a2 bl2.length cap2, .slice ap lp cp] w fun e w' => e = .returned (.bool true) ∧ Off (fun _ => False) w w' := by
  have hnot : ∀ (x : Bool) (w : World), (Op.unary .not (.bool x)).run Try.prog w = .ok (.bool (!x)) w := fun _ _ => rfl
  have HA : Hid _ := hb
  have HA2 : Hid _ := hb2
  have HP : Hid (IsRow .i64 w ap lp cp zs) := hp
  have lpb := hp.len
  have ltb := hb2.bound
  clear hb hb2 hp
  go_enter Try.func6, Try.ntmps6
  go_wp2_with fail
  refine (dnew_any 60000 w).mono ?_
  rintro e w1 ⟨b, rfl, hb, K, o1⟩
  have hro : roomOf 60000 = 60000 := rfl
  rw [hro] at K
  have K1 : Hid _ := K
  have N1 : Hid (∀ c, (fun c => c = b) c → w.heap.size ≤ c) := fun c hc => by rw [show c = b from hc]; exact hb
  have O1 : Hid _ := o1
  have P1 : Hid _ := small_kept cap HA.out o1 K.lt
  clear K hb o1 hro HA
  go_wp2_with fail
  refine Calls.mono P1.out ?_
  rintro e w2 ⟨ts, cs, sl, rfl, kp, -, o2⟩
  have s30 := kp.len
  have L2 : Hid (Las w ts cs sl none 0 0 (fun c => c = b) w2) := ⟨O1.out.trans o2 (fun _ _ h => h), kp, OwnG.nil _ _ _ _, fun k hk => by simp [blk] at hk, N1.out⟩
  have K2 : Hid _ := K1.out.free o2
  clear P1 kp o2 K1 O1 N1
  go_wp2_with fail
  go_loopw [9, 10, 11] (fun x y z wr => ∃ (r n : Nat) (tq : Option Addr) (cq : Nat), z = .int .i64 (r : Int) ∧ y = .int .i64 (n : Int) ∧ x = .slice tq n cq ∧ r ≤ 6 ∧ n ≤ sl.length ∧ ∃ D bs s, Dsk D b 60000 bs s wr ∧ Tor (dat sl n) bs s ∧ Las w ts cs sl tq cq n D wr) (fun _ _ z _ => (6 - intOf z).toNat)
  case atStart => exact ⟨0, 0, none, 0, rfl, rfl, rfl, by omega, by omega, _, [], 0, K2.out, Tor.whole [], L2.out⟩
  case round =>
    clear K2 L2
    obtain ⟨r, n, tq, cq, rfl, rfl, rfl, hr, hn, D, bs, s, kd, tor, las⟩ := hrel
    have P1 : Hid _ := open_std kd tor las.recs
    have HL : Hid _ := las
    have NW : Hid _ := las.new
    clear kd tor las
    have LTN : Hid ((sl.take n).length = n) := by
      show (sl.take n).length = n
      rw [List.length_take]
      omega
    by_cases hr6 : r < 6
    · have e1 : decide ((r : Int) < 6) = true := decide_eq_true (by omega)
      have e2 : decide (r < 6) = true := decide_eq_true hr6
      go_wp2_with fail
      refine Calls.mono P1.out ?_
      rintro e w3 ⟨lb, t3, c3, rl, rfl, hd, D3, tl, sd, ch⟩
      have HL3 : Hid _ := HL.out.chg ch
      have HS3 : Hid _ := sd
      have l3 : rl.length ≤ 30 := by
        have := congrArg List.length hd
        rw [List.length_map, dat, List.length_map, LTN.out] at this
        omega
      have SB : Hid _ := samebytes_any t3 tq c3 cq rl (sl.take n) w3 tl.own HL3.out.own (fun x hx => (tl.each x hx).1.src) (fun x hx => ((HL3.out.kept.inp x (List.mem_of_mem_take hx)).free HL3.out.off).src) hd (by omega)
      rw [LTN.out] at SB
      clear P1 hd tl sd ch HL NW
      go_wp2_with fail
      refine Calls.mono SB.out ?_
      rintro e w4 ⟨rfl, o4⟩
      have HL4 : Hid _ := HL3.out.free o4
      have HS4 : Hid _ := HS3.out.free o4
      clear SB o4 HL3 HS3 l3
      go_wp2_with fail
      go_loopw [9, 10, 15] (fun x y z wr2 => ∃ (k n : Nat) (tq : Option Addr) (cq : Nat), z = .int .i64 (k : Int) ∧ y = .int .i64 (n : Int) ∧ x = .slice tq n cq ∧ k ≤ 4 ∧ n ≤ sl.length ∧ ∃ D, Std D lb b 60000 (dat sl n) wr2 ∧ Las w ts cs sl tq cq n D wr2) (fun _ _ z _ => (4 - intOf z).toNat)
      case atStart => exact ⟨0, n, tq, cq, rfl, rfl, rfl, by omega, hn, D3, HS4.out, HL4.out⟩
      case round =>
        clear HS4 HL4 LTN
        clear hn
        obtain ⟨k, n, tq, cq, rfl, rfl, rfl, hk, hn, D2, std, las⟩ := hrel
        have HS2 : Hid _ := std
        have HL2 : Hid _ := las
        clear std las
        have LTN : Hid ((sl.take n).length = n) := by
          show (sl.take n).length = n
          rw [List.length_take]
          omega
        by_cases hgo : k < 4 ∧ n < sl.length
        · obtain ⟨h4, hlt⟩ := hgo
          have e3 : decide ((k : Int) < 4) = true := decide_eq_true (by omega)
          have e4 : decide ((n : Int) < (sl.length : Int)) = true := decide_eq_true (by omega)
          have e4n : decide (n < sl.length) = true := decide_eq_true hlt
          obtain ⟨x, g, hx, hm, hts, kc⟩ := (HL2.out.kept.rws HL2.out.off).at_ hlt
          subst hts
          have IX : Hid _ := (HL2.out.kept.inp x hm).free HL2.out.off
          have l4 := HL2.out.kept.five x hm
          have A1 : Hid _ := append_ok HS2.out IX.out (by omega) (by rw [dat_fr]; have := (HL2.out.kept.rws HL2.out.off).fr_len n; omega)
          rw [← dat_snoc hx] at A1
          have HX : Hid _ := hx
          clear hx hm HS2 IX
          go_wp2_with fail
          refine Calls.mono A1.out ?_
          rintro e w5 ⟨rfl, D5, sd5, ch5⟩
          have HL5 : Hid _ := HL2.out.chg ch5
          have HS5 : Hid _ := sd5
          have kc5 := HL5.out.kept.cellAt HX.out
          clear sd5 ch5 A1 HL2 kc
          obtain ⟨xa, xc, xd⟩ := x
          simp only at kc5 l4
          have OA : Off (fun _ => False) w5 (w5.alloc (.cells #[.slice xa xd.length xc] 23)) := (Off.refl _ w5).alloc _
          have own6 := HL5.out.own.off OA (fun _ _ _ h => h)
          have cn := Cel.new w5 23 #[.slice xa xd.length xc]
          have hcn : ∀ j u, (bcs ⟨xa, xc, xd⟩)[j]? = some u → (w5.alloc (.cells #[.slice xa xd.length xc] 23)).cell? ⟨w5.heap.size, j, none⟩ = some u := fun j u hj => by
            rw [cn.cell j]
            simpa [bcs] using hj
          have HOA : Hid _ := OA
          clear OA cn
          go_wp2_with (at_builtin; refine wpList_appG rfl (.tmp 64) (.tmp 69) Try.underlying22 Try.infoBs rfl (by decide) (by decide) bcs_len bcs_one rfl tq cq (sl.take n) (by rw [LTN.out]; rfl) own6 w5.heap.size 1 ⟨xa, xc, xd⟩ rfl hcn (by rw [LTN.out]; omega) ?_; intro t' c' w' qs hqs own' off' at')
          have HQS : Hid (qs = sl.take (n + 1)) := hqs.out.trans (take_snoc HX.out).symm
          have HQL : Hid (qs.length = n + 1) := by
            show qs.length = n + 1
            rw [HQS.out, List.length_take]
            omega
          have HOW : Hid _ := own'
          have HOF : Hid _ := off'
          clear own' off' own6 hcn hqs kc5
          go_wp2_with fail
          go_roundw
          case rel =>
            have L6 := HL5.out.free HOA.out
            have S6 := HS5.out.free HOA.out
            rw [HQS.out] at HOW
            refine ⟨k + 1, n + 1, t', c', by go_num, by go_num, by rw [HQL.out], by omega, by omega, D5, S6.off HOF.out (fun c hc e => (L6.no c e).1 hc), L6.push HOW.out HOF.out at' S6.lg.lt⟩
          case measure => simp [intOf]; omega
        · by_cases h4 : k < 4
          · have e3 : decide ((k : Int) < 4) = true := decide_eq_true (by omega)
            have e4 : decide ((n : Int) < (sl.length : Int)) = false := decide_eq_false (by omega)
            have e4n : decide (n < sl.length) = false := decide_eq_false (by omega)
            clear hgo
            by_cases hrt : r < bl2.length
            · have e5 : decide ((r : Int) < (bl2.length : Int)) = true := decide_eq_true (by omega)
              have e6 : decide (r < bl2.length) = true := decide_eq_true hrt
              obtain ⟨x, hx⟩ : ∃ x, bl2[r]? = some x := ⟨_, List.getElem?_eq_getElem hrt⟩
              have hm := List.mem_of_getElem? hx
              obtain ⟨bt, ot, hat, kc⟩ := HA2.out.at_ r x hx
              subst hat
              have kc1 := keep_cell HL2.out.off kc
              have htl := HA2.out.tl x hm
              have IX : Hid _ := (HA2.out.inp x hm).free HL2.out.off
              clear kc hx hm
              by_cases h300 : x.data.length < 300
              · have e7 : decide ((x.data.length : Int) < 300) = true := decide_eq_true (by omega)
                have RF : Hid _ := rframe_any IX.out (by omega)
                have RX : Hid (Rec x.data) := ⟨by omega, IX.out.lt⟩
                have hfl := frm_len x.data
                obtain ⟨k7, hk7⟩ : ∃ k7, k7 = x.data.length + 7 := ⟨_, rfl⟩
                generalize hfx : frm x.data = fx at RF hfl
                have HFX : Hid _ := hfx
                have ek : (fx.length : Int) - 1 = (k7 : Int) := by omega
                have HFL : Hid (k7 < fx.length ∧ k7 < x.data.length + 8) := by show k7 < fx.length ∧ k7 < x.data.length + 8; omega
                have fb : fx.length ≤ 400 := by omega
                have kb : k7 ≤ 400 := by omega
                clear hfx hfl hk7
                go_wp2_with fail
                refine Calls.mono RF.out ?_
                rintro e w5 ⟨t5, c5, rfl, own5, -, o5⟩
                obtain ⟨-, own6⟩ := own5.take (k := k7) (by have := HFL.out; omega)
                have hcc : k7 ≤ c5 := by have := own5.cap; have := HFL.out; omega
                have lct : (fx.take k7).length = k7 := by rw [List.length_take]; have := HFL.out; omega
                have fits : (frs (dat sl n)).length ≤ 12240 := by rw [dat_fr]; exact (HL2.out.kept.rws HL2.out.off).fr_len n
                obtain ⟨D9, K9, ch9⟩ := HS2.out.lg.disk
                have A3 : Hid _ := dappend_any (K9.free o5) t5 c5 (fx.take k7) own6.src (by omega)
                rw [show appE 60000 (frs (dat sl n)) (fx.take k7) = 0 by rw [appE, if_pos (by omega)], show appL 60000 (frs (dat sl n)) (fx.take k7) = frs (dat sl n) ++ fx.take k7 by rw [appL, if_pos (by omega)], lct] at A3
                have L5 : Hid _ := (HL2.out.chg ch9).free o5
                clear RF own5 own6 o5 K9 ch9 kc1 lct fits HS2 HL2
                go_wp2_with fail
                refine Calls.mono A3.out ?_
                rintro e V3 ⟨rfl, D3, K4, o4, d4⟩
                have L3 : Hid _ := L5.out.chg ⟨o4, d4⟩
                have K3 : Hid _ := K4
                have T3 : Hid _ := Tor.more (dat sl n) RX.out (j := k7) HFL.out.2
                rw [HFX.out] at T3
                clear o4 d4 K4 L5 A3 hcc ek
                obtain ⟨bs3, hbs3⟩ : ∃ x, x = frs (dat sl n) ++ fx.take k7 := ⟨_, rfl⟩
                obtain ⟨s3, hs3⟩ : ∃ x, x = (frs (dat sl n)).length := ⟨_, rfl⟩
                rw [← hs3, ← hbs3] at K3 T3
                clear hbs3 hs3 RX HFX HFL IX
                by_cases hp : r < lp
                · have e7 : decide ((r : Int) < (lp : Int)) = true := decide_eq_true (by omega)
                  have e8 : decide (r < lp) = true := decide_eq_true hp
                  obtain ⟨bp, op, hap, -, kp⟩ := IsRow.cells (w := w) (zs := zs) HP.out r hp
                  subst hap
                  have kp1 := keep_cell L3.out.off kp
                  have CR : Hid (∀ p : Int, Calls Try.prog 26 #[.pointer (some ⟨b, 0, none⟩), .int .i64 p] V3 fun e w' => e = .returned (.tuple #[]) ∧ Dsk D3 b 60000 (bs3.take (keepN bs3.length s3 p)) (keepN bs3.length s3 p) w' ∧ Off D3 V3 w') := fun p => dcrash_any K3.out p
                  generalize zs.getD r 0 = pk at *
                  clear kp
                  go_wp2_with fail
                  refine Calls.mono (CR.out pk) ?_
                  rintro e V4 ⟨rfl, K4, o4⟩
                  have T4 : Hid _ := T3.out.cut (k := keepN bs3.length s3 pk) (keepN_ge _ _ _)
                  have L4 : Hid _ := L3.out.chg ⟨o4, fun c h => .inl h⟩
                  have HK4 : Hid _ := K4
                  clear K4 o4 CR kp1 K3 T3 L3
                  go_wp2_with fail
                  go_roundw
                  case rel => exact ⟨r + 1, n, tq, cq, by go_num, rfl, rfl, by omega, hn, D3, _, _, HK4.out, T4.out, L4.out⟩
                  case measure => simp [intOf]; omega
                · have e7 : decide ((r : Int) < (lp : Int)) = false := decide_eq_false (by omega)
                  have e8 : decide (r < lp) = false := decide_eq_false hp
                  go_wp2_with fail
                  go_roundw
                  case rel => exact ⟨r + 1, n, tq, cq, by go_num, rfl, rfl, by omega, hn, D3, _, _, K3.out, T3.out, L3.out⟩
                  case measure => simp [intOf]; omega
              · have e7 : decide ((x.data.length : Int) < 300) = false := decide_eq_false (by omega)
                clear IX
                obtain ⟨D3, K3, ch3⟩ := HS2.out.lg.disk
                have K3 : Hid _ := K3
                have L3 : Hid _ := HL2.out.chg ch3
                have T3 : Hid _ := Tor.whole (dat sl n)
                obtain ⟨bs3, hbs3⟩ : ∃ x, x = frs (dat sl n) := ⟨_, rfl⟩
                obtain ⟨s3, hs3⟩ : ∃ x, x = (frs (dat sl n)).length := ⟨_, rfl⟩
                rw [← hs3, ← hbs3] at K3 T3
                obtain ⟨V3, hV3⟩ : ∃ x, x = wr := ⟨_, rfl⟩
                rw [← hV3] at K3 L3
                rw [← hV3]
                rw [← hV3] at kc1
                clear ch3 hbs3 hs3 hV3 HS2 HL2
                by_cases hp : r < lp
                · have e7 : decide ((r : Int) < (lp : Int)) = true := decide_eq_true (by omega)
                  have e8 : decide (r < lp) = true := decide_eq_true hp
                  obtain ⟨bp, op, hap, -, kp⟩ := IsRow.cells (w := w) (zs := zs) HP.out r hp
                  subst hap
                  have kp1 := keep_cell L3.out.off kp
                  have CR : Hid (∀ p : Int, Calls Try.prog 26 #[.pointer (some ⟨b, 0, none⟩), .int .i64 p] V3 fun e w' => e = .returned (.tuple #[]) ∧ Dsk D3 b 60000 (bs3.take (keepN bs3.length s3 p)) (keepN bs3.length s3 p) w' ∧ Off D3 V3 w') := fun p => dcrash_any K3.out p
                  generalize zs.getD r 0 = pk at *
                  clear kp
                  go_wp2_with fail
                  refine Calls.mono (CR.out pk) ?_
                  rintro e V4 ⟨rfl, K4, o4⟩
                  have T4 : Hid _ := T3.out.cut (k := keepN bs3.length s3 pk) (keepN_ge _ _ _)
                  have L4 : Hid _ := L3.out.chg ⟨o4, fun c h => .inl h⟩
                  have HK4 : Hid _ := K4
                  clear K4 o4 CR kp1 K3 T3 L3
                  go_wp2_with fail
                  go_roundw
                  case rel => exact ⟨r + 1, n, tq, cq, by go_num, rfl, rfl, by omega, hn, D3, _, _, HK4.out, T4.out, L4.out⟩
                  case measure => simp [intOf]; omega
                · have e7 : decide ((r : Int) < (lp : Int)) = false := decide_eq_false (by omega)
                  have e8 : decide (r < lp) = false := decide_eq_false hp
                  go_wp2_with fail
                  go_roundw
                  case rel => exact ⟨r + 1, n, tq, cq, by go_num, rfl, rfl, by omega, hn, D3, _, _, K3.out, T3.out, L3.out⟩
                  case measure => simp [intOf]; omega
            · have e5 : decide ((r : Int) < (bl2.length : Int)) = false := decide_eq_false (by omega)
              have e6 : decide (r < bl2.length) = false := decide_eq_false hrt
              obtain ⟨D3, K3, ch3⟩ := HS2.out.lg.disk
              have K3 : Hid _ := K3
              have L3 : Hid _ := HL2.out.chg ch3
              have T3 : Hid _ := Tor.whole (dat sl n)
              obtain ⟨bs3, hbs3⟩ : ∃ x, x = frs (dat sl n) := ⟨_, rfl⟩
              obtain ⟨s3, hs3⟩ : ∃ x, x = (frs (dat sl n)).length := ⟨_, rfl⟩
              rw [← hs3, ← hbs3] at K3 T3
              obtain ⟨V3, hV3⟩ : ∃ x, x = wr := ⟨_, rfl⟩
              rw [← hV3] at K3 L3
              rw [← hV3]
              clear ch3 hbs3 hs3 hV3 HS2 HL2
              by_cases hp : r < lp
              · have e7 : decide ((r : Int) < (lp : Int)) = true := decide_eq_true (by omega)
                have e8 : decide (r < lp) = true := decide_eq_true hp
                obtain ⟨bp, op, hap, -, kp⟩ := IsRow.cells (w := w) (zs := zs) HP.out r hp
                subst hap
                have kp1 := keep_cell L3.out.off kp
                have CR : Hid (∀ p : Int, Calls Try.prog 26 #[.pointer (some ⟨b, 0, none⟩), .int .i64 p] V3 fun e w' => e = .returned (.tuple #[]) ∧ Dsk D3 b 60000 (bs3.take (keepN bs3.length s3 p)) (keepN bs3.length s3 p) w' ∧ Off D3 V3 w') := fun p => dcrash_any K3.out p
                generalize zs.getD r 0 = pk at *
                clear kp
                go_wp2_with fail
                refine Calls.mono (CR.out pk) ?_
                rintro e V4 ⟨rfl, K4, o4⟩
                have T4 : Hid _ := T3.out.cut (k := keepN bs3.length s3 pk) (keepN_ge _ _ _)
                have L4 : Hid _ := L3.out.chg ⟨o4, fun c h => .inl h⟩
                have HK4 : Hid _ := K4
                clear K4 o4 CR kp1 K3 T3 L3
                go_wp2_with fail
                go_roundw
                case rel => exact ⟨r + 1, n, tq, cq, by go_num, rfl, rfl, by omega, hn, D3, _, _, HK4.out, T4.out, L4.out⟩
                case measure => simp [intOf]; omega
              · have e7 : decide ((r : Int) < (lp : Int)) = false := decide_eq_false (by omega)
                have e8 : decide (r < lp) = false := decide_eq_false hp
                go_wp2_with fail
                go_roundw
                case rel => exact ⟨r + 1, n, tq, cq, by go_num, rfl, rfl, by omega, hn, D3, _, _, K3.out, T3.out, L3.out⟩
                case measure => simp [intOf]; omega
          · have e3 : decide ((k : Int) < 4) = false := decide_eq_false (by omega)
            clear hgo
            by_cases hrt : r < bl2.length
            · have e5 : decide ((r : Int) < (bl2.length : Int)) = true := decide_eq_true (by omega)
              have e6 : decide (r < bl2.length) = true := decide_eq_true hrt
              obtain ⟨x, hx⟩ : ∃ x, bl2[r]? = some x := ⟨_, List.getElem?_eq_getElem hrt⟩
              have hm := List.mem_of_getElem? hx
              obtain ⟨bt, ot, hat, kc⟩ := HA2.out.at_ r x hx
              subst hat
              have kc1 := keep_cell HL2.out.off kc
              have htl := HA2.out.tl x hm
              have IX : Hid _ := (HA2.out.inp x hm).free HL2.out.off
              clear kc hx hm
              by_cases h300 : x.data.length < 300
              · have e7 : decide ((x.data.length : Int) < 300) = true := decide_eq_true (by omega)
                have RF : Hid _ := rframe_any IX.out (by omega)
                have RX : Hid (Rec x.data) := ⟨by omega, IX.out.lt⟩
                have hfl := frm_len x.data
                obtain ⟨k7, hk7⟩ : ∃ k7, k7 = x.data.length + 7 := ⟨_, rfl⟩
                generalize hfx : frm x.data = fx at RF hfl
                have HFX : Hid _ := hfx
                have ek : (fx.length : Int) - 1 = (k7 : Int) := by omega
                have HFL : Hid (k7 < fx.length ∧ k7 < x.data.length + 8) := by show k7 < fx.length ∧ k7 < x.data.length + 8; omega
                have fb : fx.length ≤ 400 := by omega
                have kb : k7 ≤ 400 := by omega
                clear hfx hfl hk7
                go_wp2_with fail
                refine Calls.mono RF.out ?_
                rintro e w5 ⟨t5, c5, rfl, own5, -, o5⟩
                obtain ⟨-, own6⟩ := own5.take (k := k7) (by have := HFL.out; omega)
                have hcc : k7 ≤ c5 := by have := own5.cap; have := HFL.out; omega
                have lct : (fx.take k7).length = k7 := by rw [List.length_take]; have := HFL.out; omega
                have fits : (frs (dat sl n)).length ≤ 12240 := by rw [dat_fr]; exact (HL2.out.kept.rws HL2.out.off).fr_len n
                obtain ⟨D9, K9, ch9⟩ := HS2.out.lg.disk
                have A3 : Hid _ := dappend_any (K9.free o5) t5 c5 (fx.take k7) own6.src (by omega)
                rw [show appE 60000 (frs (dat sl n)) (fx.take k7) = 0 by rw [appE, if_pos (by omega)], show appL 60000 (frs (dat sl n)) (fx.take k7) = frs (dat sl n) ++ fx.take k7 by rw [appL, if_pos (by omega)], lct] at A3
                have L5 : Hid _ := (HL2.out.chg ch9).free o5
                clear RF own5 own6 o5 K9 ch9 kc1 lct fits HS2 HL2
                go_wp2_with fail
                refine Calls.mono A3.out ?_
                rintro e V3 ⟨rfl, D3, K4, o4, d4⟩
                have L3 : Hid _ := L5.out.chg ⟨o4, d4⟩
                have K3 : Hid _ := K4
                have T3 : Hid _ := Tor.more (dat sl n) RX.out (j := k7) HFL.out.2
                rw [HFX.out] at T3
                clear o4 d4 K4 L5 A3 hcc ek
                obtain ⟨bs3, hbs3⟩ : ∃ x, x = frs (dat sl n) ++ fx.take k7 := ⟨_, rfl⟩
                obtain ⟨s3, hs3⟩ : ∃ x, x = (frs (dat sl n)).length := ⟨_, rfl⟩
                rw [← hs3, ← hbs3] at K3 T3
                clear hbs3 hs3 RX HFX HFL IX
                by_cases hp : r < lp
                · have e7 : decide ((r : Int) < (lp : Int)) = true := decide_eq_true (by omega)
                  have e8 : decide (r < lp) = true := decide_eq_true hp
                  obtain ⟨bp, op, hap, -, kp⟩ := IsRow.cells (w := w) (zs := zs) HP.out r hp
                  subst hap
                  have kp1 := keep_cell L3.out.off kp
                  have CR : Hid (∀ p : Int, Calls Try.prog 26 #[.pointer (some ⟨b, 0, none⟩), .int .i64 p] V3 fun e w' => e = .returned (.tuple #[]) ∧ Dsk D3 b 60000 (bs3.take (keepN bs3.length s3 p)) (keepN bs3.length s3 p) w' ∧ Off D3 V3 w') := fun p => dcrash_any K3.out p
                  generalize zs.getD r 0 = pk at *
                  clear kp
                  go_wp2_with fail
                  refine Calls.mono (CR.out pk) ?_
                  rintro e V4 ⟨rfl, K4, o4⟩
                  have T4 : Hid _ := T3.out.cut (k := keepN bs3.length s3 pk) (keepN_ge _ _ _)
                  have L4 : Hid _ := L3.out.chg ⟨o4, fun c h => .inl h⟩
                  have HK4 : Hid _ := K4
                  clear K4 o4 CR kp1 K3 T3 L3
                  go_wp2_with fail
                  go_roundw
                  case rel => exact ⟨r + 1, n, tq, cq, by go_num, rfl, rfl, by omega, hn, D3, _, _, HK4.out, T4.out, L4.out⟩
                  case measure => simp [intOf]; omega
                · have e7 : decide ((r : Int) < (lp : Int)) = false := decide_eq_false (by omega)
                  have e8 : decide (r < lp) = false := decide_eq_false hp
                  go_wp2_with fail
                  go_roundw
                  case rel => exact ⟨r + 1, n, tq, cq, by go_num, rfl, rfl, by omega, hn, D3, _, _, K3.out, T3.out, L3.out⟩
                  case measure => simp [intOf]; omega
              · have e7 : decide ((x.data.length : Int) < 300) = false := decide_eq_false (by omega)
                clear IX
                obtain ⟨D3, K3, ch3⟩ := HS2.out.lg.disk
                have K3 : Hid _ := K3
                have L3 : Hid _ := HL2.out.chg ch3
                have T3 : Hid _ := Tor.whole (dat sl n)
                obtain ⟨bs3, hbs3⟩ : ∃ x, x = frs (dat sl n) := ⟨_, rfl⟩
                obtain ⟨s3, hs3⟩ : ∃ x, x = (frs (dat sl n)).length := ⟨_, rfl⟩
                rw [← hs3, ← hbs3] at K3 T3
                obtain ⟨V3, hV3⟩ : ∃ x, x = wr := ⟨_, rfl⟩
                rw [← hV3] at K3 L3
                rw [← hV3]
                rw [← hV3] at kc1
                clear ch3 hbs3 hs3 hV3 HS2 HL2
                by_cases hp : r < lp
                · have e7 : decide ((r : Int) < (lp : Int)) = true := decide_eq_true (by omega)
                  have e8 : decide (r < lp) = true := decide_eq_true hp
                  obtain ⟨bp, op, hap, -, kp⟩ := IsRow.cells (w := w) (zs := zs) HP.out r hp
                  subst hap
                  have kp1 := keep_cell L3.out.off kp
                  have CR : Hid (∀ p : Int, Calls Try.prog 26 #[.pointer (some ⟨b, 0, none⟩), .int .i64 p] V3 fun e w' => e = .returned (.tuple #[]) ∧ Dsk D3 b 60000 (bs3.take (keepN bs3.length s3 p)) (keepN bs3.length s3 p) w' ∧ Off D3 V3 w') := fun p => dcrash_any K3.out p
                  generalize zs.getD r 0 = pk at *
                  clear kp
                  go_wp2_with fail
                  refine Calls.mono (CR.out pk) ?_
                  rintro e V4 ⟨rfl, K4, o4⟩
                  have T4 : Hid _ := T3.out.cut (k := keepN bs3.length s3 pk) (keepN_ge _ _ _)
                  have L4 : Hid _ := L3.out.chg ⟨o4, fun c h => .inl h⟩
                  have HK4 : Hid _ := K4
                  clear K4 o4 CR kp1 K3 T3 L3
                  go_wp2_with fail
                  go_roundw
                  case rel => exact ⟨r + 1, n, tq, cq, by go_num, rfl, rfl, by omega, hn, D3, _, _, HK4.out, T4.out, L4.out⟩
                  case measure => simp [intOf]; omega
                · have e7 : decide ((r : Int) < (lp : Int)) = false := decide_eq_false (by omega)
                  have e8 : decide (r < lp) = false := decide_eq_false hp
                  go_wp2_with fail
                  go_roundw
                  case rel => exact ⟨r + 1, n, tq, cq, by go_num, rfl, rfl, by omega, hn, D3, _, _, K3.out, T3.out, L3.out⟩
                  case measure => simp [intOf]; omega
            · have e5 : decide ((r : Int) < (bl2.length : Int)) = false := decide_eq_false (by omega)
              have e6 : decide (r < bl2.length) = false := decide_eq_false hrt
              obtain ⟨D3, K3, ch3⟩ := HS2.out.lg.disk
              have K3 : Hid _ := K3
              have L3 : Hid _ := HL2.out.chg ch3
              have T3 : Hid _ := Tor.whole (dat sl n)
              obtain ⟨bs3, hbs3⟩ : ∃ x, x = frs (dat sl n) := ⟨_, rfl⟩
              obtain ⟨s3, hs3⟩ : ∃ x, x = (frs (dat sl n)).length := ⟨_, rfl⟩
              rw [← hs3, ← hbs3] at K3 T3
              obtain ⟨V3, hV3⟩ : ∃ x, x = wr := ⟨_, rfl⟩
              rw [← hV3] at K3 L3
              rw [← hV3]
              clear ch3 hbs3 hs3 hV3 HS2 HL2
              by_cases hp : r < lp
              · have e7 : decide ((r : Int) < (lp : Int)) = true := decide_eq_true (by omega)
                have e8 : decide (r < lp) = true := decide_eq_true hp
                obtain ⟨bp, op, hap, -, kp⟩ := IsRow.cells (w := w) (zs := zs) HP.out r hp
                subst hap
                have kp1 := keep_cell L3.out.off kp
                have CR : Hid (∀ p : Int, Calls Try.prog 26 #[.pointer (some ⟨b, 0, none⟩), .int .i64 p] V3 fun e w' => e = .returned (.tuple #[]) ∧ Dsk D3 b 60000 (bs3.take (keepN bs3.length s3 p)) (keepN bs3.length s3 p) w' ∧ Off D3 V3 w') := fun p => dcrash_any K3.out p
                generalize zs.getD r 0 = pk at *
                clear kp
                go_wp2_with fail
                refine Calls.mono (CR.out pk) ?_
                rintro e V4 ⟨rfl, K4, o4⟩
                have T4 : Hid _ := T3.out.cut (k := keepN bs3.length s3 pk) (keepN_ge _ _ _)
                have L4 : Hid _ := L3.out.chg ⟨o4, fun c h => .inl h⟩
                have HK4 : Hid _ := K4
                clear K4 o4 CR kp1 K3 T3 L3
                go_wp2_with fail
                go_roundw
                case rel => exact ⟨r + 1, n, tq, cq, by go_num, rfl, rfl, by omega, hn, D3, _, _, HK4.out, T4.out, L4.out⟩
                case measure => simp [intOf]; omega
              · have e7 : decide ((r : Int) < (lp : Int)) = false := decide_eq_false (by omega)
                have e8 : decide (r < lp) = false := decide_eq_false hp
                go_wp2_with fail
                go_roundw
                case rel => exact ⟨r + 1, n, tq, cq, by go_num, rfl, rfl, by omega, hn, D3, _, _, K3.out, T3.out, L3.out⟩
                case measure => simp [intOf]; omega
    · have e1 : decide ((r : Int) < 6) = false := decide_eq_false (by omega)
      have e2 : decide (r < 6) = false := decide_eq_false hr6
      go_wp2_with fail
      refine Calls.mono P1.out ?_
      rintro e w3 ⟨lb, t3, c3, rl, rfl, hd, D3, tl, sd, ch⟩
      have HL3 : Hid _ := HL.out.chg ch
      have l3 : rl.length ≤ 30 := by
        have := congrArg List.length hd
        rw [List.length_map, dat, List.length_map, LTN.out] at this
        omega
      have SB : Hid _ := samebytes_any t3 tq c3 cq rl (sl.take n) w3 tl.own HL3.out.own (fun x hx => (tl.each x hx).1.src) (fun x hx => ((HL3.out.kept.inp x (List.mem_of_mem_take hx)).free HL3.out.off).src) hd (by omega)
      rw [LTN.out] at SB
      clear P1 hd tl sd ch HL NW
      go_wp2_with fail
      refine Calls.mono SB.out ?_
      rintro e w4 ⟨rfl, o4⟩
      have O4 : Hid _ := HL3.out.off.trans o4 (fun _ _ h => h)
      clear SB o4 HL3 l3
      go_wp2_with fail
      refine (awake_any _).mono ?_
      rintro e va ⟨rfl, oa⟩
      go_wp2_with fail
      go_ret
      exact ⟨rfl, O4.out.trans oa (fun _ _ h => h)⟩
end Go.Proofs.Ytmdhcoplhibbeaa
