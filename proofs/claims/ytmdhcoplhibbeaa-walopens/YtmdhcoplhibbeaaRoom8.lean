/- The walk of WalRoom. -/
import Derived.Test.YtmdhcoplhibbeaaAwk8
namespace Go.Proofs.Ytmdhcoplhibbeaa
open Go.RowKit

theorem u64_mod (p : Int) (n : Nat) (hn : 0 < n) : ∃ m : Nat, m < n ∧ (IntKind.u64.wrap p).tmod (n : Int) = (m : Int) := by
  refine ⟨(p % 18446744073709551616).toNat % n, Nat.mod_lt _ hn, ?_⟩
  have e : IntKind.u64.wrap p = (((p % 18446744073709551616).toNat : Nat) : Int) := by
    simp only [IntKind.wrap, IntKind.bits, IntKind.signed]
    go_num
  rw [e]
  rfl
/-- The row of a slice that was made: n bytes, each 0. -/
def madeB (n : Nat) : Array Value := madeCells (Value.int .u8 0).cells n
theorem madeB_at {n j : Nat} (h : j < n) : (madeB n)[j]? = some (.int .u8 0) := by
  simp [madeB, madeCells, h, Value.cells, Nat.mod_one]
theorem make_run (n : Nat) (hn : n ≤ 1000000) (W : World) : (Instr.makeSlice 23 (.int .i64 (n : Int)) (.int .i64 (n : Int))).run Try.prog W = .ok (.slice (some ⟨W.heap.size, 0, none⟩) n n) (W.alloc (.cells (madeB n) 5)) := by
  obtain ⟨i0, hi, hz0, hz1, hz2⟩ := info_parts Try.infoB
  have h := run_makeSlice (P := Try.prog) W 23 5 i0 (.int .u8 0) Try.underlying23 hi hz0 .i64 .i64 (n : Int) (n : Int) (by omega) (by omega) (by rw [hz1]; omega) (by rw [hz2]; omega) (by omega)
  rw [h]
  simp [madeB, hz1]
theorem src_made (w : World) (xs : List Nat) (hx : ∀ x ∈ xs, x = 0) : Src (w.alloc (.cells (madeB xs.length) 5)) (some ⟨w.heap.size, 0, none⟩) xs.length xs := by
  have h := heap_alloc_new w (.cells (madeB xs.length) 5)
  refine ⟨.inr ⟨_, rfl, fun j u hj => ?_⟩⟩
  have hj' := vl_lt hj
  rw [vl_get _ _ hj'] at hj
  rw [add_lit]
  simp only [World.cell?]
  rw [h]
  have e : xs.getD j 0 = 0 := by
    have : xs.getD j 0 = xs[j] := by simp [hj']
    rw [this]
    exact hx _ (List.getElem_mem hj')
  rw [e] at hj
  have := madeB_at hj'
  simp only [Nat.zero_add]
  rw [this]
  exact hj
theorem zeros (k : Nat) : ∃ xs : List Nat, xs.length = k ∧ ∀ x ∈ xs, x = 0 := ⟨List.replicate k 0, by simp, fun x hx => by simpa using (List.mem_replicate.1 hx).2⟩
theorem made_inp (w : World) (xs : List Nat) (hx : ∀ x ∈ xs, x = 0) : Inp (w.alloc (.cells (madeB xs.length) 5)) (some ⟨w.heap.size, 0, none⟩) xs.length xs :=
  ⟨src_made w xs hx, Nat.le_refl _, fun x h => by rw [hx x h]; decide⟩
theorem roomOf_small {m : Nat} (h : m ≤ 1048576) : roomOf (m : Int) = m := by unfold roomOf; omega

/-- Rows that a law made out of an argument: where they lie, what they read as since the law began. -/
structure Kept (w : World) (D : Nat → Prop) (v : World) (t : Option Addr) (c : Nat) (sl : List B) : Prop where
  own : OwnG 23 1 bcs v t c sl
  no : ∀ k, blk t = some k → ¬ D k
  inp : ∀ x ∈ sl, Inp w x.ad x.cap x.data
  len : sl.length ≤ 30
  five : ∀ x ∈ sl, x.data.length ≤ 400
theorem Kept.chg {w : World} {D E : Nat → Prop} {v v' : World} {t : Option Addr} {c : Nat} {sl : List B} (h : Kept w D v t c sl) (k : Chg D E v v') : Kept w E v' t c sl :=
  ⟨h.own.off k.off (fun c _ e => h.no c e), fun c e => k.not (h.own.lt c e) (h.no c e), h.inp, h.len, h.five⟩
theorem Kept.rws {w : World} {D : Nat → Prop} {v : World} {t : Option Addr} {c : Nat} {sl : List B} (h : Kept w D v t c sl) (o : Off (fun _ => False) w v) : Rws v t c sl := ⟨h.own, fun x hx => (h.inp x hx).free o, h.len, h.five⟩
theorem small_kept {w v : World} {D : Nat → Prop} {a : Option Addr} (cap : Nat) {bl : List B} (h : ArgL w a bl) (o : Off (fun _ => False) w v) (hD : ∀ c, D c → c < v.heap.size) :
    Calls Try.prog 9 #[.slice a bl.length cap] v fun e v' => ∃ (t : Option Addr) (c : Nat) (sl : List B), e = .returned (.slice t sl.length c) ∧ Kept w D v' t c sl ∧ sl.map B.data = smL (bl.map B.data) ∧ Off (fun _ => False) v v' := by
  refine (smallB_any cap (h.off o)).mono ?_
  rintro e v' ⟨t, c, sl, rfl, rw_, hin, fr, hd, o'⟩
  exact ⟨t, c, sl, rfl, ⟨rw_.own, fun k hk hk2 => by have := fr k hk; have := hD k hk2; omega, fun x hx => h.inp x (hin x hx), rw_.len, rw_.five⟩, hd, o'⟩

/-- The log of a law and its rows, at a round. -/
structure Rnd (w : World) (lb b most : Nat) (t : Option Addr) (c : Nat) (sl : List B) (rs : List (List Nat)) (v : World) : Prop where
  off : Off (fun _ => False) w v
  is : ∃ D, Std D lb b most rs v ∧ Kept w D v t c sl ∧ ∀ c, D c → w.heap.size ≤ c
theorem Rnd.free {w : World} {lb b most : Nat} {t : Option Addr} {c : Nat} {sl : List B} {rs : List (List Nat)} {v v' : World} (h : Rnd w lb b most t c sl rs v) (o : Off (fun _ => False) v v') : Rnd w lb b most t c sl rs v' := by
  obtain ⟨h1, D, sd, kp, nw⟩ := h
  exact ⟨h1.trans o (fun _ _ h => h), D, sd.free o, kp.chg ((Chg.refl D v).free o), nw⟩
theorem Rnd.append {w : World} {lb b most : Nat} {t : Option Addr} {c : Nat} {sl : List B} {rs : List (List Nat)} {v : World} (h : Rnd w lb b most t c sl rs v) {t1 : Option Addr} {c1 : Nat} {r : List Nat} (hi : Inp v t1 c1 r) (hl : r.length ≤ 60000) :
    Calls Try.prog 23 #[.pointer (some ⟨lb, 0, none⟩), .slice t1 r.length c1] v fun e v' => ∃ er : Int, e = .returned (.int .i64 er) ∧ Rnd w lb b most t c sl (addL most rs r) v' := by
  obtain ⟨h1, D, sd, kp, nw⟩ := h
  refine (append_or sd hi hl).mono ?_
  rintro e v' ⟨er, rfl, D', sd', ch⟩
  obtain ⟨o', n'⟩ := ch.new h1 nw
  exact ⟨er, rfl, o', D', sd', kp.chg ch, n'⟩

set_option maxRecDepth 100000 in
set_option maxHeartbeats 2000000 in
theorem room_walk (a : Option Addr) (cap : Nat) (bl : List B) (p : Int) (w : World) (hb : ArgL w a bl) (_ : -9223372036854775808 ≤ p ∧ p ≤ 9223372036854775807) :
    Calls Try.prog 8 #[.slice a bl.length cap, .int .i64 p] w fun e w' => e = .returned (.bool true) ∧ Off (fun _ => False) w w' := by
  have HA : Hid _ := hb
  obtain ⟨m, hm, em⟩ := u64_mod p 2000 (by omega)
  replace em : (IntKind.u64.wrap p).tmod 2000 = (m : Int) := em
  have ew : wrap64 (m : Int) = (m : Int) := by simp only [wrap64]; omega
  clear hb
  go_enter Try.func8, Try.ntmps8
  go_wp2_with fail
  clear em
  refine (dnew_any (m : Int) w).mono ?_
  rintro e w1 ⟨b, rfl, hb, K, o1⟩
  rw [roomOf_small (by omega)] at K
  have C1 : Hid _ := wopen_new K
  have N1 : Hid (∀ c, (fun c => c = b) c → w.heap.size ≤ c) := fun c hc => by rw [show c = b from hc]; exact hb
  have O1 : Hid _ := o1
  clear K hb o1 ew
  go_wp2_with fail
  refine Calls.mono C1.out ?_
  rintro e w2 ⟨lb, t2, c2, rfl, D2, lg, ch⟩
  obtain ⟨o2, n2⟩ := ch.new O1.out N1.out
  have S2 : Hid _ := Std.new lg
  have O2 : Hid _ := o2
  have N2 : Hid _ := n2
  have P2 : Hid _ := small_kept cap HA.out o2 lg.lt
  clear C1 lg ch o2 n2 O1 N1
  go_wp2_with fail
  refine Calls.mono P2.out ?_
  rintro e w3 ⟨ts, cs, sl, rfl, kp, -, o3⟩
  have s30 := kp.len
  have R3 : Hid (Rnd w lb b m ts cs sl [] w3) := ⟨O2.out.trans o3 (fun _ _ h => h), D2, S2.out.free o3, kp, N2.out⟩
  clear P2 kp o3 S2 O2 N2 HA
  go_wp2_with fail
  go_loopw [33] (fun y wr => ∃ (i : Nat) (rs : List (List Nat)), y = .int .i64 (i : Int) ∧ i ≤ sl.length ∧ Rnd w lb b m ts cs sl rs wr) (fun y _ => (sl.length - intOf y).toNat)
  case atStart => exact ⟨0, [], rfl, by omega, R3.out⟩
  case round =>
    clear R3
    obtain ⟨i, rs, rfl, hi, rnd⟩ := hrel
    have HR : Hid _ := rnd
    clear rnd
    by_cases hlt : i < sl.length
    · have e1 : decide ((i : Int) < (sl.length : Int)) = true := decide_eq_true (by omega)
      have e2 : decide (i < sl.length) = true := decide_eq_true hlt
      obtain ⟨x, g, hx, hmm, rfl, kc⟩ : ∃ x g, sl[i]? = some x ∧ x ∈ sl ∧ ts = some ⟨g, 0, none⟩ ∧ wr.cell? ⟨g, i, none⟩ = some (.slice x.ad x.data.length x.cap) := by
        obtain ⟨D, -, kp, -⟩ := HR.out.is
        exact (kp.rws HR.out.off).at_ hlt
      have A1 : Hid (Calls Try.prog 23 #[.pointer (some ⟨lb, 0, none⟩), .slice x.ad x.data.length x.cap] wr fun e v' => ∃ er : Int, e = .returned (.int .i64 er) ∧ Rnd w lb b m (some ⟨g, 0, none⟩) cs sl (addL m rs x.data) v') := by
        obtain ⟨D, -, kp, -⟩ := HR.out.is
        exact HR.out.append ((kp.rws HR.out.off).inp x hmm) (by have := kp.five x hmm; omega)
      clear hx hmm
      go_wp2_with fail
      refine Calls.mono A1.out ?_
      rintro e w4 ⟨er, rfl, rn⟩
      have HR4 : Hid _ := rn
      clear rn A1 kc HR
      go_wp2_with fail
      go_roundw
      case rel => exact ⟨i + 1, _, by go_num, by omega, HR4.out⟩
      case measure => simp [intOf]; omega
    · have e1 : decide ((i : Int) < (sl.length : Int)) = false := decide_eq_false (by omega)
      have e2 : decide (i < sl.length) = false := decide_eq_false hlt
      obtain ⟨D, sd, -, nw⟩ := HR.out.is
      have O4 : Hid _ := HR.out.off
      have HS : Hid _ := sd
      have NW : Hid _ := nw
      have few := sd.few
      have M1 : Hid _ := wroom_any sd.lg (by omega)
      have hsz : ∃ S : Nat, S = (frs rs).length := ⟨_, rfl⟩
      obtain ⟨S, hS⟩ := hsz
      have HSZ : Hid _ := hS
      rw [← hS] at M1 few
      clear sd nw HR hS
      by_cases hroom : m < S + 8
      · rw [roomL_no hroom] at M1
        have mk0 := make_run 0 (by omega)
        replace mk0 : ∀ W, (Instr.makeSlice 23 (.int .i64 0) (.int .i64 0)).run Try.prog W = .ok (.slice (some ⟨W.heap.size, 0, none⟩) 0 0) (W.alloc (.cells (madeB 0) 5)) := mk0
        go_wp2_with fail
        refine Calls.mono M1.out ?_
        rintro e w5 ⟨rfl, o5⟩
        have OA : Off (fun _ => False) w5 (w5.alloc (.cells (madeB 0) 5)) := (Off.refl _ w5).alloc _
        have A5 : Hid _ := append_no (HS.out.free (o5.trans OA (fun _ _ h => h))) (made_inp w5 [] (by simp)) (by simp) (by rw [← HSZ.out]; simpa using hroom)
        have O5 : Hid _ := O4.out.trans (o5.trans OA (fun _ _ h => h)) (fun _ _ h => h)
        clear M1 OA o5 O4 HS
        go_wp2_with fail
        refine Calls.mono A5.out ?_
        rintro e w6 ⟨rfl, D6, sd6, ch6⟩
        obtain ⟨o6, -⟩ := ch6.new O5.out NW.out
        have Z6 : Hid _ := wsize_any sd6.lg
        rw [← HSZ.out] at Z6
        have O6 : Hid _ := o6
        have dd : decide ((m : Int) - (S : Int) < 8) = true := decide_eq_true (by omega)
        clear A5 sd6 ch6 o6 mk0 O5 NW
        go_wp2_with fail
        refine Calls.mono Z6.out ?_
        rintro e w7 ⟨rfl, hw⟩
        rw [hw]
        clear hw w7 Z6
        go_wp2_with fail
        refine (awake_any _).mono ?_
        rintro e va ⟨rfl, oa⟩
        go_wp2_with fail
        go_ret
        exact ⟨rfl, O6.out.trans oa (fun _ _ h => h)⟩
      · rw [roomL_yes (by omega) (by omega)] at M1
        obtain ⟨n, hn⟩ : ∃ n, n = m - S - 8 := ⟨_, rfl⟩
        rw [← hn] at M1
        have hnm : n + S + 8 = m := by omega
        have HNM : Hid _ := hnm
        have hn2 : n ≤ 2000 := by omega
        clear hn hnm
        obtain ⟨xs, hxl, hx0⟩ := zeros (n + 1)
        obtain ⟨ys, hyl, hy0⟩ := zeros n
        have mk1 := make_run xs.length (by omega)
        have mk2 := make_run ys.length (by omega)
        have ex : (n : Int) + 1 = (xs.length : Int) := by omega
        have HYL : Hid _ := hyl
        have HXL : Hid _ := hxl
        have HX0 : Hid _ := hx0
        have HY0 : Hid _ := hy0
        have lx : xs.length ≤ 2001 := by omega
        have ly : ys.length ≤ 2001 := by omega
        have hn0 : (n : Int) = (ys.length : Int) := by omega
        rw [hn0] at M1 ex
        have dn : decide ((ys.length : Int) < 0) = false := decide_eq_false (by omega)
        clear hxl hyl hx0 hy0 hn0
        go_wp2_with fail
        refine Calls.mono M1.out ?_
        rintro e w5 ⟨rfl, o5⟩
        have OA : Off (fun _ => False) w5 (w5.alloc (.cells (madeB xs.length) 5)) := (Off.refl _ w5).alloc _
        have A5 : Hid _ := append_no (HS.out.free (o5.trans OA (fun _ _ h => h))) (made_inp w5 xs HX0.out) (by omega) (by rw [← HSZ.out]; have := HNM.out; have := HXL.out; omega)
        have O5 : Hid _ := O4.out.trans (o5.trans OA (fun _ _ h => h)) (fun _ _ h => h)
        clear M1 OA o5 O4 HS
        go_wp2_with fail
        refine Calls.mono A5.out ?_
        rintro e w6 ⟨rfl, D6, sd6, ch6⟩
        obtain ⟨o6, n6⟩ := ch6.new O5.out NW.out
        have OA : Off (fun _ => False) w6 (w6.alloc (.cells (madeB ys.length) 5)) := (Off.refl _ w6).alloc _
        have A6 : Hid _ := append_ok (sd6.free OA) (made_inp w6 ys HY0.out) (by omega) (by rw [← HSZ.out]; have := HNM.out; have := HYL.out; omega)
        have O6 : Hid _ := o6.trans OA (fun _ _ h => h)
        have N6 : Hid _ := n6
        clear A5 sd6 ch6 o6 n6 OA O5 NW mk1
        go_wp2_with fail
        refine Calls.mono A6.out ?_
        rintro e w7 ⟨rfl, D7, sd7, ch7⟩
        obtain ⟨o7, -⟩ := ch7.new O6.out N6.out
        have hall : (frs (rs ++ [ys])).length = m := by
          rw [frs_snoc, List.length_append, frm_len, ← HSZ.out]
          have := HNM.out
          have := HYL.out
          omega
        obtain ⟨D8, K8, -⟩ := sd7.lg.disk
        have Z8 : Hid _ := dsize_any K8
        have M8 : Hid _ := wroom_any sd7.lg (by rw [hall]; omega)
        rw [hall] at Z8 M8
        rw [roomL_no (by omega)] at M8
        have O7 : Hid _ := o7
        clear A6 sd7 ch7 o7 hall K8 mk2 O6 N6
        go_wp2_with fail
        refine Calls.mono Z8.out ?_
        rintro e w8 ⟨rfl, hw⟩
        rw [hw]
        clear hw w8 Z8
        go_wp2_with fail
        refine Calls.mono M8.out ?_
        rintro e w9 ⟨rfl, o9⟩
        go_wp2_with fail
        refine (awake_any _).mono ?_
        rintro e va ⟨rfl, oa⟩
        go_wp2_with fail
        go_ret
        exact ⟨rfl, (O7.out.trans o9 (fun _ _ h => h)).trans oa (fun _ _ h => h)⟩
end Go.Proofs.Ytmdhcoplhibbeaa
