/- A new log; awake and size of layer 8. -/
import Derived.Test.YtmdhcoplhibbeaaWal3
namespace Go.Proofs.Ytmdhcoplhibbeaa
open Go.RowKit

theorem wopen_new {D : Nat → Prop} {b most : Nat} {v : World} (h : Dsk D b most [] 0 v) :
    Calls Try.prog 16 #[.pointer (some ⟨b, 0, none⟩)] v fun e v' => ∃ (lb : Nat) (t : Option Addr) (c : Nat), e = .returned (.tuple #[.pointer (some ⟨lb, 0, none⟩), .slice t 0 c, .int .i64 0]) ∧ ∃ D', Lg D' lb b most [] 0 0 0 v' ∧ Chg D D' v v' := by
  refine (wopen_ok h (by simp) (al_frs (rs := []) (by simp))).mono ?_
  rintro e v' ⟨lb, t, c, bl, rfl, hd, D', -, lg, ch⟩
  obtain rfl : bl = [] := by simpa using hd
  exact ⟨lb, t, c, rfl, D', lg, ch⟩

/-- A log that has just these records, all of them sure. -/
structure Std (D : Nat → Prop) (lb b most : Nat) (rs : List (List Nat)) (v : World) : Prop where
  lg : Lg D lb b most (frs rs) (frs rs).length rs.length (frs rs).length v
  rec_ : ∀ r ∈ rs, Rec r
theorem Std.new {D : Nat → Prop} {lb b most : Nat} {v : World} (h : Lg D lb b most [] 0 0 0 v) : Std D lb b most [] v := ⟨h, by simp⟩
theorem Std.free {D : Nat → Prop} {lb b most : Nat} {rs : List (List Nat)} {v v' : World} (h : Std D lb b most rs v) (o : Off (fun _ => False) v v') : Std D lb b most rs v' := ⟨h.lg.free o, h.rec_⟩
theorem frs_many (rs : List (List Nat)) : rs.length * 8 ≤ (frs rs).length := by
  induction rs with
  | nil => simp [frs]
  | cons r rs ih =>
    rw [frs_cons, List.length_append, frm_len, List.length_cons, Nat.succ_mul]
    omega
theorem Std.few {D : Nat → Prop} {lb b most : Nat} {rs : List (List Nat)} {v : World} (h : Std D lb b most rs v) : (frs rs).length ≤ most ∧ most ≤ 1048576 ∧ rs.length * 8 ≤ (frs rs).length := ⟨h.lg.fit.1, h.lg.fit.2, frs_many rs⟩
theorem append_ok {D : Nat → Prop} {lb b most : Nat} {rs : List (List Nat)} {v : World} (h : Std D lb b most rs v) {t : Option Addr} {c : Nat} {r : List Nat} (hi : Inp v t c r) (hl : r.length ≤ 60000) (hfit : (frs rs).length + r.length + 8 ≤ most) :
    Calls Try.prog 23 #[.pointer (some ⟨lb, 0, none⟩), .slice t r.length c] v fun e v' => e = .returned (.int .i64 0) ∧ ∃ D', Std D' lb b most (rs ++ [r]) v' ∧ Chg D D' v v' := by
  have hf := h.few
  refine (wappend_ok h.lg hi hl (by omega) (by omega) hfit).mono ?_
  rintro e v' ⟨rfl, D', lg, ch⟩
  refine ⟨rfl, D', ⟨?_, fun x hx => ?_⟩, ch⟩
  · have e1 : frs (rs ++ [r]) = frs rs ++ frm r := frs_snoc rs r
    have e2 : (frs rs ++ frm r).length = (frs rs).length + r.length + 8 := by rw [List.length_append, frm_len]; omega
    have e3 : (rs ++ [r]).length = rs.length + 1 := by simp
    rw [e1, e2, e3]
    exact lg
  · rcases List.mem_append.1 hx with hx | hx
    · exact h.rec_ x hx
    · rw [List.mem_singleton.1 hx]
      exact ⟨hl, hi.lt⟩
theorem append_no {D : Nat → Prop} {lb b most : Nat} {rs : List (List Nat)} {v : World} (h : Std D lb b most rs v) {t : Option Addr} {c : Nat} {r : List Nat} (hi : Inp v t c r) (hl : r.length ≤ 60000) (hfit : most < (frs rs).length + r.length + 8) :
    Calls Try.prog 23 #[.pointer (some ⟨lb, 0, none⟩), .slice t r.length c] v fun e v' => e = .returned (.int .i64 5) ∧ ∃ D', Std D' lb b most rs v' ∧ Chg D D' v v' := by
  refine (wappend_no h.lg hi hl hfit).mono ?_
  rintro e v' ⟨rfl, D', lg, ch⟩
  exact ⟨rfl, D', ⟨lg, h.rec_⟩, ch⟩
/-- What stands then, and whether it was taken. -/
def addL (most : Nat) (rs : List (List Nat)) (r : List Nat) : List (List Nat) := if (frs rs).length + r.length + 8 ≤ most then rs ++ [r] else rs
theorem append_or {D : Nat → Prop} {lb b most : Nat} {rs : List (List Nat)} {v : World} (h : Std D lb b most rs v) {t : Option Addr} {c : Nat} {r : List Nat} (hi : Inp v t c r) (hl : r.length ≤ 60000) :
    Calls Try.prog 23 #[.pointer (some ⟨lb, 0, none⟩), .slice t r.length c] v fun e v' => ∃ er : Int, e = .returned (.int .i64 er) ∧ ∃ D', Std D' lb b most (addL most rs r) v' ∧ Chg D D' v v' := by
  by_cases hfit : (frs rs).length + r.length + 8 ≤ most
  · refine (append_ok h hi hl hfit).mono ?_
    rintro e v' ⟨rfl, D', hh⟩
    exact ⟨_, rfl, D', by rw [addL, if_pos hfit]; exact hh⟩
  · refine (append_no h hi hl (by omega)).mono ?_
    rintro e v' ⟨rfl, D', hh⟩
    exact ⟨_, rfl, D', by rw [addL, if_neg hfit]; exact hh⟩

theorem x_inp (w : World) : Inp (w.alloc (.cells #[.int .u8 120] 5 (1, 2))) (some ⟨w.heap.size, 0, none⟩) 1 [120] := by
  refine ⟨⟨.inr ⟨_, rfl, fun j u hj => ?_⟩⟩, Nat.le_refl _, by simp⟩
  have h := heap_alloc_new w (.cells #[.int .u8 120] 5 (1, 2))
  match j, hj with
  | 0, hj =>
    simp [vl] at hj
    subst hj
    rw [add_lit]
    simp only [World.cell?, h]
    rfl
theorem src3 (w : World) : Src (w.alloc (.cells #[.int .u8 0, .int .u8 0, .int .u8 0] 5)) (some ⟨w.heap.size, 0, none⟩) 3 [0, 0, 0] := by
  refine ⟨.inr ⟨_, rfl, fun j u hj => ?_⟩⟩
  have hc := Cel.new w 5 #[.int .u8 0, .int .u8 0, .int .u8 0]
  rw [add_lit, Nat.zero_add, hc.cell]
  have hl := vl_lt hj
  match j, hl with
  | 0, _ | 1, _ | 2, _ => exact hj
theorem rec_x : Rec [120] := ⟨by simp, by simp⟩
theorem recs_x : ∀ r ∈ [[120]], Rec r := fun r hr => by rw [List.mem_singleton.1 hr]; exact rec_x
theorem x_len : (frm [120]).length = 9 := frm_len _
theorem x_str : strOf [120] = ⟨#[120]⟩ := by rfl
theorem one_of {bl : List B} {x : List Nat} (h : bl.map B.data = [x]) : ∃ ad cap, bl = [⟨ad, cap, x⟩] := by
  match bl, h with
  | [⟨ad, cap, d⟩], h =>
    simp at h
    exact ⟨ad, cap, by rw [h]⟩

set_option maxRecDepth 100000 in
set_option maxHeartbeats 1000000 in
theorem awake_any (w : World) : Calls Try.prog 11 #[] w fun e w' => e = .returned (.bool true) ∧ Off (fun _ => False) w w' := by
  have hcv := fun (w : World) (C : Array Value) (n c : Nat) => Lib.run_convert_bytes_const (P := Try.prog) w 23 5 C n c Try.underlying23 Try.underlying5
  go_enter Try.func11, Try.ntmps11
  go_wp2_with fail
  refine (dnew_any 1000 w).mono ?_
  rintro e w1 ⟨b, rfl, hb, K, o1⟩
  have hro : roomOf 1000 = 1000 := rfl
  rw [hro] at K
  have C1 : Hid _ := wopen_new K
  have N1 : Hid (∀ c, (fun c => c = b) c → w.heap.size ≤ c) := fun c hc => by rw [show c = b from hc]; exact hb
  have O1 : Hid _ := o1
  clear K hro hb o1
  go_wp2_with fail
  refine Calls.mono C1.out ?_
  rintro e w2 ⟨lb, t2, c2, rfl, D2, lg, ch⟩
  obtain ⟨o2, n2⟩ := ch.new O1.out N1.out
  have S2 : Hid _ := Std.new lg
  have O2 : Hid _ := o2
  have N2 : Hid _ := n2
  clear C1 lg ch o2 n2 O1 N1
  have OA : Off (fun _ => False) w2 (w2.alloc (.cells #[.int .u8 120] 5 (1, 2))) := (Off.refl _ w2).alloc _
  have A3 : Hid _ := append_ok (S2.out.free OA) (x_inp w2) (by simp) (by simp [frs])
  have O3 : Hid _ := O2.out.trans OA (fun _ _ h => h)
  clear OA S2 O2
  go_wp2_with fail
  refine Calls.mono A3.out ?_
  rintro e w4 ⟨rfl, D4, sd, ch⟩
  obtain ⟨o4, n4⟩ := ch.new O3.out N2.out
  obtain ⟨D5, K5, ch5⟩ := sd.lg.disk
  obtain ⟨o5, n5⟩ := ch5.new o4 n4
  have OA : Off (fun _ => False) w4 (w4.alloc (.cells #[.int .u8 0, .int .u8 0, .int .u8 0] 5)) := (Off.refl _ w4).alloc _
  have K6 := K5.free OA
  have hx : frs ([] ++ [[120]]) = frm [120] := by simp [frs]
  have A6 : Hid _ := dappend_any K6 (some ⟨w4.heap.size, 0, none⟩) 3 [0, 0, 0] (src3 w4) (by simp)
  have e1 : appE 1000 (frs ([] ++ [[120]])) [0, 0, 0] = 0 := by rw [appE, hx, x_len]; rfl
  have e2 : appL 1000 (frs ([] ++ [[120]])) [0, 0, 0] = frs [[120]] ++ [0, 0, 0] := by rw [appL, hx, x_len, if_pos (by decide)]; simp [frs]
  rw [e1, e2] at A6
  have O6 : Hid _ := o5.trans OA (fun _ _ h => h)
  have N6 : Hid _ := n5
  clear A3 O3 N2 sd ch o4 n4 K5 ch5 o5 n5 OA K6 hx e1 e2
  go_wp2_with fail
  refine Calls.mono A6.out ?_
  rintro e w7 ⟨rfl, D7, K7, o7, d7⟩
  obtain ⟨o8, n8⟩ := Chg.new ⟨o7, d7⟩ O6.out N6.out
  have P8 : Hid _ := wopen_ok K7 (fun x hx => by
    rcases List.mem_append.1 hx with hx | hx
    · exact frs_lt recs_x x hx
    · simp at hx; omega) (al_tail recs_x (x := [0, 0, 0]) rfl)
  have O8 : Hid _ := o8
  have N8 : Hid _ := n8
  clear A6 O6 N6 K7 o7 d7 o8 n8
  go_wp2_with fail
  refine Calls.mono P8.out ?_
  rintro e w9 ⟨lb9, t9, c9, bl, rfl, hd, D9, tl, lg, ch⟩
  obtain ⟨o9, -⟩ := ch.new O8.out N8.out
  obtain ⟨ad, cap, rfl⟩ := one_of hd
  obtain ⟨g, rfl, kk⟩ := tl.own.at_ bcs_len (i := 0) rfl
  have k0 := kk 0 _ rfl
  simp only [Nat.zero_mul, Nat.zero_add] at k0
  have hs := conv_src (tl.each _ (List.mem_singleton.2 rfl)).1.src
  simp only at hs k0
  rw [x_str] at hs
  replace hs : (convert 23 9 (.slice ad 1 cap)).run Try.prog w9 = .ok (.string ⟨#[120]⟩) w9 := hs
  replace k0 : w9.cell? ⟨g, 0, none⟩ = some (.slice ad 1 cap) := k0
  obtain ⟨D10, K10, -⟩ := lg.disk
  have Z10 : Hid _ := dsize_any K10
  have e3 : (List.take (frs [[120]]).length (frs [[120]] ++ [0, 0, 0])).length = 9 := by rw [List.take_left]; simp [frs, frm_len]
  rw [e3] at Z10
  have O9 : Hid _ := o9
  clear P8 N8 O8 hd tl lg ch kk K10 e3 o9
  go_wp2_with fail
  refine Calls.mono Z10.out ?_
  rintro e w11 ⟨rfl, hw⟩
  rw [hw]
  go_wp2_with fail
  go_ret
  exact ⟨rfl, O9.out⟩

/-- Rows of bytes that a law has. -/
structure Rg (w : World) (t : Option Addr) (c : Nat) (sl : List B) : Prop where
  own : OwnG 23 1 bcs w t c sl
  inp : ∀ x ∈ sl, Inp w x.ad x.cap x.data
  len : sl.length ≤ 1000
  max : ∀ x ∈ sl, x.data.length ≤ 60000
theorem Rws.rg {w : World} {t : Option Addr} {c : Nat} {sl : List B} (h : Rws w t c sl) : Rg w t c sl := ⟨h.own, h.inp, by have := h.len; omega, fun x hx => by have := h.five x hx; omega⟩
theorem Rg.at_ {w : World} {t : Option Addr} {c : Nat} {sl : List B} (h : Rg w t c sl) {i : Nat} (hi : i < sl.length) :
    ∃ x g, sl[i]? = some x ∧ x ∈ sl ∧ t = some ⟨g, 0, none⟩ ∧ w.cell? ⟨g, i, none⟩ = some (.slice x.ad x.data.length x.cap) := by
  obtain ⟨x, hx⟩ : ∃ x, sl[i]? = some x := ⟨_, List.getElem?_eq_getElem hi⟩
  obtain ⟨g, e, k⟩ := h.own.at_ bcs_len hx
  have k0 := k 0 _ rfl
  simp only [Nat.mul_one, Nat.add_zero] at k0
  exact ⟨x, g, hx, List.mem_of_getElem? hx, e, k0⟩
theorem fr_len_succ {sl : List B} {i : Nat} {x : B} (h : sl[i]? = some x) : (fr sl (i + 1)).length = (fr sl i).length + (x.data.length + 8) := by
  rw [fr_succ h, List.length_append, frm_len]
theorem Rg.fr_len {w : World} {t : Option Addr} {c : Nat} {sl : List B} (h : Rg w t c sl) (i : Nat) : (fr sl i).length ≤ 60008000 := by
  have h1 : (fr sl i).length ≤ ((sl.map B.data).take i).length * (60000 + 8) := frs_len (fun r hr => by
    have := List.mem_of_mem_take hr
    simp only [List.mem_map] at this
    obtain ⟨x, hx, rfl⟩ := this
    exact h.max x hx)
  have h2 : ((sl.map B.data).take i).length ≤ 1000 := by
    rw [List.length_take, List.length_map]
    have := h.len
    omega
  omega
set_option maxRecDepth 100000 in
set_option maxHeartbeats 1000000 in
theorem size_any {w : World} {t : Option Addr} {c : Nat} {sl : List B} (h : Rg w t c sl) :
    Calls Try.prog 22 #[.slice t sl.length c] w fun e w' => e = .returned (.int .i64 (((frs (sl.map B.data)).length : Nat) : Int)) ∧ w' = w := by
  have HR : Hid _ := h
  have s30 := h.len
  clear h
  go_enter Try.func22, Try.ntmps22
  go_wp2_with fail
  go_loopw [3, 8] (fun x y wr => ∃ (i : Nat), y = .int .i64 (i : Int) ∧ x = .int .i64 (((fr sl i).length : Nat) : Int) ∧ i ≤ sl.length ∧ wr = w) (fun _ y _ => (sl.length - intOf y).toNat)
  case atStart => exact ⟨0, rfl, rfl, by omega, rfl⟩
  case round =>
    obtain ⟨i, rfl, rfl, hi, hw⟩ := hrel
    rw [hw]
    by_cases hlt : i < sl.length
    · have e1 : decide ((i : Int) < (sl.length : Int)) = true := decide_eq_true (by omega)
      have e2 : decide (i < sl.length) = true := decide_eq_true hlt
      obtain ⟨x, g, hx, hm, rfl, kc⟩ := HR.out.at_ hlt
      have HST : Hid _ := fr_len_succ hx
      have l4 := HR.out.max x hm
      have lf := HR.out.fr_len i
      generalize (fr sl i).length = ys at *
      clear hx hm hw
      go_wp2_with fail
      go_roundw
      case rel =>
        refine ⟨i + 1, by go_num, ?_, by omega, by trivial⟩
        rw [HST.out]
        congr 1
      case measure => simp [intOf]; omega
    · have e1 : decide ((i : Int) < (sl.length : Int)) = false := decide_eq_false (by omega)
      have e2 : decide (i < sl.length) = false := decide_eq_false hlt
      have hil : fr sl i = frs (sl.map B.data) := by rw [show i = sl.length by omega, fr_all]
      rw [hil]
      clear hil hw
      go_wp2_with fail
      go_ret
      exact ⟨rfl, rfl⟩
end Go.Proofs.Ytmdhcoplhibbeaa
