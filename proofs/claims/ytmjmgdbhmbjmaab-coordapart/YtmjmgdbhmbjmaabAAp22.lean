/- Items of several texts. -/
import Derived.Test.YtmjmgdbhmbjmaabAGMay
import Derived.Test.YtmjmgdbhmbjmaabAAh22
namespace Go.Proofs.Ytmjmgdbhmbjmaab
set_option maxRecDepth 100000
open Go.RowKit
theorem Two.free {p q : Nat} {x y : CM} {N M : Nat} {w w' : World} (h : Two p q x y N M w) (o : Off (fun _ => False) w w') : Two p q x y N M w' := by
 obtain ⟨D, E, Z, hx, hy, hd, hN, hM, hm⟩ := h
 exact ⟨D, E, Z, hx.free o, hy.free o, hd, hN, hM, Nat.le_trans hm o.size⟩
def ownD (z : AnD) : Bool := decide (z.op = 1)
theorem own_map (L : List AnD) : (L.map AnD.abs).filter own1 = (L.filter ownD).map AnD.abs := by
 rw [List.filter_map]
 rfl
theorem svc11 {b o : Nat} {z : AnD} {w : World} (h : ∀ j u, (anC z)[j]? = some u → w.cell? ⟨b, o + j, none⟩ = some u) : w.cell? ⟨b, o, none⟩ = some (.int .i64 z.op) ∧ w.cell? ⟨b, o + 1, none⟩ = some (.int .i64 z.err) ∧ w.cell? ⟨b, o + 2, none⟩ = some (.int .i64 (z.s.f 0)) ∧ w.cell? ⟨b, o + 3, none⟩ = some (.int .i64 (z.s.f 1)) ∧ w.cell? ⟨b, o + 4, none⟩ = some (.int .i64 (z.s.f 2)) ∧ w.cell? ⟨b, o + 5, none⟩ = some (.int .i64 (z.s.f 3)) ∧ w.cell? ⟨b, o + 6, none⟩ = some (.int .i64 (z.s.f 4)) ∧ w.cell? ⟨b, o + 7, none⟩ = some (.int .i64 (z.s.f 5)) ∧ w.cell? ⟨b, o + 8, none⟩ = some (.int .i64 (z.s.f 6)) ∧ w.cell? ⟨b, o + 9, none⟩ = some (.int .i64 (z.s.f 7)) ∧ w.cell? ⟨b, o + 10, none⟩ = some (.slice z.s.a z.s.l.length z.s.cap) :=
 ⟨h 0 _ rfl, h 1 _ rfl, h 2 _ rfl, h 3 _ rfl, h 4 _ rfl, h 5 _ rfl, h 6 _ rfl, h 7 _ rfl, h 8 _ rfl, h 9 _ rfl, h 10 _ rfl⟩
def anL (z : AnD) : Array Value := #[.int .i64 z.op, .int .i64 z.err, .int .i64 (z.s.f 0), .int .i64 (z.s.f 1), .int .i64 (z.s.f 2), .int .i64 (z.s.f 3), .int .i64 (z.s.f 4), .int .i64 (z.s.f 5), .int .i64 (z.s.f 6), .int .i64 (z.s.f 7), .slice z.s.a z.s.l.length z.s.cap]
theorem cel11 {b : Nat} {t : TypeId} {z : AnD} {w : World} (h : Cel b t (anL z) w) : w.cell? ⟨b, 0, none⟩ = some (.int .i64 z.op) ∧ w.cell? ⟨b, 1, none⟩ = some (.int .i64 z.err) ∧ w.cell? ⟨b, 2, none⟩ = some (.int .i64 (z.s.f 0)) ∧ w.cell? ⟨b, 3, none⟩ = some (.int .i64 (z.s.f 1)) ∧ w.cell? ⟨b, 4, none⟩ = some (.int .i64 (z.s.f 2)) ∧ w.cell? ⟨b, 5, none⟩ = some (.int .i64 (z.s.f 3)) ∧ w.cell? ⟨b, 6, none⟩ = some (.int .i64 (z.s.f 4)) ∧ w.cell? ⟨b, 7, none⟩ = some (.int .i64 (z.s.f 5)) ∧ w.cell? ⟨b, 8, none⟩ = some (.int .i64 (z.s.f 6)) ∧ w.cell? ⟨b, 9, none⟩ = some (.int .i64 (z.s.f 7)) ∧ w.cell? ⟨b, 10, none⟩ = some (.slice z.s.a z.s.l.length z.s.cap) :=
 ⟨h.cell 0, h.cell 1, h.cell 2, h.cell 3, h.cell 4, h.cell 5, h.cell 6, h.cell 7, h.cell 8, h.cell 9, h.cell 10⟩
set_option maxHeartbeats 8000000 in
theorem apart_walk (a : Option Addr) (ca : Nat) (xs : List SV) (b : Option Addr) (cb : Nat) (ys : List SV) (q0 q1 : Int) (w : World) (ha : Sbs w a ca xs) (hb : Sbs w b cb ys) (_ : -9223372036854775808 ≤ q0 ∧ q0 ≤ 9223372036854775807) (_ : -9223372036854775808 ≤ q1 ∧ q1 ≤ 9223372036854775807) :
  Calls Try.prog 3 #[.slice a xs.length ca, .slice b ys.length cb, .int .i64 q0, .int .i64 q1] w fun e w' => e = .returned (.bool true) ∧ Off (fun _ => False) w w' := by
 obtain ⟨r, er, hr⟩ := rem_any q0 5 (by omega)
 obtain ⟨t, et, ht⟩ := rem_any q1 5 (by omega)
 obtain ⟨m, hm⟩ : ∃ m : Int, m = (r : Int) + 2 := ⟨_, rfl⟩
 obtain ⟨n, hn⟩ : ∃ n : Int, n = (t : Int) + 2 := ⟨_, rfl⟩
 have HM : Hid (2 ≤ m) := by show 2 ≤ m; omega
 have HN : Hid (2 ≤ n) := by show 2 ≤ n; omega
 have HRM : Hid ((r : Int) + 2 = m) := hm.symm
 have HRN : Hid ((t : Int) + 2 = n) := hn.symm
 have w1 : IntKind.i64.wrap (r : Int) = (r : Int) := by rw [IntKind.wrap_i64]; omega
 have w2 : IntKind.i64.wrap ((r : Int) + 2) = (r : Int) + 2 := by rw [IntKind.wrap_i64]; omega
 have w3 : IntKind.i64.wrap (t : Int) = (t : Int) := by rw [IntKind.wrap_i64]; omega
 have w4 : IntKind.i64.wrap ((t : Int) + 2) = (t : Int) + 2 := by rw [IntKind.wrap_i64]; omega
 have HA : Hid _ := ha
 have HB : Hid _ := hb
 have hla : xs.length ≤ 9223372036854775807 := Nat.le_trans ha.len ha.bound
 have hlb : ys.length ≤ 9223372036854775807 := Nat.le_trans hb.len hb.bound
 clear hm hn ha hb
 go_enter Try.func3, Try.ntmps3
 go_upto_region 2 with fail
 rw [HRM.out, HRN.out]
 clear er et w1 w2 w3 w4 hr ht
 by_cases h7 : xs.length ≤ 7 ∧ ys.length ≤ 7
 rotate_left
 ·by_cases h1 : xs.length ≤ 7
  ·have d1 : decide ((7 : Int) < (xs.length : Int)) = false := decide_eq_false (by omega)
   have d2 : decide ((7 : Int) < (ys.length : Int)) = true := decide_eq_true (by omega)
   have HAW : Hid _ := awake_any w
   go_wp2_with fail
   refine Calls.mono HAW.out ?_
   rintro e v7 ⟨rfl, o7⟩
   have HO7 : Hid _ := Off.trans (Off.refl (fun _ => False) w) o7 (fun _ _ h => h)
   clear o7
   go_wp2_with fail
   go_ret
   exact ⟨rfl, HO7.out⟩
  ·have d1 : decide ((7 : Int) < (xs.length : Int)) = true := decide_eq_true (by omega)
   have HAW : Hid _ := awake_any w
   go_wp2_with fail
   refine Calls.mono HAW.out ?_
   rintro e v7 ⟨rfl, o7⟩
   have HO7 : Hid _ := Off.trans (Off.refl (fun _ => False) w) o7 (fun _ _ h => h)
   clear o7
   go_wp2_with fail
   go_ret
   exact ⟨rfl, HO7.out⟩
 obtain ⟨hx7, hy7⟩ := h7
 have d1 : decide ((7 : Int) < (xs.length : Int)) = false := decide_eq_false (by omega)
 have d2 : decide ((7 : Int) < (ys.length : Int)) = false := decide_eq_false (by omega)
 go_wp2_with fail
 clear d1 d2
 go_loopw [52] (fun s52 wr => ∃ i : Nat, s52 = .int .i64 (i : Int) ∧ i ≤ 2 ∧ Hid (Off (fun _ => False) w wr) ∧ Hid (1 ≤ i → ∀ j, j < xs.length → mayA (apE xs j) = true) ∧ Hid (2 ≤ i → ∀ j, j < ys.length → mayA (apE ys j) = true)) (fun s52 _ => ((2 : Int) - vInt s52).toNat)
 case atStart => exact ⟨0, rfl, by omega, Off.refl _ w, fun h => absurd h (by omega), fun h => absurd h (by omega)⟩
 case round =>
  obtain ⟨i, rfl, hi, HO, H1, H2⟩ := hrel
  rename World => wo
  by_cases hlt : i < 2
  ·obtain ⟨A, C, E, hS, hidx, e0, e1⟩ : ∃ (A : Option Addr) (C : Nat) (E : List SV), Sbs w A C E ∧ (∀ W, (Instr.index 25 (.agg #[.slice a xs.length ca, .slice b ys.length cb]) (.int .i64 (i : Int))).run Try.prog W = .ok (.slice A E.length C) W) ∧ (i = 0 → E = xs) ∧ (i = 1 → E = ys) := by
    obtain rfl | rfl : i = 0 ∨ i = 1 := by omega
    ·exact ⟨a, ca, xs, HA.out, fun W => by kernel_rfl, fun _ => rfl, fun h => absurd h (by omega)⟩
    ·exact ⟨b, cb, ys, HB.out, fun W => by kernel_rfl, fun h => absurd h (by omega), fun _ => rfl⟩
   have HS : Hid _ := hS
   have HE0 : Hid (i = 0 → E = xs) := e0
   have HE1 : Hid (i = 1 → E = ys) := e1
   have hlE : E.length ≤ 9223372036854775807 := Nat.le_trans hS.len hS.bound
   have d0 : decide ((i : Int) < 2) = true := decide_eq_true (by omega)
   have wi : IntKind.i64.wrap ((i : Int) + 1) = (i : Int) + 1 := by rw [IntKind.wrap_i64]; omega
   clear hS e0 e1
   go_wp2_with fail
   clear hidx
   go_loopw [57] (fun s57 wr => ∃ j : Nat, s57 = .int .i64 (j : Int) ∧ j ≤ E.length ∧ Hid (Off (fun _ => False) w wr) ∧ Hid (∀ k, k < j → mayA (apE E k) = true)) (fun s57 _ => ((E.length : Int) - vInt s57).toNat)
   case atStart => exact ⟨0, rfl, by omega, HO, fun k hk => absurd hk (Nat.not_lt_zero k)⟩
   case round =>
    obtain ⟨j, rfl, hj, HOj, HJ⟩ := hrel
    rename World => wj
    by_cases hjl : j < E.length
    ·obtain ⟨ba, off, ha, hc, hok⟩ := HS.out.cells HOj.out hjl
     obtain ⟨s, hsv⟩ : ∃ s, s = E.getD j SV.zero := ⟨_, rfl⟩
     rw [← hsv] at hc hok
     subst ha
     have hix := sbs_at hjl C ba off
     obtain ⟨o, ho⟩ : ∃ o, o = off + j * 9 := ⟨_, rfl⟩
     rw [← ho] at hc hix
     obtain ⟨y0, y1, y2, y3, y4, y5, y6, y7, y8⟩ := svc9 hc
     have d1 : decide ((j : Int) < (E.length : Int)) = true := decide_eq_true (by omega)
     have HSV : Hid (s = E.getD j SV.zero) := hsv
     have HOK : Hid (SvOk wj s) := hok
     have wj1 : IntKind.i64.wrap ((j : Int) + 1) = (j : Int) + 1 := by rw [IntKind.wrap_i64]; omega
     clear hc hok hsv ho
     go_upto_region 10 with fail
     have O2 : Off (fun _ => False) wj (wj.alloc (.cells #[.int .i64 (s.f 0), .int .i64 (s.f 1), .int .i64 (s.f 2), .int .i64 (s.f 3), .int .i64 (s.f 4), .int .i64 (s.f 5), .int .i64 (s.f 6), .int .i64 (s.f 7), .slice s.a s.l.length s.cap] 30)) := (Off.refl _ wj).alloc _
     have C2 := Cel.new wj 30 #[.int .i64 (s.f 0), .int .i64 (s.f 1), .int .i64 (s.f 2), .int .i64 (s.f 3), .int .i64 (s.f 4), .int .i64 (s.f 5), .int .i64 (s.f 6), .int .i64 (s.f 7), .slice s.a s.l.length s.cap]
     generalize wj.alloc (.cells #[.int .i64 (s.f 0), .int .i64 (s.f 1), .int .i64 (s.f 2), .int .i64 (s.f 3), .int .i64 (s.f 4), .int .i64 (s.f 5), .int .i64 (s.f 6), .int .i64 (s.f 7), .slice s.a s.l.length s.cap] 30) = v2 at O2 C2 ⊢
     have HGM : Hid _ := gmay_any s.f s.a s.cap s.l v2 (HOK.out.off O2).row
     have HO2 : Hid _ := HOj.out.trans O2 (fun _ _ h => h)
     clear y0 y1 y2 y3 y4 y5 y6 y7 y8 O2 hix
     obtain ⟨z0, z1, z2, z3, z4, z5, z6, z7, z8⟩ := cel9 C2
     clear C2
     go_wp2_with fail
     refine Calls.mono HGM.out ?_
     rintro e v3 ⟨rfl, o3⟩
     have HO3 : Hid _ := HO2.out.trans o3 (fun _ _ h => h)
     clear z0 z1 z2 z3 z4 z5 z6 z7 z8 o3 HO2 HGM
     cases hms : mayS s.f (cont s.l)
     ·have HAW : Hid _ := awake_any v3
      go_wp2_with fail
      refine Calls.mono HAW.out ?_
      rintro e v7 ⟨rfl, o7⟩
      have HO7 : Hid _ := Off.trans (HO3.out) o7 (fun _ _ h => h)
      clear o7
      go_wp2_with fail
      go_ret
      exact ⟨rfl, HO7.out⟩
     ·have HJ2 : Hid (∀ k, k < j + 1 → mayA (apE E k) = true) := fun k hk => by
       by_cases e : k = j
       ·subst e
        show mayA (E.getD k SV.zero).abs = true
        rw [← HSV.out]
        exact hms
       ·exact HJ.out k (by omega)
      clear hms
      go_wp2_with fail
      go_roundw
      case rel => exact ⟨j + 1, by go_num, by omega, HO3, HJ2⟩
      case measure => simp [vInt]; omega
    ·have d1 : decide ((j : Int) < (E.length : Int)) = false := decide_eq_false (by omega)
     have HME : Hid (∀ k, k < E.length → mayA (apE E k) = true) := fun k hk => HJ.out k (by omega)
     have H1' : Hid (1 ≤ i + 1 → ∀ j, j < xs.length → mayA (apE xs j) = true) := fun _ => by
      by_cases e : i = 0
      ·rw [← HE0.out e]; exact HME.out
      ·exact H1.out (by omega)
     have H2' : Hid (2 ≤ i + 1 → ∀ j, j < ys.length → mayA (apE ys j) = true) := fun _ => by
      rw [← HE1.out (by omega)]; exact HME.out
     go_wp2_with fail
     go_roundw
     case rel => exact ⟨i + 1, by go_num, by omega, HOj, H1', H2'⟩
     case measure => simp [vInt]; omega
  ·have d0 : decide ((i : Int) < 2) = false := decide_eq_false (by omega)
   have HMX : Hid (∀ j, j < xs.length → mayA (apE xs j) = true) := H1.out (by omega)
   have HMY : Hid (∀ j, j < ys.length → mayA (apE ys j) = true) := H2.out (by omega)
   have HN1 : Hid _ := two_new wo
   clear H1 H2
   go_wp2_with fail
   clear d0
   refine Calls.mono HN1.out ?_
   rintro e v1 ⟨p, rfl, hp, c1, o1⟩
   have HO1 : Hid _ := HO.out.trans o1 (fun _ _ h => h)
   have HN2 : Hid _ := two_new2 c1 HO1.out (by rw [hp]; exact HO.out.size)
   clear c1 o1 hp HN1 HO
   go_wp2_with fail
   refine Calls.mono HN2.out ?_
   rintro e v2 ⟨q, M, rfl, t2, o2⟩
   have HR1 : Hid _ := read_one t2 o2 m kA (by show (0 : Int) < _; omega)
   clear t2 o2 HN2 HO1
   go_wp2_with fail
   refine Calls.mono HR1.out ?_
   rintro e v3 ⟨x3, M3, t3, o3, e3, rv3⟩
   have hb3 : beginA (newM 9).abs 0 m true kA SA.zero = (⟨9, 1, [apO 1 kA m], []⟩, 1, 0) := by
    rw [show (newM 9).abs = ⟨9, 0, [], []⟩ from rfl]
    exact ap_begin1 kA_ok HM.out
   rw [hb3] at e3 rv3
   obtain rfl := rv3
   have HB3 : Hid _ := hb3
   have HE3 : Hid (x3.abs = ⟨9, 1, [apO 1 kA m], []⟩) := e3
   have HR2 : Hid _ := read_one t3 o3 n kB (by have : x3.last = 1 := congrArg CA.last e3; omega)
   clear t3 o3 e3 HR1 hb3
   go_wp2_with fail
   refine Calls.mono HR2.out ?_
   rintro e v4 ⟨x4, M4, t4, o4, e4, rv4⟩
   rw [HE3.out, ap_begin2 kB_ok HN.out] at e4 rv4
   obtain rfl := rv4
   have HE4 : Hid (x4.abs = ⟨9, 2, [apO 1 kA m, apO 2 kB n], []⟩) := e4
   have HR3 : Hid _ := read_two t4 o4 m kA (by show (0 : Int) < _; omega)
   clear t4 o4 e4 HR2
   go_wp2_with fail
   refine Calls.mono HR3.out ?_
   rintro e v5 ⟨y5, M5, t5, o5, e5, rv5⟩
   rw [HB3.out] at e5 rv5
   obtain rfl := rv5
   have HT5 : Hid _ := t5
   have HO5 : Hid _ := o5
   have HP5 : Hid (ApC x4.abs y5.abs) := by
    show ApC x4.abs y5.abs
    rw [HE4.out, e5]
    exact ap_start _ _ _ _
   clear t5 o5 e5 HR3 HB3 HE4 HE3
   go_wp2_with fail
   go_loopw [90] (fun s90 wr => ∃ (i : Nat) (x y : CM) (M : Nat), s90 = .int .i64 (i : Int) ∧ i ≤ 7 ∧ Hid (Two p q x y w.heap.size M wr) ∧ Hid (Off (fun _ => False) w wr) ∧ Hid (ApC x.abs y.abs)) (fun s90 _ => ((7 : Int) - vInt s90).toNat)
   case atStart => exact ⟨0, _, _, _, rfl, by omega, HT5, HO5, HP5⟩
   case round =>
    obtain ⟨i, x, y, M, rfl, hi, HT, HO, HP⟩ := hrel
    rename World => wr
    clear HT5 HO5 HP5
    by_cases h7 : i < 7
    ·have d7 : decide ((i : Int) < 7) = true := decide_eq_true (by omega)
     have wi : IntKind.i64.wrap ((i : Int) + 1) = (i : Int) + 1 := by rw [IntKind.wrap_i64]; omega
     by_cases hbl : i < ys.length
     ·obtain ⟨bB, offB, haB, hcB, hkB⟩ := HB.out.cells (Off.refl (fun _ => False) w) hbl
      obtain ⟨sB, hsB⟩ : ∃ s, s = ys.getD i SV.zero := ⟨_, rfl⟩
      rw [← hsB] at hcB hkB
      subst haB
      have hixB := sbs_at hbl cb bB offB
      obtain ⟨oB, hoB⟩ : ∃ o, o = offB + i * 9 := ⟨_, rfl⟩
      rw [← hoB] at hcB hixB
      have HCB : Hid _ := hcB
      have HKB : Hid (SvOk w sB) := hkB
      clear hcB hkB hsB hoB
      have db : decide ((i : Int) < (ys.length : Int)) = true := decide_eq_true (by omega)
      have HG0 : Hid _ := got_one HT.out HO.out (n := 2) ⟨by omega, by omega⟩ ((i : Int) + 1) kB sB HKB.out
      obtain ⟨y0, y1, y2, y3, y4, y5, y6, y7, y8⟩ := svc9 (cellsJ_off HO.out HCB.out)
      go_wp2_with fail
      clear y0 y1 y2 y3 y4 y5 y6 y7 y8
      refine Calls.mono HG0.out ?_
      rintro e v6 ⟨x6, t6, o6, e6, r6⟩
      obtain ⟨al0, ll0, cl0, rfl⟩ := r6.val
      have HT6 : Hid _ := t6
      have HO6 : Hid _ := o6
      have HP6 : Hid (ApC x6.abs y.abs) := by
       show ApC x6.abs y.abs
       rw [e6]
       exact apart_other HP.out _ _ _
      clear t6 o6 e6 r6 HG0 HT HO HP
      by_cases hal : i < xs.length
      ·obtain ⟨bA, offA, haA, hcA, hkA⟩ := HA.out.cells (Off.refl (fun _ => False) w) hal
       obtain ⟨sA, hsA⟩ : ∃ s, s = xs.getD i SV.zero := ⟨_, rfl⟩
       rw [← hsA] at hcA hkA
       subst haA
       have hixA := sbs_at hal ca bA offA
       obtain ⟨oA, hoA⟩ : ∃ o, o = offA + i * 9 := ⟨_, rfl⟩
       rw [← hoA] at hcA hixA
       have HCA : Hid _ := hcA
       have HKA : Hid (SvOk w sA) := hkA
       clear hcA hkA hsA hoA
       have da : decide ((i : Int) < (xs.length : Int)) = true := decide_eq_true (by omega)
       have HG1 : Hid _ := got_one HT6.out HO6.out (n := 1) ⟨by omega, by omega⟩ ((i : Int) + 1) kA sA HKA.out
       obtain ⟨y0, y1, y2, y3, y4, y5, y6, y7, y8⟩ := svc9 (cellsJ_off HO6.out HCA.out)
       go_wp2_with fail
       clear y0 y1 y2 y3 y4 y5 y6 y7 y8
       refine Calls.mono HG1.out ?_
       rintro e v7 ⟨x7, t7, o7, e7, r7⟩
       have l7len := got_len x6.abs 1 ((i : Int) + 1) kA sA.abs
       obtain ⟨al, cl, l7, rfl, hl7, own7, new7⟩ := r7.row
       rw [← hl7] at l7len
       generalize hok7 : (gotA x6.abs 1 ((i : Int) + 1) kA sA.abs).2.isSome = ok
       have HOK7 : Hid _ := hok7
       have HL7 : Hid _ := hl7
       have HLL7 : Hid (l7.length ≤ 8) := l7len
       have HW7 : Hid _ := own7
       have HNW7 : Hid (∀ b, blk al = some b → v6.heap.size ≤ b) := new7
       have HE7 : Hid _ := e7
       have HO7 : Hid _ := o7
       have HG2 : Hid _ := got_two t7 o7 (n := 1) ⟨by omega, by omega⟩ ((i : Int) + 1) kA sA HKA.out
       clear t7 o7 e7 r7 hok7 hl7 own7 new7 HG1 l7len
       obtain ⟨y0, y1, y2, y3, y4, y5, y6, y7, y8⟩ := svc9 (cellsJ_off HO7.out HCA.out)
       go_wp2_with fail
       clear y0 y1 y2 y3 y4 y5 y6 y7 y8
       refine Calls.mono HG2.out ?_
       rintro e v8 ⟨y8, M8, t8, o8, om8, e8, r8⟩
       obtain ⟨al2, cl2, l8, rfl, hl8, own8, new8⟩ := r8.row
       have ap := apart_own HP6.out ((i : Int) + 1) kA sA.abs
       have hl87 : l7 = l8 := by rw [hl8, ap.2]; exact HL7.out
       rw [show (gotA y.abs 1 ((i : Int) + 1) kA sA.abs).2.isSome = ok from by rw [ap.2]; exact HOK7.out]
       have HP8 : Hid (ApC x7.abs y8.abs) := by
        show ApC x7.abs y8.abs
        rw [HE7.out, e8]
        exact ap.1
       have hsi := gsints_any (HW7.out.off om8 (fun c _ hb lt => by have := HNW7.out c hb; omega)) own8 (by have := HLL7.out; omega)
       rw [decide_eq_true hl87] at hsi
       have HSI : Hid _ := hsi
       have HT8 : Hid _ := t8
       have HO8 : Hid _ := o8
       have hne : ∀ W, (binOp .neq 4 (.bool ok) (.bool ok)).run Try.prog W = .ok (.bool false) W := fun W => by cases ok <;> kernel_rfl
       clear t8 o8 om8 e8 r8 hl8 own8 new8 ap hl87 hsi HG2 HW7 HNW7 HE7 HL7 HOK7 HLL7 HO7
       go_wp2_with fail
       refine Calls.mono HSI.out ?_
       rintro e v9 ⟨rfl, o9⟩
       have HT9 : Hid _ := Two.free HT8.out o9
       have HO9 : Hid _ := HO8.out.trans o9 (fun _ _ h => h)
       clear o9 HSI HT8 HO8
       go_wp2_with fail
       go_roundw
       case rel => exact ⟨i + 1, x7, y8, _, by go_num, by omega, HT9, HO9, HP8⟩
       case measure => simp [vInt]; omega
      ·have da : decide ((i : Int) < (xs.length : Int)) = false := decide_eq_false (by omega)
       go_wp2_with fail
       go_roundw
       case rel => exact ⟨i + 1, x6, y, _, by go_num, by omega, HT6, HO6, HP6⟩
       case measure => simp [vInt]; omega
     ·have db : decide ((i : Int) < (ys.length : Int)) = false := decide_eq_false (by omega)
      by_cases hal : i < xs.length
      ·obtain ⟨bA, offA, haA, hcA, hkA⟩ := HA.out.cells (Off.refl (fun _ => False) w) hal
       obtain ⟨sA, hsA⟩ : ∃ s, s = xs.getD i SV.zero := ⟨_, rfl⟩
       rw [← hsA] at hcA hkA
       subst haA
       have hixA := sbs_at hal ca bA offA
       obtain ⟨oA, hoA⟩ : ∃ o, o = offA + i * 9 := ⟨_, rfl⟩
       rw [← hoA] at hcA hixA
       have HCA : Hid _ := hcA
       have HKA : Hid (SvOk w sA) := hkA
       clear hcA hkA hsA hoA
       have da : decide ((i : Int) < (xs.length : Int)) = true := decide_eq_true (by omega)
       have HG1 : Hid _ := got_one HT.out HO.out (n := 1) ⟨by omega, by omega⟩ ((i : Int) + 1) kA sA HKA.out
       obtain ⟨y0, y1, y2, y3, y4, y5, y6, y7, y8⟩ := svc9 (cellsJ_off HO.out HCA.out)
       go_wp2_with fail
       clear y0 y1 y2 y3 y4 y5 y6 y7 y8
       refine Calls.mono HG1.out ?_
       rintro e v7 ⟨x7, t7, o7, e7, r7⟩
       have l7len := got_len x.abs 1 ((i : Int) + 1) kA sA.abs
       obtain ⟨al, cl, l7, rfl, hl7, own7, new7⟩ := r7.row
       rw [← hl7] at l7len
       generalize hok7 : (gotA x.abs 1 ((i : Int) + 1) kA sA.abs).2.isSome = ok
       have HOK7 : Hid _ := hok7
       have HL7 : Hid _ := hl7
       have HLL7 : Hid (l7.length ≤ 8) := l7len
       have HW7 : Hid _ := own7
       have HNW7 : Hid (∀ b, blk al = some b → wr.heap.size ≤ b) := new7
       have HE7 : Hid _ := e7
       have HO7 : Hid _ := o7
       have HG2 : Hid _ := got_two t7 o7 (n := 1) ⟨by omega, by omega⟩ ((i : Int) + 1) kA sA HKA.out
       clear t7 o7 e7 r7 hok7 hl7 own7 new7 HG1 l7len
       obtain ⟨y0, y1, y2, y3, y4, y5, y6, y7, y8⟩ := svc9 (cellsJ_off HO7.out HCA.out)
       go_wp2_with fail
       clear y0 y1 y2 y3 y4 y5 y6 y7 y8
       refine Calls.mono HG2.out ?_
       rintro e v8 ⟨y8, M8, t8, o8, om8, e8, r8⟩
       obtain ⟨al2, cl2, l8, rfl, hl8, own8, new8⟩ := r8.row
       have ap := apart_own HP.out ((i : Int) + 1) kA sA.abs
       have hl87 : l7 = l8 := by rw [hl8, ap.2]; exact HL7.out
       rw [show (gotA y.abs 1 ((i : Int) + 1) kA sA.abs).2.isSome = ok from by rw [ap.2]; exact HOK7.out]
       have HP8 : Hid (ApC x7.abs y8.abs) := by
        show ApC x7.abs y8.abs
        rw [HE7.out, e8]
        exact ap.1
       have hsi := gsints_any (HW7.out.off om8 (fun c _ hb lt => by have := HNW7.out c hb; omega)) own8 (by have := HLL7.out; omega)
       rw [decide_eq_true hl87] at hsi
       have HSI : Hid _ := hsi
       have HT8 : Hid _ := t8
       have HO8 : Hid _ := o8
       have hne : ∀ W, (binOp .neq 4 (.bool ok) (.bool ok)).run Try.prog W = .ok (.bool false) W := fun W => by cases ok <;> kernel_rfl
       clear t8 o8 om8 e8 r8 hl8 own8 new8 ap hl87 hsi HG2 HW7 HNW7 HE7 HL7 HOK7 HLL7 HO7
       go_wp2_with fail
       refine Calls.mono HSI.out ?_
       rintro e v9 ⟨rfl, o9⟩
       have HT9 : Hid _ := Two.free HT8.out o9
       have HO9 : Hid _ := HO8.out.trans o9 (fun _ _ h => h)
       clear o9 HSI HT8 HO8
       go_wp2_with fail
       go_roundw
       case rel => exact ⟨i + 1, x7, y8, _, by go_num, by omega, HT9, HO9, HP8⟩
       case measure => simp [vInt]; omega
      ·have da : decide ((i : Int) < (xs.length : Int)) = false := decide_eq_false (by omega)
       go_wp2_with fail
       go_roundw
       case rel => exact ⟨i + 1, x, y, _, by go_num, by omega, HT, HO, HP⟩
       case measure => simp [vInt]; omega
    ·have d7 : decide ((i : Int) < 7) = false := decide_eq_false (by omega)
     have HAN : Hid _ := ans_one HT.out HO.out
     have HAP : Hid ((x.an.filter ownD).map AnD.abs = y.an.map AnD.abs) := by
      show (x.an.filter ownD).map AnD.abs = y.an.map AnD.abs
      rw [← own_map]
      exact HP.out.an
     clear HT HO HP
     go_wp2_with fail
     refine Calls.mono HAN.out ?_
     rintro e v6 ⟨rfl, own6, hle6, o6, Eb, Zb, c6, ok6, hN6⟩
     obtain ⟨L, hL⟩ : ∃ l, l = x.an := ⟨_, rfl⟩
     obtain ⟨aa, haa⟩ : ∃ a, a = x.aa := ⟨_, rfl⟩
     obtain ⟨ac, hac⟩ : ∃ c, c = x.ac := ⟨_, rfl⟩
     have HAPL : Hid ((L.filter ownD).map AnD.abs = y.an.map AnD.abs) := by
      show (L.filter ownD).map AnD.abs = y.an.map AnD.abs
      rw [hL]
      exact HAP.out
     rw [← hL] at own6 hle6 ok6
     rw [← haa, ← hac] at own6
     rw [← hL, ← haa, ← hac]
     have HX : Hid (OwnG 46 11 anC v6 aa ac L) := own6
     have HK6 : Hid (∀ z ∈ L, SOk Zb v6 z.s) := ok6
     have HO6 : Hid _ := o6
     have HC6 : Hid _ := c6
     have HN6 : Hid _ := hN6
     clear own6 o6 c6 ok6 hN6 hL haa hac HAP HAN
     go_wp2_with fail
     clear d7
     go_loopw [26, 150] (fun s26 s150 wr => ∃ (i : Nat) (a2 : Option Addr) (c2 : Nat) (l : List AnD), s150 = .int .i64 (i : Int) ∧ i ≤ L.length ∧ s26 = .slice a2 l.length c2 ∧ Hid (l = (L.take i).filter ownD) ∧ Hid (OwnG 46 11 anC wr a2 c2 l) ∧ Hid (Off (fun _ => False) v6 wr) ∧ Hid (∀ b, blk a2 = some b → v6.heap.size ≤ b)) (fun _ s150 _ => ((L.length : Int) - vInt s150).toNat)
     case atStart => exact ⟨0, none, 0, [], rfl, by omega, rfl, rfl, OwnG.nil _ _ _ _, Off.refl _ _, fun b h => by cases h⟩
     case round =>
      obtain ⟨i, a2, c2, l, rfl, hi, rfl, HL, HMR, HV, HNB⟩ := hrel
      rename World => wk
      by_cases hlt : i < L.length
      ·obtain ⟨z, hz⟩ : ∃ z, L[i]? = some z := ⟨_, List.getElem?_eq_getElem hlt⟩
       obtain ⟨g, hg, hc⟩ := (HX.out.off HV.out (fun _ _ _ h => h)).get anC_len hz
       subst hg
       have hix := anss_at hlt ac g
       obtain ⟨o, ho⟩ : ∃ o, o = i * 11 := ⟨_, rfl⟩
       rw [← ho] at hc hix
       have hts : (L.take (i + 1)).filter ownD = l ++ (if z.op = 1 then [z] else []) := by
        rw [List.take_add_one, hz, List.filter_append, ← HL.out]
        congr 1
        by_cases e : z.op = 1
        ·rw [if_pos e]
         show List.filter ownD [z] = [z]
         rw [List.filter_cons, show ownD z = true from decide_eq_true e]
         rfl
        ·rw [if_neg e]
         show List.filter ownD [z] = []
         rw [List.filter_cons, show ownD z = false from decide_eq_false e]
         rfl
       have hl6 : l.length ≤ L.length := by rw [HL.out]; exact Nat.le_trans (List.length_filter_le _ _) (by rw [List.length_take]; omega)
       obtain ⟨x0, x1, x2, x3, x4, x5, x6, x7, x8, x9, x10⟩ := svc11 hc
       have d1 : decide ((i : Int) < (L.length : Int)) = true := decide_eq_true (by omega)
       have wi : IntKind.i64.wrap ((i : Int) + 1) = (i : Int) + 1 := by rw [IntKind.wrap_i64]; omega
       have HTS : Hid _ := hts
       clear hc ho hz hts
       go_upto_region 33 with fail
       have O2 : Off (fun _ => False) wk (wk.alloc (.cells #[.int .i64 z.op, .int .i64 z.err, .int .i64 (z.s.f 0), .int .i64 (z.s.f 1), .int .i64 (z.s.f 2), .int .i64 (z.s.f 3), .int .i64 (z.s.f 4), .int .i64 (z.s.f 5), .int .i64 (z.s.f 6), .int .i64 (z.s.f 7), .slice z.s.a z.s.l.length z.s.cap] 46)) := (Off.refl _ wk).alloc _
       have C2 : Cel wk.heap.size 46 (anL z) (wk.alloc (.cells #[.int .i64 z.op, .int .i64 z.err, .int .i64 (z.s.f 0), .int .i64 (z.s.f 1), .int .i64 (z.s.f 2), .int .i64 (z.s.f 3), .int .i64 (z.s.f 4), .int .i64 (z.s.f 5), .int .i64 (z.s.f 6), .int .i64 (z.s.f 7), .slice z.s.a z.s.l.length z.s.cap] 46)) := Cel.new wk 46 (anL z)
       generalize wk.alloc (.cells #[.int .i64 z.op, .int .i64 z.err, .int .i64 (z.s.f 0), .int .i64 (z.s.f 1), .int .i64 (z.s.f 2), .int .i64 (z.s.f 3), .int .i64 (z.s.f 4), .int .i64 (z.s.f 5), .int .i64 (z.s.f 6), .int .i64 (z.s.f 7), .slice z.s.a z.s.l.length z.s.cap] 46) = v2 at O2 C2 ⊢
       generalize wk.heap.size = bt at C2 ⊢
       clear x0 x1 x2 x3 x4 x5 x6 x7 x8 x9 x10 hix
       obtain ⟨x0, x1, x2, x3, x4, x5, x6, x7, x8, x9, x10⟩ := cel11 C2
       have HMR2 : Hid (OwnG 46 11 anC v2 a2 c2 l) := HMR.out.off O2 (fun _ _ _ h => h)
       have HV2 : Hid (Off (fun _ => False) v6 v2) := HV.out.trans O2 (fun _ _ h => h)
       clear C2 O2 HMR HV
       by_cases e1 : z.op = 1
       ·have dz : (z.op == 1) = true := beq_iff_eq.2 e1
        have HFL : Hid (l ++ [z] = (L.take (i + 1)).filter ownD) := by
         show l ++ [z] = _
         rw [HTS.out, if_pos e1]
        clear e1 HTS
        have O3 : Off (fun _ => False) v2 (v2.alloc (.cells #[.int .i64 z.op, .int .i64 z.err, .int .i64 (z.s.f 0), .int .i64 (z.s.f 1), .int .i64 (z.s.f 2), .int .i64 (z.s.f 3), .int .i64 (z.s.f 4), .int .i64 (z.s.f 5), .int .i64 (z.s.f 6), .int .i64 (z.s.f 7), .slice z.s.a z.s.l.length z.s.cap] 46)) := (Off.refl _ v2).alloc _
        have C3 : Cel v2.heap.size 46 (anL z) (v2.alloc (.cells #[.int .i64 z.op, .int .i64 z.err, .int .i64 (z.s.f 0), .int .i64 (z.s.f 1), .int .i64 (z.s.f 2), .int .i64 (z.s.f 3), .int .i64 (z.s.f 4), .int .i64 (z.s.f 5), .int .i64 (z.s.f 6), .int .i64 (z.s.f 7), .slice z.s.a z.s.l.length z.s.cap] 46)) := Cel.new v2 46 (anL z)
        obtain ⟨a3, c3, V3, hr, own3, o3, at3⟩ := app1_run (tS := 43) Try.underlying43 Try.infoAn rfl (by decide) anC_len anC_one (HMR2.out.off O3 (fun _ _ _ h => h)) z (g := v2.heap.size) (fun j u hj => (C3.cell j).trans (List.getElem?_toArray.trans hj)) ⟨by omega, by decide⟩ 43
        have HMR3 : Hid (OwnG 46 11 anC V3 a3 c3 (l ++ [z])) := own3
        have HV3 : Hid (Off (fun _ => False) v6 V3) := (HV2.out.trans O3 (fun _ _ h => h)).trans o3 (fun c hc hb => by have := HNB.out c hb; omega)
        have HNB3 : Hid (∀ b, blk a3 = some b → v6.heap.size ≤ b) := fun b hb => by
         rcases at3 with h | h
         ·exact HNB.out b (h ▸ hb)
         ·rw [h] at hb
          have hs := (HV2.out.trans O3 (fun _ _ h => h)).size
          cases hb
          exact hs
        clear O3 C3 own3 o3 at3 HMR2 HV2 hl6 hle6
        go_wp2_with (at_builtin; refine wpList_appR rfl (.tmp 158) (.tmp 160) rfl rfl rfl hr ?_; clear hr)
        go_roundw
        case rel => exact ⟨i + 1, a3, c3, l ++ [z], by go_num, by omega, by simp, HFL, HMR3, HV3, HNB3⟩
        case measure => simp [vInt]; omega
       ·have dz : (z.op == 1) = false := beq_eq_false_iff_ne.2 e1
        have HFL : Hid (l = (L.take (i + 1)).filter ownD) := by
         show l = _
         rw [HTS.out, if_neg e1, List.append_nil]
        clear e1 HTS
        go_wp2_with fail
        go_roundw
        case rel => exact ⟨i + 1, a2, c2, l, by go_num, by omega, rfl, HFL, HMR2, HV2, HNB⟩
        case measure => simp [vInt]; omega
      ·have d1 : decide ((i : Int) < (L.length : Int)) = false := decide_eq_false (by omega)
       have HLF : Hid (l = L.filter ownD) := by
        show l = L.filter ownD
        rw [HL.out, List.take_of_length_le (by omega)]
       have HAY : Hid _ := canswers_any (HC6.out.free HV.out)
       go_wp2_with fail
       refine Calls.mono HAY.out ?_
       rintro e v8 ⟨rfl, ownY, okY, c8, g8⟩
       have HLY : Hid (l.map AnD.abs = y.an.map AnD.abs) := by
        show l.map AnD.abs = y.an.map AnD.abs
        rw [HLF.out]
        exact HAPL.out
       have HML : Hid (OwnG 46 11 anC v8 a2 c2 l) := HMR.out.off g8.off (fun c _ hb d => by have := HNB.out c hb; have := HC6.out.lt c (HC6.out.sub c d); omega)
       have HKL : Hid (∀ z ∈ l, SOk Zb v8 z.s) := fun z hz => ((HK6.out z (by rw [HLF.out] at hz; exact (List.mem_filter.1 hz).1)).free HV.out).off g8.off (fun c _ d => HC6.out.sub c d)
       have HO8 : Hid (Off (fun _ => False) w v8) := (HO6.out.trans HV.out (fun _ _ h => h)).trans g8.off (fun c hc d => by have := HN6.out c (HC6.out.sub c d); omega)
       have hlen : y.an.length = l.length := by have := congrArg List.length HLY.out; simpa using this.symm
       clear c8 g8 HMR HV HNB HL HLF HAY HK6 HN6 HC6 HO6 HX
       by_cases hl0 : l = []
       ·rw [show y.an.length = 0 from by rw [hlen, hl0]; rfl, show l.length = 0 from by rw [hl0]; rfl]
        clear hlen hl0
        go_wp2_with fail
        refine wp_region_held_drew (S := Off (fun _ => False) v8) (by kernel_rfl) ((Off.refl (fun _ => False) v8).drew) (fun hS => ?_)
        refine take_at (i := 0) 165 (v := .slice a2 0 c2) rfl rfl (by kernel_rfl) (by kernel_rfl) (by kernel_rfl) (fun _ _ _ h => h) (Or.inl ⟨by rfl, fun w' hw' => by go_simp⟩) hS ?_
        simp only [Act.put, lsA, lsZ, lsS]
        refine take_at (i := 1) 166 (v := .int .i64 0) rfl rfl (by kernel_rfl) (by kernel_rfl) (by kernel_rfl) (fun _ _ _ h => h) (Or.inl ⟨by rfl, fun w' hw' => by go_simp⟩) hS ?_
        simp only [Act.put, lsA, lsZ, lsS]
        refine take_at (i := 2) 167 (v := .slice y.aa 0 y.ac) rfl rfl (by kernel_rfl) (by kernel_rfl) (by kernel_rfl) (fun _ _ _ h => h) (Or.inl ⟨by rfl, fun w' hw' => by go_simp⟩) hS ?_
        simp only [Act.put, lsA, lsZ, lsS]
        refine take_at (i := 3) 168 (v := .int .i64 0) rfl rfl (by kernel_rfl) (by kernel_rfl) (by kernel_rfl) (fun _ _ _ h => h) (Or.inl ⟨by rfl, fun w' hw' => by go_simp⟩) hS ?_
        simp only [Act.put, lsA, lsZ, lsS]
        refine take_at (i := 4) 169 (v := .bool true) rfl rfl (by kernel_rfl) (by kernel_rfl) (by kernel_rfl) (fun _ _ _ h => h) (Or.inl ⟨by rfl, fun w' hw' => by go_simp⟩) hS ?_
        simp only [Act.put, lsA, lsZ, lsS]
        refine take_at (i := 5) 170 (v := .bool true) rfl rfl (by kernel_rfl) (by kernel_rfl) (by kernel_rfl) (fun _ _ _ h => h) (Or.inl ⟨by rfl, fun w' hw' => by go_simp⟩) hS ?_
        simp only [Act.put, lsA, lsZ, lsS]
        refine take_at (i := 6) 171 (v := .slice a2 0 c2) rfl rfl (by kernel_rfl) (by kernel_rfl) (by kernel_rfl) (fun _ _ _ h => h) (Or.inl ⟨by rfl, fun w' hw' => by go_simp⟩) hS ?_
        simp only [Act.put, lsA, lsZ, lsS]
        refine take_at (i := 7) 172 (v := .int .i64 0) rfl rfl (by kernel_rfl) (by kernel_rfl) (by kernel_rfl) (fun _ _ _ h => h) (Or.inl ⟨by rfl, fun w' hw' => by go_simp⟩) hS ?_
        simp only [Act.put, lsA, lsZ, lsS]
        refine take_at (i := 8) 173 (v := .bool true) rfl rfl (by kernel_rfl) (by kernel_rfl) (by kernel_rfl) (fun _ _ _ h => h) (Or.inl ⟨by rfl, fun w' hw' => by go_simp⟩) hS ?_
        simp only [Act.put, lsA, lsZ, lsS]
        refine take_at (i := 9) 174 (v := .bool true) rfl rfl (by kernel_rfl) (by kernel_rfl) (by kernel_rfl) (fun _ _ _ h => h) (Or.inl ⟨by rfl, fun w' hw' => by go_simp⟩) hS ?_
        simp only [Act.put, lsA, lsZ, lsS]
        refine take_at (i := 10) 175 (v := undef) rfl rfl (by kernel_rfl) (by kernel_rfl) (by kernel_rfl) (fun _ _ _ h => h) (Or.inr ⟨by rfl, rfl⟩) hS ?_
        simp only [Act.put, lsA, lsZ, lsS]
        refine take_at (i := 11) 176 (v := undef) rfl rfl (by kernel_rfl) (by kernel_rfl) (by kernel_rfl) (fun _ _ _ h => h) (Or.inr ⟨by rfl, rfl⟩) hS ?_
        simp only [Act.put, lsA, lsZ, lsS]
        refine take_at (i := 12) 177 (v := undef) rfl rfl (by kernel_rfl) (by kernel_rfl) (by kernel_rfl) (fun _ _ _ h => h) (Or.inr ⟨by rfl, rfl⟩) hS ?_
        simp only [Act.put, lsA, lsZ, lsS]
        refine take_at (i := 13) 178 (v := undef) rfl rfl (by kernel_rfl) (by kernel_rfl) (by kernel_rfl) (fun _ _ _ h => h) (Or.inr ⟨by rfl, rfl⟩) hS ?_
        simp only [Act.put, lsA, lsZ, lsS]
        refine take_at (i := 14) 179 (v := undef) rfl rfl (by kernel_rfl) (by kernel_rfl) (by kernel_rfl) (fun _ _ _ h => h) (Or.inr ⟨by rfl, rfl⟩) hS ?_
        simp only [Act.put, lsA, lsZ, lsS]
        refine take_at (i := 15) 180 (v := undef) rfl rfl (by kernel_rfl) (by kernel_rfl) (by kernel_rfl) (fun _ _ _ h => h) (Or.inr ⟨by rfl, rfl⟩) hS ?_
        simp only [Act.put, lsA, lsZ, lsS]
        refine take_at (i := 16) 181 (v := undef) rfl rfl (by kernel_rfl) (by kernel_rfl) (by kernel_rfl) (fun _ _ _ h => h) (Or.inr ⟨by rfl, rfl⟩) hS ?_
        simp only [Act.put, lsA, lsZ, lsS]
        refine take_at (i := 17) 182 (v := undef) rfl rfl (by kernel_rfl) (by kernel_rfl) (by kernel_rfl) (fun _ _ _ h => h) (Or.inr ⟨by rfl, rfl⟩) hS ?_
        simp only [Act.put, lsA, lsZ, lsS]
        refine take_at (i := 18) 183 (v := undef) rfl rfl (by kernel_rfl) (by kernel_rfl) (by kernel_rfl) (fun _ _ _ h => h) (Or.inr ⟨by rfl, rfl⟩) hS ?_
        simp only [Act.put, lsA, lsZ, lsS]
        refine take_at (i := 19) 184 (v := .bool true) rfl rfl (by kernel_rfl) (by kernel_rfl) (by kernel_rfl) (fun _ _ _ h => h) (Or.inl ⟨by rfl, fun w' hw' => by go_simp⟩) hS ?_
        simp only [Act.put, lsA, lsZ, lsS]
        refine take_at (i := 20) 185 (v := .bool true) rfl rfl (by kernel_rfl) (by kernel_rfl) (by kernel_rfl) (fun _ _ _ h => h) (Or.inl ⟨by rfl, fun w' hw' => by go_simp⟩) hS ?_
        simp only [Act.put, lsA, lsZ, lsS]
        refine take_at (i := 21) 186 (v := .bool true) rfl rfl (by kernel_rfl) (by kernel_rfl) (by kernel_rfl) (fun _ _ _ h => h) (Or.inl ⟨by rfl, fun w' hw' => by go_simp⟩) hS ?_
        simp only [Act.put, lsA, lsZ, lsS]
        refine wpAnyH_ready (rs := [22]) (by kernel_rfl) (by simp) ?_
        refine AllReadyH.cons rfl (fun K' hK' => ?_) AllReadyH.nil
        go_simp
        refine Calls.mono (awake_any _) ?_
        rintro e0 w3 ⟨rfl, o3⟩
        refine hK'.out _ _ (hS.trans o3 (fun _ _ h => h)) (fun hS => ?_)
        clear hK' K' o3
        refine take_at (i := 23) 188 (v := .bool true) rfl rfl (by kernel_rfl) (by kernel_rfl) (by kernel_rfl) (fun _ _ _ h => h) (Or.inl ⟨by rfl, fun w' hw' => by go_simp⟩) hS ?_
        simp only [Act.put, lsA, lsZ, lsS]
        refine take_at (i := 24) 8 (v := .bool true) rfl rfl (by kernel_rfl) (by kernel_rfl) (by kernel_rfl) (fun _ _ _ h => h) (Or.inl ⟨by rfl, fun w' hw' => by go_simp⟩) hS ?_
        simp only [Act.put, lsA, lsZ, lsS]
        refine wpAnyH_done (by kernel_rfl) ?_ _
        have HO9 : Hid _ := HO8.out.trans hS (fun _ _ h => h)
        clear hS
        go_wp2_with fail
        go_ret
        exact ⟨rfl, HO9.out⟩
       ·obtain ⟨z, l2, hl⟩ := List.exists_cons_of_ne_nil hl0
        obtain ⟨u, k2, hy, hzu⟩ : ∃ u k, y.an = u :: k ∧ u.abs = z.abs := by
         have h := HLY.out
         rw [hl, List.map_cons] at h
         obtain ⟨u, k, h1, h2, -⟩ := List.map_eq_cons_iff.1 h.symm
         exact ⟨u, k, h1, h2⟩
        obtain ⟨g1, hg1, hc1⟩ := HML.out.get anC_len (i := 0) (x := z) (by rw [hl]; rfl)
        obtain ⟨g2, hg2, hc2⟩ := ownY.get anC_len (i := 0) (x := u) (by rw [hy]; rfl)
        have HSS : Hid (sameSA z.s.abs u.s.abs = true) := by
         show sameSA z.s.abs u.s.abs = true
         rw [show u.s.abs = z.s.abs from congrArg AnA.s hzu]
         exact sameSA_refl _
        have HR1 : Hid (Row v8 z.s.a z.s.cap z.s.l) := (HKL.out z (by rw [hl]; exact List.mem_cons_self)).row
        have HR2 : Hid (Row v8 u.s.a u.s.cap u.s.l) := (okY u (by rw [hy]; exact List.mem_cons_self)).row
        have HC1 : Hid (∀ j v, (anC z)[j]? = some v → v8.cell? ⟨g1, j, none⟩ = some v) := fun j v h => by
         have := hc1 j v h
         rw [show 0 * 11 + j = j by omega] at this
         exact this
        have HC2 : Hid (∀ j v, (anC u)[j]? = some v → v8.cell? ⟨g2, j, none⟩ = some v) := fun j v h => by
         have := hc2 j v h
         rw [show 0 * 11 + j = j by omega] at this
         exact this
        obtain ⟨N, hN⟩ : ∃ n, n = l.length := ⟨_, rfl⟩
        have hNp : 0 < N := by rw [hN, hl]; exact Nat.succ_pos _
        have hN0 : ((N : Int) == 0) = false := beq_eq_false_iff_ne.2 (by omega)
        rw [hlen, ← hN, hg1, hg2]
        clear hc1 hc2 hg1 hg2 hy hzu hl hN hlen HML HKL HLY ownY okY hl0
        go_wp2_with fail
        refine wp_region_held_drew (S := Off (fun _ => False) v8) (by kernel_rfl) ((Off.refl (fun _ => False) v8).drew) (fun hS => ?_)
        refine take_at (i := 0) 165 (v := .slice (some ⟨g1, 0, none⟩) N c2) rfl rfl (by kernel_rfl) (by kernel_rfl) (by kernel_rfl) (fun _ _ _ h => h) (Or.inl ⟨by rfl, fun w' hw' => by go_simp⟩) hS ?_
        simp only [Act.put, lsA, lsZ, lsS]
        refine take_at (i := 1) 166 (v := .int .i64 (N : Int)) rfl rfl (by kernel_rfl) (by kernel_rfl) (by kernel_rfl) (fun _ _ _ h => h) (Or.inl ⟨by rfl, fun w' hw' => by go_simp⟩) hS ?_
        simp only [Act.put, lsA, lsZ, lsS]
        refine take_at (i := 2) 167 (v := .slice (some ⟨g2, 0, none⟩) N y.ac) rfl rfl (by kernel_rfl) (by kernel_rfl) (by kernel_rfl) (fun _ _ _ h => h) (Or.inl ⟨by rfl, fun w' hw' => by go_simp⟩) hS ?_
        simp only [Act.put, lsA, lsZ, lsS]
        refine take_at (i := 3) 168 (v := .int .i64 (N : Int)) rfl rfl (by kernel_rfl) (by kernel_rfl) (by kernel_rfl) (fun _ _ _ h => h) (Or.inl ⟨by rfl, fun w' hw' => by go_simp⟩) hS ?_
        simp only [Act.put, lsA, lsZ, lsS]
        refine take_at (i := 4) 169 (v := .bool true) rfl rfl (by kernel_rfl) (by kernel_rfl) (by kernel_rfl) (fun _ _ _ h => h) (Or.inl ⟨by rfl, fun w' hw' => by go_simp⟩) hS ?_
        simp only [Act.put, lsA, lsZ, lsS]
        refine take_at (i := 5) 170 (v := .bool true) rfl rfl (by kernel_rfl) (by kernel_rfl) (by kernel_rfl) (fun _ _ _ h => h) (Or.inl ⟨by rfl, fun w' hw' => by go_simp⟩) hS ?_
        simp only [Act.put, lsA, lsZ, lsS]
        refine take_at (i := 6) 171 (v := .slice (some ⟨g1, 0, none⟩) N c2) rfl rfl (by kernel_rfl) (by kernel_rfl) (by kernel_rfl) (fun _ _ _ h => h) (Or.inl ⟨by rfl, fun w' hw' => by go_simp⟩) hS ?_
        simp only [Act.put, lsA, lsZ, lsS]
        refine take_at (i := 7) 172 (v := .int .i64 (N : Int)) rfl rfl (by kernel_rfl) (by kernel_rfl) (by kernel_rfl) (fun _ _ _ h => h) (Or.inl ⟨by rfl, fun w' hw' => by go_simp⟩) hS ?_
        simp only [Act.put, lsA, lsZ, lsS]
        refine take_at (i := 8) 173 (v := .bool false) rfl rfl (by kernel_rfl) (by kernel_rfl) (by kernel_rfl) (fun _ _ _ h => h) (Or.inl ⟨by rfl, fun w' hw' => by go_simp⟩) hS ?_
        simp only [Act.put, lsA, lsZ, lsS]
        refine take_at (i := 9) 174 (v := .bool false) rfl rfl (by kernel_rfl) (by kernel_rfl) (by kernel_rfl) (fun _ _ _ h => h) (Or.inl ⟨by rfl, fun w' hw' => by go_simp⟩) hS ?_
        simp only [Act.put, lsA, lsZ, lsS]
        refine take_at (i := 10) 175 (v := .slice (some ⟨g1, 0, none⟩) N c2) rfl rfl (by kernel_rfl) (by kernel_rfl) (by kernel_rfl) (fun _ _ _ h => h) (Or.inl ⟨by rfl, fun w' hw' => by go_simp⟩) hS ?_
        simp only [Act.put, lsA, lsZ, lsS]
        refine take_at (i := 11) 176 (v := .pointer (some ⟨g1, 0, none⟩)) rfl rfl (by kernel_rfl) (by kernel_rfl) (by kernel_rfl) (fun _ _ _ h => h) (Or.inl ⟨by rfl, fun w' hw' => by have hix := anss_at0 N c2 g1 hNp w'; go_simp⟩) hS ?_
        simp only [Act.put, lsA, lsZ, lsS]
        refine take_at (i := 12) 177 (v := .pointer (some ⟨g1, 2, none⟩)) rfl rfl (by kernel_rfl) (by kernel_rfl) (by kernel_rfl) (fun _ _ _ h => h) (Or.inl ⟨by rfl, fun w' hw' => by go_simp⟩) hS ?_
        simp only [Act.put, lsA, lsZ, lsS]
        refine take_at (i := 13) 178 (v := .agg #[.int .i64 (z.s.f 0), .int .i64 (z.s.f 1), .int .i64 (z.s.f 2), .int .i64 (z.s.f 3), .int .i64 (z.s.f 4), .int .i64 (z.s.f 5), .int .i64 (z.s.f 6), .int .i64 (z.s.f 7), .slice z.s.a z.s.l.length z.s.cap]) rfl rfl (by kernel_rfl) (by kernel_rfl) (by kernel_rfl) (fun _ _ _ h => h) (Or.inl ⟨by rfl, fun w' hw' => by obtain ⟨x0, x1, x2, x3, x4, x5, x6, x7, x8, x9⟩ := an11 (an_off hw' HC1.out); go_simp⟩) hS ?_
        simp only [Act.put, lsA, lsZ, lsS]
        refine take_at (i := 14) 179 (v := .slice (some ⟨g2, 0, none⟩) N y.ac) rfl rfl (by kernel_rfl) (by kernel_rfl) (by kernel_rfl) (fun _ _ _ h => h) (Or.inl ⟨by rfl, fun w' hw' => by go_simp⟩) hS ?_
        simp only [Act.put, lsA, lsZ, lsS]
        refine take_at (i := 15) 180 (v := .pointer (some ⟨g2, 0, none⟩)) rfl rfl (by kernel_rfl) (by kernel_rfl) (by kernel_rfl) (fun _ _ _ h => h) (Or.inl ⟨by rfl, fun w' hw' => by have hix := anss_at0 N y.ac g2 hNp w'; go_simp⟩) hS ?_
        simp only [Act.put, lsA, lsZ, lsS]
        refine take_at (i := 16) 181 (v := .pointer (some ⟨g2, 2, none⟩)) rfl rfl (by kernel_rfl) (by kernel_rfl) (by kernel_rfl) (fun _ _ _ h => h) (Or.inl ⟨by rfl, fun w' hw' => by go_simp⟩) hS ?_
        simp only [Act.put, lsA, lsZ, lsS]
        refine take_at (i := 17) 182 (v := .agg #[.int .i64 (u.s.f 0), .int .i64 (u.s.f 1), .int .i64 (u.s.f 2), .int .i64 (u.s.f 3), .int .i64 (u.s.f 4), .int .i64 (u.s.f 5), .int .i64 (u.s.f 6), .int .i64 (u.s.f 7), .slice u.s.a u.s.l.length u.s.cap]) rfl rfl (by kernel_rfl) (by kernel_rfl) (by kernel_rfl) (fun _ _ _ h => h) (Or.inl ⟨by rfl, fun w' hw' => by obtain ⟨x0, x1, x2, x3, x4, x5, x6, x7, x8, x9⟩ := an11 (an_off hw' HC2.out); go_simp⟩) hS ?_
        simp only [Act.put, lsA, lsZ, lsS]
        refine wpAnyH_ready (rs := [18]) (by kernel_rfl) (by simp) ?_
        refine AllReadyH.cons rfl (fun K' hK' => ?_) AllReadyH.nil
        go_simp
        refine Calls.mono (sgsame z.s u.s _ (HR1.out.off hS) (HR2.out.off hS)) ?_
        rintro e0 w3 ⟨rfl, o3⟩
        rw [HSS.out]
        refine hK'.out _ _ (hS.trans o3 (fun _ _ h => h)) (fun hS => ?_)
        clear hK' K' o3
        refine take_at (i := 19) 184 (v := .bool true) rfl rfl (by kernel_rfl) (by kernel_rfl) (by kernel_rfl) (fun _ _ _ h => h) (Or.inl ⟨by rfl, fun w' hw' => by go_simp⟩) hS ?_
        simp only [Act.put, lsA, lsZ, lsS]
        refine take_at (i := 20) 185 (v := .bool true) rfl rfl (by kernel_rfl) (by kernel_rfl) (by kernel_rfl) (fun _ _ _ h => h) (Or.inl ⟨by rfl, fun w' hw' => by go_simp⟩) hS ?_
        simp only [Act.put, lsA, lsZ, lsS]
        refine take_at (i := 21) 186 (v := .bool true) rfl rfl (by kernel_rfl) (by kernel_rfl) (by kernel_rfl) (fun _ _ _ h => h) (Or.inl ⟨by rfl, fun w' hw' => by go_simp⟩) hS ?_
        simp only [Act.put, lsA, lsZ, lsS]
        refine wpAnyH_ready (rs := [22]) (by kernel_rfl) (by simp) ?_
        refine AllReadyH.cons rfl (fun K' hK' => ?_) AllReadyH.nil
        go_simp
        refine Calls.mono (awake_any _) ?_
        rintro e0 w3 ⟨rfl, o3⟩
        refine hK'.out _ _ (hS.trans o3 (fun _ _ h => h)) (fun hS => ?_)
        clear hK' K' o3
        refine take_at (i := 23) 188 (v := .bool true) rfl rfl (by kernel_rfl) (by kernel_rfl) (by kernel_rfl) (fun _ _ _ h => h) (Or.inl ⟨by rfl, fun w' hw' => by go_simp⟩) hS ?_
        simp only [Act.put, lsA, lsZ, lsS]
        refine take_at (i := 24) 8 (v := .bool true) rfl rfl (by kernel_rfl) (by kernel_rfl) (by kernel_rfl) (fun _ _ _ h => h) (Or.inl ⟨by rfl, fun w' hw' => by go_simp⟩) hS ?_
        simp only [Act.put, lsA, lsZ, lsS]
        refine wpAnyH_done (by kernel_rfl) ?_ _
        have HO9 : Hid _ := HO8.out.trans hS (fun _ _ h => h)
        clear hS
        go_wp2_with fail
        go_ret
        exact ⟨rfl, HO9.out⟩
end Go.Proofs.Ytmjmgdbhmbjmaab
