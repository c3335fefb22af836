/- The walk of SibsOwn. -/
import Derived.Test.YtfkpnmmcdhibbabOwnP
import Derived.Test.YtfkpnmmcdhibbabOrdQ
import Derived.Test.YtfkpnmmcdhibbabArg5
import Derived.Deep.Cut
namespace Go.Proofs.Ytfkpnmmcdhibbab
open Go.RowKit

set_option maxRecDepth 100000 in
set_option maxHeartbeats 8000000 in
theorem own_walk (f : Nat → Int) (a : Option Addr) (ca : Nat) (l : List V) (g : Nat → Int) (b : Option Addr) (cb : Nat) (k : List V) (da : Option Addr) (dc : Nat) (ds : List Nat) (w : World)
    (_ : ∀ j, j < 8 → -9223372036854775808 ≤ f j ∧ f j ≤ 9223372036854775807) (ra : Row w a ca l) (_ : ∀ j, j < 8 → -9223372036854775808 ≤ g j ∧ g j ≤ 9223372036854775807) (rb : Row w b cb k) (hd : ArgB w da ds.length dc ds) :
    Calls Try.prog 8 #[.agg #[.int .i64 (f 0), .int .i64 (f 1), .int .i64 (f 2), .int .i64 (f 3), .int .i64 (f 4), .int .i64 (f 5), .int .i64 (f 6), .int .i64 (f 7), .slice a l.length ca], .agg #[.int .i64 (g 0), .int .i64 (g 1), .int .i64 (g 2), .int .i64 (g 3), .int .i64 (g 4), .int .i64 (g 5), .int .i64 (g 6), .int .i64 (g 7), .slice b k.length cb], .slice da ds.length dc] w fun e w' => e = .returned (.bool true) ∧ Off (fun _ => False) w w' := by
  have hnot := not_any
  obtain ⟨W, hW⟩ : ∃ W, W = ((w.alloc (.cells #[.int .i64 (f 0), .int .i64 (f 1), .int .i64 (f 2), .int .i64 (f 3), .int .i64 (f 4), .int .i64 (f 5), .int .i64 (f 6), .int .i64 (f 7), .slice a l.length ca] 26)).alloc (.cells #[.int .i64 (g 0), .int .i64 (g 1), .int .i64 (g 2), .int .i64 (g 3), .int .i64 (g 4), .int .i64 (g 5), .int .i64 (g 6), .int .i64 (g 7), .slice b k.length cb] 26)) := ⟨_, rfl⟩
  have O : Off (fun _ => False) w W := by rw [hW]; exact ((Off.refl _ w).alloc _).alloc _
  have C0 : Cel w.heap.size 26 #[.int .i64 (f 0), .int .i64 (f 1), .int .i64 (f 2), .int .i64 (f 3), .int .i64 (f 4), .int .i64 (f 5), .int .i64 (f 6), .int .i64 (f 7), .slice a l.length ca] W := by rw [hW]; exact (Cel.new w _ _).alloc _
  have C1 : Cel (w.heap.size + 1) 26 #[.int .i64 (g 0), .int .i64 (g 1), .int .i64 (g 2), .int .i64 (g 3), .int .i64 (g 4), .int .i64 (g 5), .int .i64 (g 6), .int .i64 (g 7), .slice b k.length cb] W := by rw [hW]; exact Cel.new1 w _ _ _
  have HW : Hid _ := hW.symm
  have H0 : Hid _ := C0
  have H1 : Hid _ := C1
  have HO : Hid _ := O
  have HR1 : Hid _ := ra.off O
  have HR2 : Hid _ := rb.off O
  have HD : Hid _ := hd.src
  have HB : Hid _ := And.intro hd.lt hd.bound
  clear hW C0 C1 O ra rb hd
  cases m1 : mayS f (cont l)
  · go_enter Try.func8, Try.ntmps8
    go_wp2_with fail
    rw [HW.out]
    generalize hq1 : w.heap.size + 1 = q1 at H1 ⊢
    generalize hq0 : w.heap.size = q0 at H0 ⊢
    clear hq0 hq1
    refine (gmay_any f a ca l _ HR1.out).mono ?_
    rw [m1]
    rintro e w1 ⟨rfl, o1⟩
    go_wp2_with fail
    refine (awake_any _).mono ?_
    rintro e w9 ⟨rfl, o9⟩
    go_wp2_with fail
    go_ret
    exact ⟨rfl, HO.out.trans (o1.trans o9 (fun _ _ h => h)) (fun _ _ h => h)⟩
  cases m2 : mayS g (cont k)
  · go_enter Try.func8, Try.ntmps8
    go_wp2_with fail
    rw [HW.out]
    generalize hq1 : w.heap.size + 1 = q1 at H1 ⊢
    generalize hq0 : w.heap.size = q0 at H0 ⊢
    clear hq0 hq1
    refine (gmay_any f a ca l _ HR1.out).mono ?_
    rw [m1]
    rintro e w1 ⟨rfl, o1⟩
    have y1 := cel9 (H1.out.off o1 (fun h => h))
    obtain ⟨y0, y1, y2, y3, y4, y5, y6, y7, y8⟩ := y1
    go_wp2_with fail
    refine (gmay_any g b cb k _ (HR2.out.off o1)).mono ?_
    rw [m2]
    rintro e w2 ⟨rfl, o2⟩
    have O2 := o1.trans o2 (fun _ _ h => h)
    clear o1 o2 y0 y1 y2 y3 y4 y5 y6 y7 y8
    go_wp2_with fail
    refine (awake_any _).mono ?_
    rintro e w9 ⟨rfl, o9⟩
    go_wp2_with fail
    go_ret
    exact ⟨rfl, HO.out.trans (O2.trans o9 (fun _ _ h => h)) (fun _ _ h => h)⟩
  have HMA : Hid _ := may_iff.1 m1
  by_cases b0 : 50 < ds.length
  · have t0 : decide ((50 : Int) < (ds.length : Int)) = true := decide_eq_true (by omega)
    have s0 : decide (50 < ds.length) = true := decide_eq_true (by omega)
    go_enter Try.func8, Try.ntmps8
    go_wp2_with fail
    rw [HW.out]
    generalize hq1 : w.heap.size + 1 = q1 at H1 ⊢
    generalize hq0 : w.heap.size = q0 at H0 ⊢
    clear hq0 hq1
    refine (gmay_any f a ca l _ HR1.out).mono ?_
    rw [m1]
    rintro e w1 ⟨rfl, o1⟩
    have y1 := cel9 (H1.out.off o1 (fun h => h))
    obtain ⟨y0, y1, y2, y3, y4, y5, y6, y7, y8⟩ := y1
    go_wp2_with fail
    refine (gmay_any g b cb k _ (HR2.out.off o1)).mono ?_
    rw [m2]
    rintro e w2 ⟨rfl, o2⟩
    have O2 := o1.trans o2 (fun _ _ h => h)
    clear o1 o2 y0 y1 y2 y3 y4 y5 y6 y7 y8
    go_wp2_with fail
    refine (awake_any _).mono ?_
    rintro e w9 ⟨rfl, o9⟩
    go_wp2_with fail
    go_ret
    exact ⟨rfl, HO.out.trans (O2.trans o9 (fun _ _ h => h)) (fun _ _ h => h)⟩
  have t0 : decide ((50 : Int) < (ds.length : Int)) = false := decide_eq_false (by omega)
  have s0 : decide (50 < ds.length) = false := decide_eq_false (by omega)
  go_enter Try.func8, Try.ntmps8
  go_wp2_with fail
  rw [HW.out]
  generalize hq1 : w.heap.size + 1 = q1 at H1 ⊢
  generalize hq0 : w.heap.size = q0 at H0 ⊢
  clear hq0 hq1
  refine (gmay_any f a ca l _ HR1.out).mono ?_
  rw [m1]
  rintro e w1 ⟨rfl, o1⟩
  have y1 := cel9 (H1.out.off o1 (fun h => h))
  obtain ⟨y0, y1, y2, y3, y4, y5, y6, y7, y8⟩ := y1
  go_wp2_with fail
  refine (gmay_any g b cb k _ (HR2.out.off o1)).mono ?_
  rw [m2]
  rintro e w2 ⟨rfl, o2⟩
  have O2 := o1.trans o2 (fun _ _ h => h)
  clear o1 o2 y0 y1 y2 y3 y4 y5 y6 y7 y8
  have HO2 : Hid _ := O2
  have HL0 : Hid (OwnR (w2.alloc (.cells #[] 5)) (some ⟨w2.heap.size, 0, none⟩) 0 []) := ⟨World.ownsRow_lit w2 #[] 0 (Nat.zero_le _) (by decide) rfl⟩
  have o20 : Off (fun _ => False) w2 (w2.alloc (.cells #[] 5)) := (Off.refl _ w2).alloc _
  have HO20 : Hid _ := o20
  clear O2 o20
  go_upto_region 4 with (at_builtin; refine wpList_app rfl (.tmp 30) (.tmp 31) rfl _ 0 [] rfl HL0.out da dc ds rfl (HD.out.off (HO.out.trans (HO2.out.trans HO20.out (fun _ _ h => h)) (fun _ _ h => h)) (fun _ _ _ h => h)) (by simp; omega) ?_; intro tm cm w3 ym hym own3 off3 at3)
  have HYM : Hid (ym = ds) := by show ym = ds; rw [hym.out]; simp
  have o3 : Off (fun _ => False) w2 w3 := by
    have := (HO20.out.mono (E := fun c => w2.heap.size ≤ c) (fun _ _ h => h.elim)).trans off3 (fun i _ h => by simp [blk] at h; omega)
    exact this.mono (fun i hi h => by omega)
  have HO3 : Hid _ := HO2.out.trans o3 (fun _ _ h => h)
  have HOM : Hid _ := own3
  have HTM : Hid (∀ c, blk tm = some c → w2.heap.size ≤ c) := fun c hc => by
    rcases at3 with e | e <;> (rw [e] at hc; simp [blk] at hc; omega)
  have HTM3 : Hid (∀ c, blk tm = some c → c < w3.heap.size) := own3.lt
  have HZ23 : Hid (w2.heap.size ≤ w3.heap.size) := o3.size
  clear own3 off3 at3 hym o3 HL0 HO20
  have HLM : Hid (∀ x ∈ ym, x < 256) := by show ∀ x ∈ ym, x < 256; rw [HYM.out]; exact HB.out.1
  have HLN : Hid (ym.length ≤ 140737488351232) := by show ym.length ≤ _; rw [HYM.out]; exact HB.out.2
  have HLK : Hid (ym.length ≤ 200) := by show ym.length ≤ _; rw [HYM.out]; omega
  obtain ⟨x0, x1, x2, x3, x4, x5, x6, x7, x8⟩ := cel9 (H0.out.off HO3.out (fun h => h))
  go_wp2_with fail
  clear x0 x1 x2 x3 x4 x5 x6 x7 x8
  refine (sput_any f f a ca l 0 (by omega) tm cm ym false _ (HR1.out.off HO3.out) HOM.out.src HLM.out HLN.out).mono ?_
  rintro e w4 ⟨fp, ap, cp, lp, er, rfl, her, hfp, hlp, mdp, o4⟩
  have HER : Hid _ := her
  have HFP : Hid _ := hfp
  have HLP : Hid _ := hlp
  have HMP4 : Hid _ := mdp
  clear her hfp hlp mdp
  go_upto_region 5 with fail
  have Cqx := Cel.new w4 26 #[.int .i64 (fp 0), .int .i64 (fp 1), .int .i64 (fp 2), .int .i64 (fp 3), .int .i64 (fp 4), .int .i64 (fp 5), .int .i64 (fp 6), .int .i64 (fp 7), .slice ap lp.length cp]
  have OA : Off (fun _ => False) w4 (w4.alloc (.cells #[.int .i64 (fp 0), .int .i64 (fp 1), .int .i64 (fp 2), .int .i64 (fp 3), .int .i64 (fp 4), .int .i64 (fp 5), .int .i64 (fp 6), .int .i64 (fp 7), .slice ap lp.length cp] 26)) := (Off.refl _ w4).alloc _
  have Sqx : w4.heap.size < (w4.alloc (.cells #[.int .i64 (fp 0), .int .i64 (fp 1), .int .i64 (fp 2), .int .i64 (fp 3), .int .i64 (fp 4), .int .i64 (fp 5), .int .i64 (fp 6), .int .i64 (fp 7), .slice ap lp.length cp] 26)).heap.size := by simp [World.size_alloc]
  generalize hq : w4.heap.size = qx at Cqx Sqx ⊢
  have hq2 : w4.heap.size ≤ qx := by omega
  generalize hv : w4.alloc (.cells #[.int .i64 (fp 0), .int .i64 (fp 1), .int .i64 (fp 2), .int .i64 (fp 3), .int .i64 (fp 4), .int .i64 (fp 5), .int .i64 (fp 6), .int .i64 (fp 7), .slice ap lp.length cp] 26) = Vqx at Cqx OA Sqx ⊢
  clear hq hv
  have HMP : Hid _ := HMP4.out.off OA
  have HGX : Hid _ := Cqx
  have HO5 : Hid _ := HO3.out.trans (o4.trans OA (fun _ _ h => h)) (fun _ _ h => h)
  have HOM5 : Hid _ := HOM.out.off (o4.trans OA (fun _ _ h => h)) (fun _ _ _ h => h)
  have HZ3x : Hid (w3.heap.size ≤ qx ∧ qx < Vqx.heap.size) := ⟨by have := o4.size; omega, Sqx⟩
  clear Cqx OA o4 HMP4 HOM Sqx hq2
  obtain ⟨x0, x1, x2, x3, x4, x5, x6, x7, x8⟩ := cel9 (H0.out.off HO5.out (fun h => h))
  obtain ⟨y0, y1, y2, y3, y4, y5, y6, y7, y8⟩ := cel9 (H1.out.off HO5.out (fun h => h))
  go_wp2_with fail
  clear x0 x1 x2 x3 x4 x5 x6 x7 x8 y0 y1 y2 y3 y4 y5 y6 y7 y8
  refine (sjoin_any f g a b ca cb l k _ (HR1.out.off HO5.out) (HR2.out.off HO5.out)).mono ?_
  rintro e w5 ⟨fy, ay, cy, ly, rfl, hfy, hly, mdy, o5⟩
  have HMY5 : Hid _ := mdy
  have HLY : Hid (∀ v ∈ ly, ∀ c, blk v.ad = some c → Vqx.heap.size ≤ c ∧ c < w5.heap.size) := fun v hv c hc => ⟨((mdy.own v hv).2 c hc).1, (mdy.own v hv).1.lt c hc⟩
  clear hfy hly mdy
  go_upto_region 6 with fail
  have Cqy := Cel.new w5 26 #[.int .i64 (fy 0), .int .i64 (fy 1), .int .i64 (fy 2), .int .i64 (fy 3), .int .i64 (fy 4), .int .i64 (fy 5), .int .i64 (fy 6), .int .i64 (fy 7), .slice ay ly.length cy]
  have OA : Off (fun _ => False) w5 (w5.alloc (.cells #[.int .i64 (fy 0), .int .i64 (fy 1), .int .i64 (fy 2), .int .i64 (fy 3), .int .i64 (fy 4), .int .i64 (fy 5), .int .i64 (fy 6), .int .i64 (fy 7), .slice ay ly.length cy] 26)) := (Off.refl _ w5).alloc _
  have Sqy : w5.heap.size < (w5.alloc (.cells #[.int .i64 (fy 0), .int .i64 (fy 1), .int .i64 (fy 2), .int .i64 (fy 3), .int .i64 (fy 4), .int .i64 (fy 5), .int .i64 (fy 6), .int .i64 (fy 7), .slice ay ly.length cy] 26)).heap.size := by simp [World.size_alloc]
  generalize hq : w5.heap.size = qy at Cqy Sqy ⊢
  have hq2 : w5.heap.size ≤ qy := by omega
  generalize hv : w5.alloc (.cells #[.int .i64 (fy 0), .int .i64 (fy 1), .int .i64 (fy 2), .int .i64 (fy 3), .int .i64 (fy 4), .int .i64 (fy 5), .int .i64 (fy 6), .int .i64 (fy 7), .slice ay ly.length cy] 26) = Vqy at Cqy OA Sqy ⊢
  clear hq hv
  have HMY : Hid _ := HMY5.out.off OA
  have HGY : Hid _ := Cqy
  have HZxy : Hid (Vqx.heap.size ≤ w5.heap.size ∧ w5.heap.size ≤ qy ∧ qy < Vqy.heap.size) := ⟨o5.size, hq2, Sqy⟩
  have HOXY : Hid _ := o5.trans OA (fun _ _ h => h)
  clear Cqy OA o5 HMY5 Sqy hq2
  have HO6 : Hid _ := HO5.out.trans HOXY.out (fun _ _ h => h)
  obtain ⟨x0, x1, x2, x3, x4, x5, x6, x7, x8⟩ := cel9 (H0.out.off HO6.out (fun h => h))
  obtain ⟨y0, y1, y2, y3, y4, y5, y6, y7, y8⟩ := cel9 (H1.out.off HO6.out (fun h => h))
  go_wp2_with fail
  clear x0 x1 x2 x3 x4 x5 x6 x7 x8 y0 y1 y2 y3 y4 y5 y6 y7 y8
  refine (sjoin_any f g a b ca cb l k _ (HR1.out.off HO6.out) (HR2.out.off HO6.out)).mono ?_
  rintro e w6 ⟨fz, az, cz, lz, rfl, hfz, hlz, mdz, o6⟩
  have HFZ : Hid _ := hfz
  have HLZ : Hid _ := hlz
  have HMZ6 : Hid _ := mdz
  clear hfz hlz mdz
  go_upto_region 7 with fail
  have Cqz := Cel.new w6 26 #[.int .i64 (fz 0), .int .i64 (fz 1), .int .i64 (fz 2), .int .i64 (fz 3), .int .i64 (fz 4), .int .i64 (fz 5), .int .i64 (fz 6), .int .i64 (fz 7), .slice az lz.length cz]
  have OA : Off (fun _ => False) w6 (w6.alloc (.cells #[.int .i64 (fz 0), .int .i64 (fz 1), .int .i64 (fz 2), .int .i64 (fz 3), .int .i64 (fz 4), .int .i64 (fz 5), .int .i64 (fz 6), .int .i64 (fz 7), .slice az lz.length cz] 26)) := (Off.refl _ w6).alloc _
  have Sqz : w6.heap.size < (w6.alloc (.cells #[.int .i64 (fz 0), .int .i64 (fz 1), .int .i64 (fz 2), .int .i64 (fz 3), .int .i64 (fz 4), .int .i64 (fz 5), .int .i64 (fz 6), .int .i64 (fz 7), .slice az lz.length cz] 26)).heap.size := by simp [World.size_alloc]
  generalize hq : w6.heap.size = qz at Cqz Sqz ⊢
  have hq2 : w6.heap.size ≤ qz := by omega
  generalize hv : w6.alloc (.cells #[.int .i64 (fz 0), .int .i64 (fz 1), .int .i64 (fz 2), .int .i64 (fz 3), .int .i64 (fz 4), .int .i64 (fz 5), .int .i64 (fz 6), .int .i64 (fz 7), .slice az lz.length cz] 26) = Vqz at Cqz OA Sqz ⊢
  clear hq hv
  have HMZ : Hid _ := HMZ6.out.off OA
  have HGZ : Hid _ := Cqz
  have HZyz : Hid (Vqy.heap.size ≤ qz) := by have := o6.size; show _ ≤ _; omega
  have HOYZ : Hid _ := o6.trans OA (fun _ _ h => h)
  clear Cqz OA o6 HMZ6 Sqz hq2
  have HOXZ : Hid _ := HOXY.out.trans HOYZ.out (fun _ _ h => h)
  have HBM : Hid (ByS Vqz tm ym.length) := ByS.of (HOM5.out.off HOXZ.out (fun _ _ _ h => h)) HLM.out
  have HMY7 : Hid _ := HMY.out.off HOYZ.out
  have HGY7 : Hid _ := HGY.out.off HOYZ.out (fun h => h)
  clear HOM5 HMY HGY
  have HO7 : Hid _ := HO5.out.trans HOXZ.out (fun _ _ h => h)
  go_wp2_with fail
  go_loopw [49] (fun y wr => ∃ i : Nat, y = .int .i64 (i : Int) ∧ i ≤ ym.length ∧ ByS wr tm ym.length ∧ Off (fun c => blk tm = some c) Vqz wr) (fun y _ => (ym.length - intOf y).toNat)
  case atStart => exact ⟨0, rfl, by omega, HBM.out, Off.refl _ _⟩
  case round =>
    obtain ⟨i, rfl, hi, hbs, oo⟩ := hrel
    have HBS : Hid _ := hbs
    have HOO : Hid _ := oo
    clear hbs oo
    by_cases hlt : i < ym.length
    · have e1 : decide ((i : Int) < (ym.length : Int)) = true := decide_eq_true (by omega)
      have e2 : decide (i < ym.length) = true := decide_eq_true hlt
      obtain ⟨gm, t, cs, u, htm, hc, hx, hu⟩ := HBS.out.at_ i hlt
      have k1 := (hc.cell i).trans hx
      have fr := hc.free
      clear hc hx
      subst htm
      have hb : ym.length ≤ 200 := HLK.out
      go_wp2_with fail
      go_roundw
      case rel => exact ⟨i + 1, by go_num, by omega, HBS.out.set gm i ⟨(u + 1) % 256, by first | omega | (rw [IntKind.wrap_u8]; omega), by omega⟩, HOO.out.setCell (p := ⟨gm, i, none⟩) (.inl rfl) _⟩
      case measure => simp [intOf]; omega
    · have e1 : decide ((i : Int) < (ym.length : Int)) = false := decide_eq_false (by omega)
      have e2 : decide (i < ym.length) = false := decide_eq_false hlt
      obtain ⟨W1, hW1⟩ : ∃ W1, W1 = wr := ⟨_, rfl⟩
      rw [← hW1] at HOO HBS ⊢
      clear hW1 HBS wr
      have HMY1 : Hid _ := HMY7.out.offN HOO.out (fun c hc e => by have := HTM3.out c e; have := HZ3x.out; omega)
      have HGY1 : Hid _ := HGY7.out.off HOO.out (fun e => by have := HTM3.out _ e; have := HZ3x.out; have := HZxy.out; omega)
      have HAP : Hid (∀ v ∈ ly, ∀ c, blk v.ad = some c → blk ay ≠ some c) := fun v hv c hc => ((HMY1.out.own v hv).2 c hc).2
      have HBY : Hid (∀ v ∈ ly, ByS W1 v.ad v.data.length) := fun v hv => ByS.of (HMY1.out.own v hv).1 (by
        obtain ⟨i, hi⟩ := List.getElem?_of_mem hv
        obtain ⟨-, -, -, -, ok⟩ := HMY1.out.row.at_ i v hi
        exact ok.lt)
      have HSZ1 : Hid (w5.heap.size ≤ W1.heap.size) := by have := HOO.out.size; have := HOYZ.out.size; have := HZxy.out; show _ ≤ _; omega
      obtain ⟨x0, x1, x2, x3, x4, x5, x6, x7, x8⟩ := cel9 HGY1.out
      go_wp2_with fail
      clear x0 x1 x2 x3 x4 x5 x6 x7 x8
      go_loopw [62] (fun y wr => ∃ n : Nat, y = .int .i64 (n : Int) ∧ n ≤ ly.length ∧ (∀ v ∈ ly, ByS wr v.ad v.data.length) ∧ Off (fun c => ∃ v ∈ ly, blk v.ad = some c) W1 wr) (fun y _ => (ly.length - intOf y).toNat)
      case atStart => exact ⟨0, rfl, by omega, HBY.out, Off.refl _ _⟩
      case round =>
        obtain ⟨n, rfl, hn, hbs, oo⟩ := hrel
        have HBS : Hid _ := hbs
        have HPP : Hid _ := oo
        clear hbs oo
        by_cases hln : n < ly.length
        · have n1 : decide ((n : Int) < (ly.length : Int)) = true := decide_eq_true (by omega)
          have n2 : decide (n < ly.length) = true := decide_eq_true hln
          obtain ⟨v, hv⟩ : ∃ v, ly[n]? = some v := ⟨_, List.getElem?_eq_getElem hln⟩
          have HVM : Hid (v ∈ ly) := List.mem_of_getElem? hv
          obtain ⟨ba, fa, hay, h4, hok⟩ := HMY1.out.row.at_ n v hv
          have hvl := hok.len
          have hlb : ly.length ≤ 9223372036854775807 := by have := HMY1.out.row.len; have := HMY1.out.row.bound; omega
          clear hok
          have g4 : At4 wr ba (fa + n * 4) v := h4.off HPP.out (fun _ e => by
            obtain ⟨v', hv', e⟩ := e
            exact HAP.out v' hv' ba e (by rw [hay]; rfl))
          obtain ⟨c0, c1, c2, c3⟩ := g4
          clear hv h4
          subst hay
          go_upto_region 15 with fail
          have Cqv := Cel.new wr 34 #[.int .i64 v.node, .int .i64 v.num, .slice v.ad v.data.length v.cap, .bool v.dead]
          have OA : Off (fun _ => False) wr (wr.alloc (.cells #[.int .i64 v.node, .int .i64 v.num, .slice v.ad v.data.length v.cap, .bool v.dead] 34)) := (Off.refl _ wr).alloc _
          have Sqv : wr.heap.size < (wr.alloc (.cells #[.int .i64 v.node, .int .i64 v.num, .slice v.ad v.data.length v.cap, .bool v.dead] 34)).heap.size := by simp [World.size_alloc]
          generalize hq : wr.heap.size = qv at Cqv Sqv ⊢
          have hq2 : wr.heap.size ≤ qv := by omega
          generalize hv : wr.alloc (.cells #[.int .i64 v.node, .int .i64 v.num, .slice v.ad v.data.length v.cap, .bool v.dead] 34) = Vqv at Cqv OA Sqv ⊢
          clear hq hv
          have HGV : Hid _ := Cqv
          have HB2 : Hid (∀ v ∈ ly, ByS Vqv v.ad v.data.length) := fun u hu => (HBS.out u hu).off OA (fun _ _ h => h)
          have HP2 : Hid _ := HPP.out.trans OA (fun _ _ h => h.elim)
          have HSV : Hid (W1.heap.size ≤ qv) := by have := HPP.out.size; show _ ≤ _; omega
          clear Cqv OA Sqv hq2 c0 c1 c2 c3 HBS HPP
          obtain ⟨c0, c1, c2, c3⟩ := cel4 HGV.out
          go_wp2_with fail
          clear c0 c1 c2 c3
          obtain ⟨wo, hwo⟩ : ∃ wo : World, wo = wr := ⟨_, rfl⟩
          clear hwo
          go_loopw [69] (fun y wr => ∃ j : Nat, y = .int .i64 (j : Int) ∧ j ≤ v.data.length ∧ Cel qv 34 #[.int .i64 v.node, .int .i64 v.num, .slice v.ad v.data.length v.cap, .bool v.dead] wr ∧ (∀ v ∈ ly, ByS wr v.ad v.data.length) ∧ Off (fun c => ∃ v ∈ ly, blk v.ad = some c) W1 wr) (fun y _ => (v.data.length - intOf y).toNat)
          case atStart => exact ⟨0, rfl, by omega, HGV.out, HB2.out, HP2.out⟩
          case round =>
            obtain ⟨j, rfl, hj, hgv, hbs, oo⟩ := hrel
            have HG3 : Hid _ := hgv
            have HB3 : Hid _ := hbs
            have HP3 : Hid _ := oo
            clear hgv hbs oo
            by_cases hlj : j < v.data.length
            · have j1 : decide ((j : Int) < (v.data.length : Int)) = true := decide_eq_true (by omega)
              have j2 : decide (j < v.data.length) = true := decide_eq_true hlj
              obtain ⟨gv, t, cs, u, hvad, hc, hx, hu⟩ := HB3.out v HVM.out |>.at_ j hlj
              have k1 := (hc.cell j).trans hx
              have fr := hc.free
              have HGL : Hid (gv < W1.heap.size) := by have := (HLY.out v HVM.out gv (by rw [hvad]; rfl)).2; have := HSZ1.out; show _ < _; omega
              have HGD : Hid (∃ v ∈ ly, blk v.ad = some gv) := ⟨v, HVM.out, by rw [hvad]; rfl⟩
              clear hc hx
              obtain ⟨c0, c1, c2, c3⟩ := cel4 HG3.out
              rw [hvad] at c2
              obtain ⟨x, hxo, hx2⟩ := xor_one hu
              go_wp2_with fail
              go_roundw
              case rel => exact ⟨j + 1, by go_num, by omega, HG3.out.other (by have := HGL.out; have := HSV.out; show qv ≠ gv; omega) _, fun v' hv' => (HB3.out v' hv').set gv j ⟨x, by first | rfl | exact hxo | omega, hx2⟩, HP3.out.setCell (p := ⟨gv, j, none⟩) (.inl HGD.out) _⟩
              case measure => simp [intOf]; omega
            · have j1 : decide ((j : Int) < (v.data.length : Int)) = false := decide_eq_false (by omega)
              have j2 : decide (j < v.data.length) = false := decide_eq_false hlj
              go_wp2_with fail
              go_roundw
              case rel => exact ⟨n + 1, by go_num, by omega, HB3.out, HP3.out⟩
              case measure => simp [intOf]; omega
        · have n1 : decide ((n : Int) < (ly.length : Int)) = false := decide_eq_false (by omega)
          have n2 : decide (n < ly.length) = false := decide_eq_false hln
          obtain ⟨W2, hW2⟩ : ∃ W2, W2 = wr := ⟨_, rfl⟩
          rw [← hW2] at HPP ⊢
          clear hW2 HBS wr
          have HOE : Hid (Off (fun _ => False) W W2) := by
            have h1 := HO7.out.trans HOO.out (fun i hi e => by have := HTM.out i e; have := HO2.out.size; omega)
            exact h1.trans HPP.out (fun i hi e => by obtain ⟨v, hv, e⟩ := e; have := (HLY.out v hv i e).1; have := HO5.out.size; omega)
          have OX : Off (fun c => blk tm = some c) Vqx W2 := ((HOXZ.out.mono (E := fun c => blk tm = some c) (fun _ _ h => h.elim)).trans HOO.out (fun _ _ h => h)).trans HPP.out (fun i hi e => by obtain ⟨v, hv, e⟩ := e; have := (HLY.out v hv i e).1; omega)
          have OZ : Off (fun c => blk tm = some c ∨ ∃ v ∈ ly, blk v.ad = some c) Vqz W2 := (HOO.out.mono (fun _ _ h => .inl h)).trans HPP.out (fun _ _ h => .inr h)
          have HRX : Hid _ := (HMP.out.offN OX (fun c hc e => by have := HTM3.out c e; omega)).row
          have GX : Hid _ := HGX.out.off OX (fun e => by have := HTM3.out _ e; have := HZ3x.out; omega)
          have hno : ∀ c, Vqy.heap.size ≤ c → ¬ (blk tm = some c ∨ ∃ v ∈ ly, blk v.ad = some c) := fun c hc e => by
            have h1 := HZ3x.out
            have h2 := HZxy.out
            rcases e with e | ⟨v, hv, e⟩
            · have := HTM3.out c e
              omega
            · have := (HLY.out v hv c e).2
              omega
          have HRZ : Hid _ := (HMZ.out.offN OZ hno).row
          have GZ : Hid _ := HGZ.out.off OZ (hno _ HZyz.out)
          have G0 : Hid _ := H0.out.off HOE.out (fun h => h)
          have G1 : Hid _ := H1.out.off HOE.out (fun h => h)
          have HRA : Hid _ := HR1.out.off HOE.out
          have HRB : Hid _ := HR2.out.off HOE.out
          have HSD : Hid _ := HD.out.off (HO.out.trans HOE.out (fun _ _ h => h)) (fun _ _ _ h => h)
          clear OX OZ hno HMZ HMP HGX HGZ HOO HPP HBY HAP HMY1 HGY1 HSZ1 HMY7 HGY7 HO7 HBM HOXZ HOYZ HOXY HO6 HO5 HO3 HTM HTM3 HZ23 HZ3x HZxy HZyz HLY HLM HLN
          go_wp2_with fail
          refine wp_region_held_drew (S := fun w' => Off (fun _ => False) W2 w') (by kernel_rfl) ((Off.refl _ W2).drew) (fun hS => ?_)
          refine take_at (i := 0) 81 (v := .agg #[.int .i64 (f 0), .int .i64 (f 1), .int .i64 (f 2), .int .i64 (f 3), .int .i64 (f 4), .int .i64 (f 5), .int .i64 (f 6), .int .i64 (f 7), .slice a l.length ca]) rfl rfl (by kernel_rfl) (by kernel_rfl) (by kernel_rfl) (fun _ _ _ h => h) (Or.inl ⟨by rfl, fun w' hw' => by obtain ⟨x0, x1, x2, x3, x4, x5, x6, x7, x8⟩ := cel9 (G0.out.off hw' (fun h => h)); go_simp⟩) hS ?_
          simp only [Act.put, List.setIfInBounds_toArray, List.set_cons_zero, List.set_cons_succ]
          refine take_at (i := 1) 82 (v := .agg #[.int .i64 (g 0), .int .i64 (g 1), .int .i64 (g 2), .int .i64 (g 3), .int .i64 (g 4), .int .i64 (g 5), .int .i64 (g 6), .int .i64 (g 7), .slice b k.length cb]) rfl rfl (by kernel_rfl) (by kernel_rfl) (by kernel_rfl) (fun _ _ _ h => h) (Or.inl ⟨by rfl, fun w' hw' => by obtain ⟨x0, x1, x2, x3, x4, x5, x6, x7, x8⟩ := cel9 (G1.out.off hw' (fun h => h)); go_simp⟩) hS ?_
          simp only [Act.put, List.setIfInBounds_toArray, List.set_cons_zero, List.set_cons_succ]
          refine take_at (i := 3) 84 (v := .agg #[.int .i64 (fz 0), .int .i64 (fz 1), .int .i64 (fz 2), .int .i64 (fz 3), .int .i64 (fz 4), .int .i64 (fz 5), .int .i64 (fz 6), .int .i64 (fz 7), .slice az lz.length cz]) rfl rfl (by kernel_rfl) (by kernel_rfl) (by kernel_rfl) (fun _ _ _ h => h) (Or.inl ⟨by rfl, fun w' hw' => by obtain ⟨x0, x1, x2, x3, x4, x5, x6, x7, x8⟩ := cel9 (GZ.out.off hw' (fun h => h)); go_simp⟩) hS ?_
          simp only [Act.put, List.setIfInBounds_toArray, List.set_cons_zero, List.set_cons_succ]
          refine wpAnyH_ready (rs := [2]) (by kernel_rfl) (by simp) ?_
          refine AllReadyH.cons rfl (fun K' hK' => ?_) AllReadyH.nil
          go_simp
          refine (sjoin_any f g a b ca cb l k _ (HRA.out.off hS) (HRB.out.off hS)).mono ?_
          rintro e v2 ⟨fj, aj, cj, lj, rfl, hfj, hlj, mdj, o2⟩
          have hS1 := hS.trans o2 (fun _ _ h => h)
          refine hK'.out _ _ hS1 (fun hS => ?_)
          clear hK' K' hS1
          have HRJ : Hid _ := mdj.row
          have HSM : Hid (sameS fj fz (cont lj) (cont lz) = true) := by show _ = true; rw [hfj, HFZ.out, hlj, HLZ.out]; exact same_refl _ _
          clear hfj hlj mdj o2
          refine wpAnyH_ready (rs := [4]) (by kernel_rfl) (by simp) ?_
          refine AllReadyH.cons rfl (fun K' hK' => ?_) AllReadyH.nil
          go_simp
          refine (ssame_any fj fz aj az cj cz lj lz _ HRJ.out (HRZ.out.off hS)).mono ?_
          rw [HSM.out]
          rintro e v4 ⟨rfl, o4⟩
          have hS1 := hS.trans o4 (fun _ _ h => h)
          refine hK'.out _ _ hS1 (fun hS => ?_)
          clear hK' K' hS1
          clear o4
          refine take_at (i := 5) 86 (v := .bool false) rfl rfl (by kernel_rfl) (by kernel_rfl) (by kernel_rfl) (fun _ _ _ h => h) (Or.inl ⟨by rfl, fun w' hw' => by go_simp⟩) hS ?_
          simp only [Act.put, List.setIfInBounds_toArray, List.set_cons_zero, List.set_cons_succ]
          refine wpAnyH_done (by kernel_rfl) ?_ _
          go_wp2_with fail
          clear HSM HRJ G0 G1 GZ
          by_cases her0 : er = 0
          · subst her0
            have HLV : Hid ((if mayS fp (cont lp) = true then liveA (cont lp) else []) = [ym]) := by
              show _ = _
              obtain ⟨p1, p2⟩ := put_ok0 HMA.out HLK.out HER.out.symm
              rw [HFP.out, HLP.out, p1, p2]
              rfl
            refine wp_region_held_drew (S := fun w' => Off (fun _ => False) W2 w') (by kernel_rfl) (hS.drew) (fun hS => ?_)
            refine take_at (i := 0) 87 (v := .int .i64 0) rfl rfl (by kernel_rfl) (by kernel_rfl) (by kernel_rfl) (fun _ _ _ h => h) (Or.inl ⟨by rfl, fun w' hw' => by go_simp⟩) hS ?_
            simp only [Act.put, List.setIfInBounds_toArray, List.set_cons_zero, List.set_cons_succ]
            refine take_at (i := 1) 88 (v := .bool false) rfl rfl (by kernel_rfl) (by kernel_rfl) (by kernel_rfl) (fun _ _ _ h => h) (Or.inl ⟨by rfl, fun w' hw' => by go_simp⟩) hS ?_
            simp only [Act.put, List.setIfInBounds_toArray, List.set_cons_zero, List.set_cons_succ]
            refine take_at (i := 2) 89 (v := .bool false) rfl rfl (by kernel_rfl) (by kernel_rfl) (by kernel_rfl) (fun _ _ _ h => h) (Or.inl ⟨by rfl, fun w' hw' => by go_simp⟩) hS ?_
            simp only [Act.put, List.setIfInBounds_toArray, List.set_cons_zero, List.set_cons_succ]
            refine take_at (i := 3) 90 (v := .agg #[.int .i64 (fp 0), .int .i64 (fp 1), .int .i64 (fp 2), .int .i64 (fp 3), .int .i64 (fp 4), .int .i64 (fp 5), .int .i64 (fp 6), .int .i64 (fp 7), .slice ap lp.length cp]) rfl rfl (by kernel_rfl) (by kernel_rfl) (by kernel_rfl) (fun _ _ _ h => h) (Or.inl ⟨by rfl, fun w' hw' => by obtain ⟨x0, x1, x2, x3, x4, x5, x6, x7, x8⟩ := cel9 (GX.out.off hw' (fun h => h)); go_simp⟩) hS ?_
            simp only [Act.put, List.setIfInBounds_toArray, List.set_cons_zero, List.set_cons_succ]
            refine wpAnyH_ready (rs := [4]) (by kernel_rfl) (by simp) ?_
            refine AllReadyH.cons rfl (fun K' hK' => ?_) AllReadyH.nil
            go_simp
            refine (slive_any fp ap cp lp _ (HRX.out.off hS)).mono ?_
            rw [HLV.out]
            rintro e v4 ⟨tl, cl, bl, rfl, ol, sl, hbl, o4⟩
            have hS1 := hS.trans o4 (fun _ _ h => h)
            refine hK'.out _ _ hS1 (fun hS => ?_)
            clear hK' K' hS1
            have HB1 : Hid (((bl.length : Int) == 1) = true) := by have := congrArg List.length hbl; simp at this; show _ = true; rw [this]; rfl
            clear ol sl hbl o4
            refine take_at (i := 5) 92 (v := .int .i64 (bl.length : Int)) rfl rfl (by kernel_rfl) (by kernel_rfl) (by kernel_rfl) (fun _ _ _ h => h) (Or.inl ⟨by rfl, fun w' hw' => by go_simp⟩) hS ?_
            simp only [Act.put, List.setIfInBounds_toArray, List.set_cons_zero, List.set_cons_succ]
            refine take_at (i := 6) 93 (v := .bool true) rfl rfl (by kernel_rfl) (by kernel_rfl) (by kernel_rfl) (fun _ _ _ h => h) (Or.inl ⟨by rfl, fun w' hw' => by have e := HB1.out; go_simp⟩) hS ?_
            simp only [Act.put, List.setIfInBounds_toArray, List.set_cons_zero, List.set_cons_succ]
            refine take_at (i := 7) 94 (v := .bool true) rfl rfl (by kernel_rfl) (by kernel_rfl) (by kernel_rfl) (fun _ _ _ h => h) (Or.inl ⟨by rfl, fun w' hw' => by go_simp⟩) hS ?_
            simp only [Act.put, List.setIfInBounds_toArray, List.set_cons_zero, List.set_cons_succ]
            refine take_at (i := 8) 95 (v := .agg #[.int .i64 (fp 0), .int .i64 (fp 1), .int .i64 (fp 2), .int .i64 (fp 3), .int .i64 (fp 4), .int .i64 (fp 5), .int .i64 (fp 6), .int .i64 (fp 7), .slice ap lp.length cp]) rfl rfl (by kernel_rfl) (by kernel_rfl) (by kernel_rfl) (fun _ _ _ h => h) (Or.inl ⟨by rfl, fun w' hw' => by obtain ⟨x0, x1, x2, x3, x4, x5, x6, x7, x8⟩ := cel9 (GX.out.off hw' (fun h => h)); go_simp⟩) hS ?_
            simp only [Act.put, List.setIfInBounds_toArray, List.set_cons_zero, List.set_cons_succ]
            refine take_at (i := 13) 100 (v := .slice da ds.length dc) rfl rfl (by kernel_rfl) (by kernel_rfl) (by kernel_rfl) (fun _ _ _ h => h) (Or.inl ⟨by rfl, fun w' hw' => by go_simp⟩) hS ?_
            simp only [Act.put, List.setIfInBounds_toArray, List.set_cons_zero, List.set_cons_succ]
            refine take_at (i := 14) 101 (v := .string (strOf ds)) rfl rfl (by kernel_rfl) (by kernel_rfl) (by kernel_rfl) (fun _ _ _ h => h) (Or.inl ⟨by rfl, fun w' hw' => by have e := conv_src (HSD.out.off hw' (fun _ _ _ h => h)); go_simp⟩) hS ?_
            simp only [Act.put, List.setIfInBounds_toArray, List.set_cons_zero, List.set_cons_succ]
            refine wpAnyH_ready (rs := [9]) (by kernel_rfl) (by simp) ?_
            refine AllReadyH.cons rfl (fun K' hK' => ?_) AllReadyH.nil
            go_simp
            refine (slive_any fp ap cp lp _ (HRX.out.off hS)).mono ?_
            rw [HLV.out]
            rintro e v9 ⟨tk, ck, kl, rfl, ok, sk, hkl, o9⟩
            have hS1 := hS.trans o9 (fun _ _ h => h)
            refine hK'.out _ _ hS1 (fun hS => ?_)
            clear hK' K' hS1
            obtain ⟨r0, hr0⟩ : ∃ r0, kl = [r0] := by
              match kl, hkl with
              | [r0], _ => exact ⟨r0, rfl⟩
            obtain ⟨gk, rfl, hc2⟩ := ok.at_ bcs_len (i := 0) (x := r0) (by rw [hr0]; rfl)
            have HR0 : Hid (v9.cell? ⟨gk, 0, none⟩ = some (.slice r0.ad r0.data.length r0.cap)) := hc2 0 _ rfl
            have HSR : Hid (Src v9 r0.ad r0.cap r0.data) := (sk r0 (by rw [hr0]; simp)).1
            have HKL : Hid (kl.length = 1) := by show _ = 1; rw [hr0]; rfl
            have hrd : r0.data = ym := by rw [hr0] at hkl; simpa using hkl
            have HXQ : Hid (((strOf r0.data).toList == (strOf ds).toList) = true) := by show _ = true; rw [hrd, HYM.out]; simp
            clear ok sk hkl hr0 hc2 hrd o9
            refine take_at (i := 10) 97 (v := .pointer (some ⟨gk, 0, none⟩)) rfl rfl (by kernel_rfl) (by kernel_rfl) (by kernel_rfl) (fun _ _ _ h => h) (Or.inl ⟨by rfl, fun w' hw' => exec_idx rfl (idx_data 0 HKL.out (by decide) w')⟩) hS ?_
            simp only [Act.put, List.setIfInBounds_toArray, List.set_cons_zero, List.set_cons_succ]
            refine wpAnyH_ready (rs := [11]) (by kernel_rfl) (by simp) ?_
            refine AllReadyH.cons rfl (fun K' hK' => ?_) AllReadyH.nil
            have e := HR0.out
            go_simp
            refine hK'.out _ _ hS (fun hS => ?_)
            clear hK' K'
            refine wpAnyH_ready (rs := [12]) (by kernel_rfl) (by simp) ?_
            refine AllReadyH.cons rfl (fun K' hK' => ?_) AllReadyH.nil
            have e := conv_src HSR.out
            go_simp
            refine hK'.out _ _ hS (fun hS => ?_)
            clear hK' K'
            refine take_at (i := 15) 102 (v := .bool true) rfl rfl (by kernel_rfl) (by kernel_rfl) (by kernel_rfl) (fun _ _ _ h => h) (Or.inl ⟨by rfl, fun w' hw' => by have e := HXQ.out; go_simp⟩) hS ?_
            simp only [Act.put, List.setIfInBounds_toArray, List.set_cons_zero, List.set_cons_succ]
            refine take_at (i := 16) 103 (v := .bool true) rfl rfl (by kernel_rfl) (by kernel_rfl) (by kernel_rfl) (fun _ _ _ h => h) (Or.inl ⟨by rfl, fun w' hw' => by go_simp⟩) hS ?_
            simp only [Act.put, List.setIfInBounds_toArray, List.set_cons_zero, List.set_cons_succ]
            refine take_at (i := 17) 104 (v := .bool true) rfl rfl (by kernel_rfl) (by kernel_rfl) (by kernel_rfl) (fun _ _ _ h => h) (Or.inl ⟨by rfl, fun w' hw' => by go_simp⟩) hS ?_
            simp only [Act.put, List.setIfInBounds_toArray, List.set_cons_zero, List.set_cons_succ]
            refine take_at (i := 18) 105 (v := .bool true) rfl rfl (by kernel_rfl) (by kernel_rfl) (by kernel_rfl) (fun _ _ _ h => h) (Or.inl ⟨by rfl, fun w' hw' => by go_simp⟩) hS ?_
            simp only [Act.put, List.setIfInBounds_toArray, List.set_cons_zero, List.set_cons_succ]
            refine wpAnyH_ready (rs := [19]) (by kernel_rfl) (by simp) ?_
            refine AllReadyH.cons rfl (fun K' hK' => ?_) AllReadyH.nil
            go_simp
            refine (awake_any _).mono ?_
            rintro e v19 ⟨rfl, o19⟩
            have hS1 := hS.trans o19 (fun _ _ h => h)
            refine hK'.out _ _ hS1 (fun hS => ?_)
            clear hK' K' hS1
            clear o19
            refine take_at (i := 20) 107 (v := .bool true) rfl rfl (by kernel_rfl) (by kernel_rfl) (by kernel_rfl) (fun _ _ _ h => h) (Or.inl ⟨by rfl, fun w' hw' => by go_simp⟩) hS ?_
            simp only [Act.put, List.setIfInBounds_toArray, List.set_cons_zero, List.set_cons_succ]
            refine take_at (i := 21) 6 (v := .bool true) rfl rfl (by kernel_rfl) (by kernel_rfl) (by kernel_rfl) (fun _ _ _ h => h) (Or.inl ⟨by rfl, fun w' hw' => by go_simp⟩) hS ?_
            simp only [Act.put, List.setIfInBounds_toArray, List.set_cons_zero, List.set_cons_succ]
            refine wpAnyH_done (by kernel_rfl) ?_ _
            go_wp2_with fail
            go_ret
            exact ⟨rfl, HO.out.trans (HOE.out.trans hS (fun _ _ h => h)) (fun _ _ h => h)⟩
          · have HEN : Hid ((er != 0) = true) := by show _ = true; simp [her0]
            clear her0
            refine wp_region_held_drew (S := fun w' => Off (fun _ => False) W2 w') (by kernel_rfl) (hS.drew) (fun hS => ?_)
            refine take_at (i := 0) 87 (v := .int .i64 er) rfl rfl (by kernel_rfl) (by kernel_rfl) (by kernel_rfl) (fun _ _ _ h => h) (Or.inl ⟨by rfl, fun w' hw' => by go_simp⟩) hS ?_
            simp only [Act.put, List.setIfInBounds_toArray, List.set_cons_zero, List.set_cons_succ]
            refine take_at (i := 1) 88 (v := .bool true) rfl rfl (by kernel_rfl) (by kernel_rfl) (by kernel_rfl) (fun _ _ _ h => h) (Or.inl ⟨by rfl, fun w' hw' => by have e := HEN.out; go_simp⟩) hS ?_
            simp only [Act.put, List.setIfInBounds_toArray, List.set_cons_zero, List.set_cons_succ]
            refine take_at (i := 2) 89 (v := .bool true) rfl rfl (by kernel_rfl) (by kernel_rfl) (by kernel_rfl) (fun _ _ _ h => h) (Or.inl ⟨by rfl, fun w' hw' => by go_simp⟩) hS ?_
            simp only [Act.put, List.setIfInBounds_toArray, List.set_cons_zero, List.set_cons_succ]
            refine take_at (i := 3) 90 (v := undef) rfl rfl (by kernel_rfl) (by kernel_rfl) (by kernel_rfl) (fun _ _ _ h => h) (Or.inr ⟨by rfl, rfl⟩) hS ?_
            simp only [Act.put, List.setIfInBounds_toArray, List.set_cons_zero, List.set_cons_succ]
            refine take_at (i := 4) 91 (v := undef) rfl rfl (by kernel_rfl) (by kernel_rfl) (by kernel_rfl) (fun _ _ _ h => h) (Or.inr ⟨by rfl, rfl⟩) hS ?_
            simp only [Act.put, List.setIfInBounds_toArray, List.set_cons_zero, List.set_cons_succ]
            refine take_at (i := 5) 92 (v := undef) rfl rfl (by kernel_rfl) (by kernel_rfl) (by kernel_rfl) (fun _ _ _ h => h) (Or.inr ⟨by rfl, rfl⟩) hS ?_
            simp only [Act.put, List.setIfInBounds_toArray, List.set_cons_zero, List.set_cons_succ]
            refine take_at (i := 6) 93 (v := undef) rfl rfl (by kernel_rfl) (by kernel_rfl) (by kernel_rfl) (fun _ _ _ h => h) (Or.inr ⟨by rfl, rfl⟩) hS ?_
            simp only [Act.put, List.setIfInBounds_toArray, List.set_cons_zero, List.set_cons_succ]
            refine take_at (i := 7) 94 (v := undef) rfl rfl (by kernel_rfl) (by kernel_rfl) (by kernel_rfl) (fun _ _ _ h => h) (Or.inr ⟨by rfl, rfl⟩) hS ?_
            simp only [Act.put, List.setIfInBounds_toArray, List.set_cons_zero, List.set_cons_succ]
            refine take_at (i := 8) 95 (v := undef) rfl rfl (by kernel_rfl) (by kernel_rfl) (by kernel_rfl) (fun _ _ _ h => h) (Or.inr ⟨by rfl, rfl⟩) hS ?_
            simp only [Act.put, List.setIfInBounds_toArray, List.set_cons_zero, List.set_cons_succ]
            refine take_at (i := 9) 96 (v := undef) rfl rfl (by kernel_rfl) (by kernel_rfl) (by kernel_rfl) (fun _ _ _ h => h) (Or.inr ⟨by rfl, rfl⟩) hS ?_
            simp only [Act.put, List.setIfInBounds_toArray, List.set_cons_zero, List.set_cons_succ]
            refine take_at (i := 10) 97 (v := undef) rfl rfl (by kernel_rfl) (by kernel_rfl) (by kernel_rfl) (fun _ _ _ h => h) (Or.inr ⟨by rfl, rfl⟩) hS ?_
            simp only [Act.put, List.setIfInBounds_toArray, List.set_cons_zero, List.set_cons_succ]
            refine take_at (i := 11) 98 (v := undef) rfl rfl (by kernel_rfl) (by kernel_rfl) (by kernel_rfl) (fun _ _ _ h => h) (Or.inr ⟨by rfl, rfl⟩) hS ?_
            simp only [Act.put, List.setIfInBounds_toArray, List.set_cons_zero, List.set_cons_succ]
            refine take_at (i := 12) 99 (v := undef) rfl rfl (by kernel_rfl) (by kernel_rfl) (by kernel_rfl) (fun _ _ _ h => h) (Or.inr ⟨by rfl, rfl⟩) hS ?_
            simp only [Act.put, List.setIfInBounds_toArray, List.set_cons_zero, List.set_cons_succ]
            refine take_at (i := 13) 100 (v := undef) rfl rfl (by kernel_rfl) (by kernel_rfl) (by kernel_rfl) (fun _ _ _ h => h) (Or.inr ⟨by rfl, rfl⟩) hS ?_
            simp only [Act.put, List.setIfInBounds_toArray, List.set_cons_zero, List.set_cons_succ]
            refine take_at (i := 14) 101 (v := undef) rfl rfl (by kernel_rfl) (by kernel_rfl) (by kernel_rfl) (fun _ _ _ h => h) (Or.inr ⟨by rfl, rfl⟩) hS ?_
            simp only [Act.put, List.setIfInBounds_toArray, List.set_cons_zero, List.set_cons_succ]
            refine take_at (i := 15) 102 (v := undef) rfl rfl (by kernel_rfl) (by kernel_rfl) (by kernel_rfl) (fun _ _ _ h => h) (Or.inr ⟨by rfl, rfl⟩) hS ?_
            simp only [Act.put, List.setIfInBounds_toArray, List.set_cons_zero, List.set_cons_succ]
            refine take_at (i := 16) 103 (v := undef) rfl rfl (by kernel_rfl) (by kernel_rfl) (by kernel_rfl) (fun _ _ _ h => h) (Or.inr ⟨by rfl, rfl⟩) hS ?_
            simp only [Act.put, List.setIfInBounds_toArray, List.set_cons_zero, List.set_cons_succ]
            refine take_at (i := 17) 104 (v := .bool true) rfl rfl (by kernel_rfl) (by kernel_rfl) (by kernel_rfl) (fun _ _ _ h => h) (Or.inl ⟨by rfl, fun w' hw' => by go_simp⟩) hS ?_
            simp only [Act.put, List.setIfInBounds_toArray, List.set_cons_zero, List.set_cons_succ]
            refine take_at (i := 18) 105 (v := .bool true) rfl rfl (by kernel_rfl) (by kernel_rfl) (by kernel_rfl) (fun _ _ _ h => h) (Or.inl ⟨by rfl, fun w' hw' => by go_simp⟩) hS ?_
            simp only [Act.put, List.setIfInBounds_toArray, List.set_cons_zero, List.set_cons_succ]
            refine wpAnyH_ready (rs := [19]) (by kernel_rfl) (by simp) ?_
            refine AllReadyH.cons rfl (fun K' hK' => ?_) AllReadyH.nil
            go_simp
            refine (awake_any _).mono ?_
            rintro e v19 ⟨rfl, o19⟩
            have hS1 := hS.trans o19 (fun _ _ h => h)
            refine hK'.out _ _ hS1 (fun hS => ?_)
            clear hK' K' hS1
            clear o19
            refine take_at (i := 20) 107 (v := .bool true) rfl rfl (by kernel_rfl) (by kernel_rfl) (by kernel_rfl) (fun _ _ _ h => h) (Or.inl ⟨by rfl, fun w' hw' => by go_simp⟩) hS ?_
            simp only [Act.put, List.setIfInBounds_toArray, List.set_cons_zero, List.set_cons_succ]
            refine take_at (i := 21) 6 (v := .bool true) rfl rfl (by kernel_rfl) (by kernel_rfl) (by kernel_rfl) (fun _ _ _ h => h) (Or.inl ⟨by rfl, fun w' hw' => by go_simp⟩) hS ?_
            simp only [Act.put, List.setIfInBounds_toArray, List.set_cons_zero, List.set_cons_succ]
            refine wpAnyH_done (by kernel_rfl) ?_ _
            go_wp2_with fail
            go_ret
            exact ⟨rfl, HO.out.trans (HOE.out.trans hS (fun _ _ h => h)) (fun _ _ h => h)⟩

end Go.Proofs.Ytfkpnmmcdhibbab
