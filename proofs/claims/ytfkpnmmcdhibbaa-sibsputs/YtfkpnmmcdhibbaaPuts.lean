/- The walk of SibsPuts. -/
import Derived.Test.YtfkpnmmcdhibbaaGPut
import Derived.Test.YtfkpnmmcdhibbaaGSame
import Derived.Test.YtfkpnmmcdhibbaaSl12
import Derived.Test.YtfkpnmmcdhibbaaAwk
import Derived.Test.YtfkpnmmcdhibbaaArg5
import Derived.Test.YtfkpnmmcdhibbaaLessP
namespace Go.Proofs.Ytfkpnmmcdhibbaa
open Go.RowKit

set_option maxRecDepth 100000 in
set_option maxHeartbeats 4000000 in
theorem puts_walk (f : Nat → Int) (a : Option Addr) (ca : Nat) (l : List V) (g : Nat → Int) (node : Int) (da : Option Addr) (dc : Nat) (ds : List Nat) (dd : Bool) (w : World)
    (_ : ∀ j, j < 8 → -9223372036854775808 ≤ f j ∧ f j ≤ 9223372036854775807) (ra : Row w a ca l) (_ : ∀ j, j < 8 → -9223372036854775808 ≤ g j ∧ g j ≤ 9223372036854775807) (hno : -9223372036854775808 ≤ node ∧ node ≤ 9223372036854775807) (hd : ArgB w da ds.length dc ds) :
    Calls Try.prog 5 #[.agg #[.int .i64 (f 0), .int .i64 (f 1), .int .i64 (f 2), .int .i64 (f 3), .int .i64 (f 4), .int .i64 (f 5), .int .i64 (f 6), .int .i64 (f 7), .slice a l.length ca], .agg #[.int .i64 (g 0), .int .i64 (g 1), .int .i64 (g 2), .int .i64 (g 3), .int .i64 (g 4), .int .i64 (g 5), .int .i64 (g 6), .int .i64 (g 7)], .int .i64 node, .slice da ds.length dc, .bool dd] w fun e w' => e = .returned (.bool true) ∧ Off (fun _ => False) w w' := by
  have hnot := not_any
  obtain ⟨W, hW⟩ : ∃ W, W = ((w.alloc (.cells #[.int .i64 (f 0), .int .i64 (f 1), .int .i64 (f 2), .int .i64 (f 3), .int .i64 (f 4), .int .i64 (f 5), .int .i64 (f 6), .int .i64 (f 7), .slice a l.length ca] 26)).alloc (.cells #[.int .i64 (g 0), .int .i64 (g 1), .int .i64 (g 2), .int .i64 (g 3), .int .i64 (g 4), .int .i64 (g 5), .int .i64 (g 6), .int .i64 (g 7)] 23)) := ⟨_, rfl⟩
  have O : Off (fun _ => False) w W := by rw [hW]; exact ((Off.refl _ w).alloc _).alloc _
  have C0 : Cel w.heap.size 26 #[.int .i64 (f 0), .int .i64 (f 1), .int .i64 (f 2), .int .i64 (f 3), .int .i64 (f 4), .int .i64 (f 5), .int .i64 (f 6), .int .i64 (f 7), .slice a l.length ca] W := by rw [hW]; exact (Cel.new w _ _).alloc _
  have C1 : Cel (w.heap.size + 1) 23 #[.int .i64 (g 0), .int .i64 (g 1), .int .i64 (g 2), .int .i64 (g 3), .int .i64 (g 4), .int .i64 (g 5), .int .i64 (g 6), .int .i64 (g 7)] W := by rw [hW]; exact Cel.new1 w _ _ _
  have HW : Hid _ := hW.symm
  have H0 : Hid _ := C0
  have H1 : Hid _ := C1
  have HO : Hid _ := O
  have HR1 : Hid _ := ra.off O
  have HNO : Hid _ := hno
  have HD : Hid _ := hd.src
  have HB : Hid _ := And.intro hd.lt hd.bound
  clear hW C0 C1 O ra hno hd
  by_cases h40 : l.length ≤ 40
  · have hlb : lightB [⟨f, a, ca, l⟩] = true := by simp [lightB]; omega
    go_enter Try.func5, Try.ntmps5
    go_upto_region 1 with fail
    rw [HW.out]
    generalize hq1 : w.heap.size + 1 = q1 at H1 ⊢
    generalize hq0 : w.heap.size = q0 at H0 ⊢
    clear hq0 hq1
    obtain ⟨x0, x1, x2, x3, x4, x5, x6, x7, x8⟩ := cel9 H0.out
    have OA : Off (fun _ => False) W (W.alloc (.cells #[.int .i64 (f 0), .int .i64 (f 1), .int .i64 (f 2), .int .i64 (f 3), .int .i64 (f 4), .int .i64 (f 5), .int .i64 (f 6), .int .i64 (f 7), .slice a l.length ca] 26)) := (Off.refl _ W).alloc _
    have HSL : Hid _ := sl1 (Cel.new W 26 #[.int .i64 (f 0), .int .i64 (f 1), .int .i64 (f 2), .int .i64 (f 3), .int .i64 (f 4), .int .i64 (f 5), .int .i64 (f 6), .int .i64 (f 7), .slice a l.length ca]) (HR1.out.off OA)
    have HOA : Hid _ := OA
    clear OA
    go_wp2_with fail
    refine (light_any _ 1 _ _ HSL.out (by simp)).mono ?_
    rw [hlb]
    rintro e w2 ⟨rfl, o2⟩
    clear x0 x1 x2 x3 x4 x5 x6 x7 x8 HSL
    have HO2 : Hid _ := HOA.out.trans o2 (fun _ _ h => h)
    clear o2 HOA
    obtain ⟨x0, x1, x2, x3, x4, x5, x6, x7, x8⟩ := cel9 (H0.out.off HO2.out (fun h => h))
    obtain ⟨y0, y1, y2, y3, y4, y5, y6, y7⟩ := cel8 (H1.out.off HO2.out (fun h => h))
    go_wp2_with fail
    clear x0 x1 x2 x3 x4 x5 x6 x7 x8 y0 y1 y2 y3 y4 y5 y6 y7
    refine (sput_any f g a ca l node HNO.out da dc ds dd _ (HR1.out.off HO2.out) (HD.out.off (HO.out.trans HO2.out (fun _ _ h => h)) (fun _ _ _ h => h)) HB.out.1 HB.out.2).mono ?_
    rintro e w3 ⟨fp, ap, cp, lp, er, rfl, her, hfp, hlp, mdp, o3⟩
    have HER : Hid _ := her
    have HFP : Hid _ := hfp
    have HLP : Hid _ := hlp
    have HMD : Hid _ := mdp.row
    clear her hfp hlp mdp
    go_upto_region 4 with fail
    have Cqt := Cel.new w3 26 #[.int .i64 (fp 0), .int .i64 (fp 1), .int .i64 (fp 2), .int .i64 (fp 3), .int .i64 (fp 4), .int .i64 (fp 5), .int .i64 (fp 6), .int .i64 (fp 7), .slice ap lp.length cp]
    have OA : Off (fun _ => False) w3 (w3.alloc (.cells #[.int .i64 (fp 0), .int .i64 (fp 1), .int .i64 (fp 2), .int .i64 (fp 3), .int .i64 (fp 4), .int .i64 (fp 5), .int .i64 (fp 6), .int .i64 (fp 7), .slice ap lp.length cp] 26)) := (Off.refl _ w3).alloc _
    generalize hq : w3.heap.size = qt at Cqt ⊢
    generalize hv : w3.alloc (.cells #[.int .i64 (fp 0), .int .i64 (fp 1), .int .i64 (fp 2), .int .i64 (fp 3), .int .i64 (fp 4), .int .i64 (fp 5), .int .i64 (fp 6), .int .i64 (fp 7), .slice ap lp.length cp] 26) = Vqt at Cqt OA ⊢
    clear hq hv
    have HRT : Hid _ := HMD.out.off OA
    have GT : Hid _ := Cqt
    have HO3 : Hid _ := HO2.out.trans (o3.trans OA (fun _ _ h => h)) (fun _ _ h => h)
    clear Cqt OA o3 HMD
    obtain ⟨x0, x1, x2, x3, x4, x5, x6, x7, x8⟩ := cel9 (H0.out.off HO3.out (fun h => h))
    obtain ⟨y0, y1, y2, y3, y4, y5, y6, y7⟩ := cel8 (H1.out.off HO3.out (fun h => h))
    go_wp2_with fail
    clear x0 x1 x2 x3 x4 x5 x6 x7 x8 y0 y1 y2 y3 y4 y5 y6 y7
    refine (gput_any f g a ca l node HNO.out da dc ds dd _ (HR1.out.off HO3.out) (HD.out.off (HO.out.trans HO3.out (fun _ _ h => h)) (fun _ _ _ h => h)) HB.out.1 HB.out.2).mono ?_
    rintro e w4 ⟨fs, aa, cs, ls, es, rfl, hes, hfs, hls, rws, o4⟩
    have HES : Hid (es = er) := by show _ = _; rw [hes, HER.out]
    have HFS : Hid (fs = fp) := by show _ = _; rw [hfs, HFP.out]
    have HLS : Hid (cont ls = cont lp) := by show _ = _; rw [hls, HLP.out]
    have HRS : Hid _ := rws
    clear hes hfs hls rws
    go_upto_region 5 with fail
    have Cqs := Cel.new w4 26 #[.int .i64 (fs 0), .int .i64 (fs 1), .int .i64 (fs 2), .int .i64 (fs 3), .int .i64 (fs 4), .int .i64 (fs 5), .int .i64 (fs 6), .int .i64 (fs 7), .slice aa ls.length cs]
    have OA : Off (fun _ => False) w4 (w4.alloc (.cells #[.int .i64 (fs 0), .int .i64 (fs 1), .int .i64 (fs 2), .int .i64 (fs 3), .int .i64 (fs 4), .int .i64 (fs 5), .int .i64 (fs 6), .int .i64 (fs 7), .slice aa ls.length cs] 26)) := (Off.refl _ w4).alloc _
    generalize hq : w4.heap.size = qs at Cqs ⊢
    generalize hv : w4.alloc (.cells #[.int .i64 (fs 0), .int .i64 (fs 1), .int .i64 (fs 2), .int .i64 (fs 3), .int .i64 (fs 4), .int .i64 (fs 5), .int .i64 (fs 6), .int .i64 (fs 7), .slice aa ls.length cs] 26) = Vqs at Cqs OA ⊢
    clear hq hv
    have HRU : Hid _ := HRS.out.off OA
    have HO5 : Hid _ := o4.trans OA (fun _ _ h => h)
    obtain ⟨x0, x1, x2, x3, x4, x5, x6, x7, x8⟩ := cel9 (GT.out.off HO5.out (fun h => h))
    obtain ⟨y0, y1, y2, y3, y4, y5, y6, y7, y8⟩ := cel9 Cqs
    clear Cqs OA o4
    have he : es = er := HES.out
    subst he
    go_wp2_with fail
    clear x0 x1 x2 x3 x4 x5 x6 x7 x8 y0 y1 y2 y3 y4 y5 y6 y7 y8
    refine (gsame_any fp fs ap aa cp cs lp ls _ (HRT.out.off HO5.out) HRU.out).mono ?_
    rw [show sameS fp fs (cont lp) (cont ls) = true by rw [HFS.out, HLS.out]; exact same_iff.2 ⟨fun _ _ => rfl, rfl⟩]
    rintro e w6 ⟨rfl, o6⟩
    go_wp2_with fail
    refine (awake_any _).mono ?_
    rintro e w9 ⟨rfl, o9⟩
    go_wp2_with fail
    go_ret
    exact ⟨rfl, HO.out.trans (HO3.out.trans (HO5.out.trans (o6.trans o9 (fun _ _ h => h)) (fun _ _ h => h)) (fun _ _ h => h)) (fun _ _ h => h)⟩
  · have hlb : lightB [⟨f, a, ca, l⟩] = false := by simp [lightB]; omega
    go_enter Try.func5, Try.ntmps5
    go_upto_region 1 with fail
    rw [HW.out]
    generalize hq1 : w.heap.size + 1 = q1 at H1 ⊢
    generalize hq0 : w.heap.size = q0 at H0 ⊢
    clear hq0 hq1
    obtain ⟨x0, x1, x2, x3, x4, x5, x6, x7, x8⟩ := cel9 H0.out
    have OA : Off (fun _ => False) W (W.alloc (.cells #[.int .i64 (f 0), .int .i64 (f 1), .int .i64 (f 2), .int .i64 (f 3), .int .i64 (f 4), .int .i64 (f 5), .int .i64 (f 6), .int .i64 (f 7), .slice a l.length ca] 26)) := (Off.refl _ W).alloc _
    have HSL : Hid _ := sl1 (Cel.new W 26 #[.int .i64 (f 0), .int .i64 (f 1), .int .i64 (f 2), .int .i64 (f 3), .int .i64 (f 4), .int .i64 (f 5), .int .i64 (f 6), .int .i64 (f 7), .slice a l.length ca]) (HR1.out.off OA)
    have HOA : Hid _ := OA
    clear OA
    go_wp2_with fail
    refine (light_any _ 1 _ _ HSL.out (by simp)).mono ?_
    rw [hlb]
    rintro e w2 ⟨rfl, o2⟩
    clear x0 x1 x2 x3 x4 x5 x6 x7 x8 HSL
    have HO2 : Hid _ := HOA.out.trans o2 (fun _ _ h => h)
    clear o2 HOA
    go_wp2_with fail
    refine (awake_any _).mono ?_
    rintro e w9 ⟨rfl, o9⟩
    go_wp2_with fail
    go_ret
    exact ⟨rfl, HO.out.trans (HO2.out.trans o9 (fun _ _ h => h)) (fun _ _ h => h)⟩
end Go.Proofs.Ytfkpnmmcdhibbaa
