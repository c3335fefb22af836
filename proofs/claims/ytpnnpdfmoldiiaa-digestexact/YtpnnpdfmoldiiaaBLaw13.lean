/- Items of several texts. -/
import Derived.Deep.RegionHeld
import Derived.Deep.Cut
import Derived.Test.YtpnnpdfmoldiiaaBSam
import Derived.Test.YtpnnpdfmoldiiaaBGSm
import Derived.Test.YtpnnpdfmoldiiaaBLaw10
import Derived.Test.YtpnnpdfmoldiiaaBLck
namespace Go.Proofs.Ytpnnpdfmoldiiaa
open Go.RowKit
def awX : E := ⟨⟨#[107]⟩, aw8 1 0, none, 0, []⟩
def awG (b : Nat) : G := ⟨⟨#[107]⟩, aw8 1 0, some ⟨b, 0, none⟩, 1, [(0, 1)]⟩
def awH : G := ⟨⟨#[107]⟩, aw8 1 0, none, 0, []⟩
theorem aw_yes (b : Nat) : lacksB awX.key awX.f (cont awX.l) (awG b).abs = true := by kernel_rfl
theorem aw_not : lacksB awX.key awX.f (cont awX.l) awH.abs = false := by kernel_rfl
set_option maxRecDepth 100000 in
set_option maxHeartbeats 2000000 in
theorem awake_any (w : World) : Calls Try.prog 13 #[] w fun e w' => e = .returned (.bool true) ∧ Off (fun _ => False) w w' := by
 have hnot := not_any
 have C0 := Cel.new w 40 #[.string ⟨#[107]⟩, .int .i64 1, .int .i64 0, .int .i64 0, .int .i64 0, .int .i64 0, .int .i64 0, .int .i64 0, .int .i64 0, .slice none 0 0]
 have O0 : Off (fun _ => False) w (w.alloc (.cells #[.string ⟨#[107]⟩, .int .i64 1, .int .i64 0, .int .i64 0, .int .i64 0, .int .i64 0, .int .i64 0, .int .i64 0, .int .i64 0, .slice none 0 0] 40)) := (Off.refl _ w).alloc _
 go_enter Try.func13, Try.ntmps13
 go_upto_region 2 with fail
 generalize hq : w.heap.size = q at C0 ⊢
 generalize hv : w.alloc (.cells #[.string ⟨#[107]⟩, .int .i64 1, .int .i64 0, .int .i64 0, .int .i64 0, .int .i64 0, .int .i64 0, .int .i64 0, .int .i64 0, .slice none 0 0] 40) = W at C0 O0 ⊢
 clear hq hv
 have HC0 : Hid _ := C0
 have HO0 : Hid _ := O0
 obtain ⟨y0, y1, y2, y3, y4, y5, y6, y7, y8, y9⟩ := cel10 C0
 have CD := Cel.new W 81 #[.int .i64 0, .int .i64 1]
 have OD : Off (fun _ => False) W (W.alloc (.cells #[.int .i64 0, .int .i64 1] 81)) := (Off.refl _ W).alloc _
 have HD : Hid (RowD (W.alloc (.cells #[.int .i64 0, .int .i64 1] 81)) (some ⟨W.heap.size, 0, none⟩) 1 [(0, 1)]) := ⟨by simp, by omega, fun i d hi => by
  rcases i with _ | i
  ·simp at hi
   subst hi
   exact ⟨_, 0, rfl, CD.cell 0, CD.cell 1⟩
  ·simp at hi⟩
 have HOD : Hid _ := OD
 clear C0 O0 CD OD
 go_wp2_with fail
 have hc := lacks_any awX (awG W.heap.size) _ (Row.nil (W.alloc (.cells #[.int .i64 0, .int .i64 1] 81)) none 0 (by omega)) (by decide) HD.out
 rw [aw_yes] at hc
 refine hc.mono ?_
 rintro e w1 ⟨rfl, o1⟩
 clear hc y0 y1 y2 y3 y4 y5 y6 y7 y8 y9
 have O1 := HOD.out.trans o1 (fun _ _ h => h)
 have HO1 : Hid _ := HO0.out.trans O1 (fun _ _ h => h)
 obtain ⟨y0, y1, y2, y3, y4, y5, y6, y7, y8, y9⟩ := cel10 (HC0.out.off O1 (fun h => h))
 clear O1 o1 HD HOD HC0 HO0
 go_wp2_with fail
 have hc := lacks_any awX awH w1 (Row.nil w1 none 0 (by omega)) (by decide) (RowD.nil w1 none 0 (by omega))
 rw [aw_not] at hc
 refine hc.mono ?_
 rintro e w2 ⟨rfl, o2⟩
 clear hc y0 y1 y2 y3 y4 y5 y6 y7 y8 y9
 go_wp2_with fail
 go_ret
 exact ⟨rfl, HO1.out.trans o2 (fun _ _ h => h)⟩
end Go.Proofs.Ytpnnpdfmoldiiaa
