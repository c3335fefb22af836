/- Items of several texts. -/
import Derived.Test.YtpnnpdfmoldiiaaQRefA
import Derived.Test.YtpnnpdfmoldiiaaQLaw10
import Derived.Test.YtpnnpdfmoldiiaaQLck
import Derived.Test.YtpnnpdfmoldiiaaQGCop
namespace Go.Proofs.Ytpnnpdfmoldiiaa
open Go.RowKit
set_option maxRecDepth 100000 in
set_option maxHeartbeats 1000000 in
theorem fleq_any (a b : Nat → Int) (w : World) : Calls Try.prog 57 #[.agg #[.int .i64 (a 0), .int .i64 (a 1), .int .i64 (a 2), .int .i64 (a 3), .int .i64 (a 4), .int .i64 (a 5), .int .i64 (a 6), .int .i64 (a 7)], .agg #[.int .i64 (b 0), .int .i64 (b 1), .int .i64 (b 2), .int .i64 (b 3), .int .i64 (b 4), .int .i64 (b 5), .int .i64 (b 6), .int .i64 (b 7)]] w fun e w' => e = .returned (.bool (leqB a b)) ∧ Off (fun _ => False) w w' := by
 go_enter Try.func57, Try.ntmps57
 go_wp2_with fail
 go_loopw [6] (fun y wr => ∃ n : Nat, y = .int .i64 (n : Int) ∧ n ≤ 8 ∧ (∀ j, j < n → a j ≤ b j) ∧ Cel w.heap.size 24 #[.int .i64 (a 0), .int .i64 (a 1), .int .i64 (a 2), .int .i64 (a 3), .int .i64 (a 4), .int .i64 (a 5), .int .i64 (a 6), .int .i64 (a 7)] wr ∧ Cel (w.heap.size + 1) 24 #[.int .i64 (b 0), .int .i64 (b 1), .int .i64 (b 2), .int .i64 (b 3), .int .i64 (b 4), .int .i64 (b 5), .int .i64 (b 6), .int .i64 (b 7)] wr ∧ Off (fun _ => False) w wr) (fun y _ => (8 - intOf y).toNat)
 case atStart => exact ⟨0, rfl, by omega, by simp, (Cel.new w _ _).alloc _, Cel.new1 w _ _ _, ((Off.refl _ w).alloc _).alloc _⟩
 case round =>
  obtain ⟨n, rfl, hn, hg, ca, cb, O⟩ := hrel
  have HG : Hid _ := hg
  have CA : Hid _ := ca
  have CB : Hid _ := cb
  clear hg ca cb
  by_cases h : n < 8
  ·have hd : decide ((n : Int) < 8) = true := by simp; omega
   have h1 := at_vec w.heap.size h
   have h2 := at_vec (w.heap.size + 1) h
   have xa : wr.cell? ⟨w.heap.size, n, none⟩ = some (.int .i64 (a n)) := (CA.out.cell n).trans (vec_get a h)
   have xb : wr.cell? ⟨w.heap.size + 1, n, none⟩ = some (.int .i64 (b n)) := (CB.out.cell n).trans (vec_get b h)
   go_wp2_with fail
   by_cases h0 : b n < a n
   ·have e0 : decide (b n < a n) = true := by simp; omega
    refine wp_region_held_drew (S := fun w' => w' = wr.drew) (by kernel_rfl) rfl (fun hS => ?_)
    refine take_at (i := 0) 9 (v := .int .i64 (n : Int)) rfl rfl (by kernel_rfl) (by kernel_rfl) (by kernel_rfl) (fun _ _ _ h => h) (Or.inl ⟨by rfl, fun w' hw' => by subst hw'; go_simp⟩) hS ?_
    simp only [Act.put, lsA, lsZ, lsS]
    refine take_at (i := 1) 10 (v := .pointer (some ⟨w.heap.size, n, none⟩)) rfl rfl (by kernel_rfl) (by kernel_rfl) (by kernel_rfl) (fun _ _ _ h => h) (Or.inl ⟨by rfl, fun w' hw' => by subst hw'; go_simp⟩) hS ?_
    simp only [Act.put, lsA, lsZ, lsS]
    refine take_at (i := 2) 11 (v := .int .i64 (a n)) rfl rfl (by kernel_rfl) (by kernel_rfl) (by kernel_rfl) (fun _ _ _ h => h) (Or.inl ⟨by rfl, fun w' hw' => by subst hw'; have x := xa; go_simp⟩) hS ?_
    simp only [Act.put, lsA, lsZ, lsS]
    refine take_at (i := 3) 12 (v := .int .i64 (n : Int)) rfl rfl (by kernel_rfl) (by kernel_rfl) (by kernel_rfl) (fun _ _ _ h => h) (Or.inl ⟨by rfl, fun w' hw' => by subst hw'; go_simp⟩) hS ?_
    simp only [Act.put, lsA, lsZ, lsS]
    refine take_at (i := 4) 13 (v := .pointer (some ⟨w.heap.size + 1, n, none⟩)) rfl rfl (by kernel_rfl) (by kernel_rfl) (by kernel_rfl) (fun _ _ _ h => h) (Or.inl ⟨by rfl, fun w' hw' => by subst hw'; go_simp⟩) hS ?_
    simp only [Act.put, lsA, lsZ, lsS]
    refine take_at (i := 5) 14 (v := .int .i64 (b n)) rfl rfl (by kernel_rfl) (by kernel_rfl) (by kernel_rfl) (fun _ _ _ h => h) (Or.inl ⟨by rfl, fun w' hw' => by subst hw'; have x := xb; go_simp⟩) hS ?_
    simp only [Act.put, lsA, lsZ, lsS]
    refine take_at (i := 6) 15 (v := .bool true) rfl rfl (by kernel_rfl) (by kernel_rfl) (by kernel_rfl) (fun _ _ _ h => h) (Or.inl ⟨by rfl, fun w' hw' => by subst hw'; go_simp⟩) hS ?_
    simp only [Act.put, lsA, lsZ, lsS]
    refine wpAnyH_done (by kernel_rfl) ?_ _
    go_wp2_with fail
    go_ret
    refine ⟨?_, O.drew⟩
    have hb : leqB a b = false := by
     simp only [leqB, decide_eq_false_iff_not]
     intro hx
     have := hx n h
     omega
    rw [hb]; rfl
   ·have e0 : decide (b n < a n) = false := by simp; omega
    refine wp_region_held_drew (S := fun w' => w' = wr.drew) (by kernel_rfl) rfl (fun hS => ?_)
    refine take_at (i := 0) 9 (v := .int .i64 (n : Int)) rfl rfl (by kernel_rfl) (by kernel_rfl) (by kernel_rfl) (fun _ _ _ h => h) (Or.inl ⟨by rfl, fun w' hw' => by subst hw'; go_simp⟩) hS ?_
    simp only [Act.put, lsA, lsZ, lsS]
    refine take_at (i := 1) 10 (v := .pointer (some ⟨w.heap.size, n, none⟩)) rfl rfl (by kernel_rfl) (by kernel_rfl) (by kernel_rfl) (fun _ _ _ h => h) (Or.inl ⟨by rfl, fun w' hw' => by subst hw'; go_simp⟩) hS ?_
    simp only [Act.put, lsA, lsZ, lsS]
    refine take_at (i := 2) 11 (v := .int .i64 (a n)) rfl rfl (by kernel_rfl) (by kernel_rfl) (by kernel_rfl) (fun _ _ _ h => h) (Or.inl ⟨by rfl, fun w' hw' => by subst hw'; have x := xa; go_simp⟩) hS ?_
    simp only [Act.put, lsA, lsZ, lsS]
    refine take_at (i := 3) 12 (v := .int .i64 (n : Int)) rfl rfl (by kernel_rfl) (by kernel_rfl) (by kernel_rfl) (fun _ _ _ h => h) (Or.inl ⟨by rfl, fun w' hw' => by subst hw'; go_simp⟩) hS ?_
    simp only [Act.put, lsA, lsZ, lsS]
    refine take_at (i := 4) 13 (v := .pointer (some ⟨w.heap.size + 1, n, none⟩)) rfl rfl (by kernel_rfl) (by kernel_rfl) (by kernel_rfl) (fun _ _ _ h => h) (Or.inl ⟨by rfl, fun w' hw' => by subst hw'; go_simp⟩) hS ?_
    simp only [Act.put, lsA, lsZ, lsS]
    refine take_at (i := 5) 14 (v := .int .i64 (b n)) rfl rfl (by kernel_rfl) (by kernel_rfl) (by kernel_rfl) (fun _ _ _ h => h) (Or.inl ⟨by rfl, fun w' hw' => by subst hw'; have x := xb; go_simp⟩) hS ?_
    simp only [Act.put, lsA, lsZ, lsS]
    refine take_at (i := 6) 15 (v := .bool false) rfl rfl (by kernel_rfl) (by kernel_rfl) (by kernel_rfl) (fun _ _ _ h => h) (Or.inl ⟨by rfl, fun w' hw' => by subst hw'; go_simp⟩) hS ?_
    simp only [Act.put, lsA, lsZ, lsS]
    refine wpAnyH_done (by kernel_rfl) ?_ _
    go_wp2_with fail
    go_roundw
    case rel =>
     refine ⟨n + 1, by go_num, by omega, fun j hj => ?_, CA.out.drew, CB.out.drew, O.drew⟩
     rcases Nat.lt_or_ge j n with h2 | h2
     ·exact HG.out j h2
     ·obtain rfl : j = n := by omega
      omega
    case measure => simp [intOf]; omega
  ·obtain rfl : n = 8 := by omega
   go_wp2_with fail
   go_ret
   refine ⟨?_, O⟩
   have hb : leqB a b = true := by
    simp only [leqB, decide_eq_true_eq]
    exact HG.out
   rw [hb]; rfl
theorem any_step {P : Int × Int → Bool} {ds : List (Int × Int)} {n : Nat} {d : Int × Int} (h : ds[n]? = some d) : (ds.drop n).any P = (P d || (ds.drop (n + 1)).any P) := by
 obtain ⟨hl, e⟩ := List.getElem?_eq_some_iff.1 h
 rw [List.drop_eq_getElem_cons hl, e, List.any_cons]
set_option maxRecDepth 100000 in
set_option maxHeartbeats 2000000 in
theorem glackP_any (x : E) (gk : ByteArray) (gf : Nat → Int) (ga : Option Addr) (gc : Nat) (gds : List (Int × Int)) (w : World) (hr : Row w x.a x.cap x.l) (hd : RowD w ga gc gds) :
  Calls Try.prog 21 #[(.agg #[.string x.key, .int .i64 (x.f 0), .int .i64 (x.f 1), .int .i64 (x.f 2), .int .i64 (x.f 3), .int .i64 (x.f 4), .int .i64 (x.f 5), .int .i64 (x.f 6), .int .i64 (x.f 7), .slice x.a x.l.length x.cap]), .agg #[.string gk, .int .i64 (gf 0), .int .i64 (gf 1), .int .i64 (gf 2), .int .i64 (gf 3), .int .i64 (gf 4), .int .i64 (gf 5), .int .i64 (gf 6), .int .i64 (gf 7), .slice ga gds.length gc]] w fun e w' => e = .returned (.bool (lacksB x.key x.f (cont x.l) (⟨gk, gf, gds⟩ : GK))) ∧ Off (fun _ => False) w w' := by
 have CE := (Cel.new w 40 #[.string x.key, .int .i64 (x.f 0), .int .i64 (x.f 1), .int .i64 (x.f 2), .int .i64 (x.f 3), .int .i64 (x.f 4), .int .i64 (x.f 5), .int .i64 (x.f 6), .int .i64 (x.f 7), .slice x.a x.l.length x.cap]).alloc (.cells #[.string gk, .int .i64 (gf 0), .int .i64 (gf 1), .int .i64 (gf 2), .int .i64 (gf 3), .int .i64 (gf 4), .int .i64 (gf 5), .int .i64 (gf 6), .int .i64 (gf 7), .slice ga gds.length gc] 27)
 have CG := Cel.new1 w (.cells #[.string x.key, .int .i64 (x.f 0), .int .i64 (x.f 1), .int .i64 (x.f 2), .int .i64 (x.f 3), .int .i64 (x.f 4), .int .i64 (x.f 5), .int .i64 (x.f 6), .int .i64 (x.f 7), .slice x.a x.l.length x.cap] 40) 27 #[.string gk, .int .i64 (gf 0), .int .i64 (gf 1), .int .i64 (gf 2), .int .i64 (gf 3), .int .i64 (gf 4), .int .i64 (gf 5), .int .i64 (gf 6), .int .i64 (gf 7), .slice ga gds.length gc]
 have O0 : Off (fun _ => False) w ((w.alloc (.cells #[.string x.key, .int .i64 (x.f 0), .int .i64 (x.f 1), .int .i64 (x.f 2), .int .i64 (x.f 3), .int .i64 (x.f 4), .int .i64 (x.f 5), .int .i64 (x.f 6), .int .i64 (x.f 7), .slice x.a x.l.length x.cap] 40)).alloc (.cells #[.string gk, .int .i64 (gf 0), .int .i64 (gf 1), .int .i64 (gf 2), .int .i64 (gf 3), .int .i64 (gf 4), .int .i64 (gf 5), .int .i64 (gf 6), .int .i64 (gf 7), .slice ga gds.length gc] 27)) := ((Off.refl _ w).alloc _).alloc _
 have hnot := not_any
 go_enter Try.func21, Try.ntmps21
 go_upto_region 1 with fail
 generalize hv : (w.alloc (.cells #[.string x.key, .int .i64 (x.f 0), .int .i64 (x.f 1), .int .i64 (x.f 2), .int .i64 (x.f 3), .int .i64 (x.f 4), .int .i64 (x.f 5), .int .i64 (x.f 6), .int .i64 (x.f 7), .slice x.a x.l.length x.cap] 40)).alloc (.cells #[.string gk, .int .i64 (gf 0), .int .i64 (gf 1), .int .i64 (gf 2), .int .i64 (gf 3), .int .i64 (gf 4), .int .i64 (gf 5), .int .i64 (gf 6), .int .i64 (gf 7), .slice ga gds.length gc] 27) = W at CE CG O0 ⊢
 generalize hq1 : w.heap.size + 1 = q1 at CG ⊢
 generalize hq0 : w.heap.size = q0 at CE ⊢
 clear hv hq0 hq1
 have HCE : Hid _ := CE
 have HCG : Hid _ := CG
 have HO0 : Hid _ := O0
 have HR : Hid _ := hr.off O0
 have HD : Hid _ := hd.off O0
 obtain ⟨x0, x1, x2, x3, x4, x5, x6, x7, x8, x9⟩ := cel10 CE
 obtain ⟨y0, y1, y2, y3, y4, y5, y6, y7, y8, y9⟩ := cel10 CG
 clear CE CG O0 hr hd
 by_cases hk : x.key = gk
 ·have k1 : (x.key.toList == gk.toList) = true := by rw [hk]; simp
  have k2 : x.key.toList = gk.toList := by rw [hk]
  have HK : Hid _ := hk
  clear hk
  go_wp2_with fail
  refine (fleq_any x.f gf _).mono ?_
  rintro e w1 ⟨rfl, o1⟩
  clear x0 x1 x2 x3 x4 x5 x6 x7 x8 x9 y0 y1 y2 y3 y4 y5 y6 y7 y8 y9 k1 k2
  have HL : Hid (∀ r, leqB x.f gf = r → lacksB x.key x.f (cont x.l) (⟨gk, gf, gds⟩ : GK) = (!r || gds.any fun d => coversB x.f d.1 d.2 && !stands (cont x.l) d)) := fun r hr => by
   unfold lacksB
   show (!smk x.key gk || !leqB x.f gf || gds.any fun d => coversB x.f d.1 d.2 && !stands (cont x.l) d) = _
   rw [smk_iff.2 HK.out, hr]
   simp
  have C1 := HCE.out.off o1 (fun h => h)
  have D1 := HCG.out.off o1 (fun h => h)
  have HC1 : Hid _ := C1
  have HO1 : Hid _ := HO0.out.trans o1 (fun _ _ h => h)
  have HR1 : Hid _ := HR.out.off o1
  have HG1 : Hid _ := HD.out.off o1
  obtain ⟨y0, y1, y2, y3, y4, y5, y6, y7, y8, y9⟩ := cel10 D1
  clear C1 D1 o1 HCE HCG HO0 HR HD HK
  cases hlq : leqB x.f gf
  ·have HL0 : Hid _ := HL.out _ hlq
   clear HL hlq
   go_wp2_with fail
   go_ret
   exact ⟨by rw [HL0.out]; rfl, HO1.out⟩
  ·have HL0 : Hid (lacksB x.key x.f (cont x.l) (⟨gk, gf, gds⟩ : GK) = gds.any fun d => coversB x.f d.1 d.2 && !stands (cont x.l) d) := HL.out _ hlq
   clear HL hlq
   go_wp2_with fail
   clear y0 y1 y2 y3 y4 y5 y6 y7 y8 y9
   have hbd : gds.length ≤ 9223372036854775807 := Nat.le_trans HG1.out.len HG1.out.bound
   go_loopw [24] (fun y wr => ∃ n : Nat, y = .int .i64 (n : Int) ∧ n ≤ gds.length ∧ lacksB x.key x.f (cont x.l) (⟨gk, gf, gds⟩ : GK) = ((gds.drop n).any fun d => coversB x.f d.1 d.2 && !stands (cont x.l) d) ∧ Off (fun _ => False) w1 wr) (fun y _ => (gds.length - intOf y).toNat)
   case atStart => exact ⟨0, rfl, by omega, HL0.out, Off.refl _ _⟩
   case round =>
    obtain ⟨n, rfl, hn, hok, O⟩ := hrel
    have HO : Hid _ := O
    have HOK : Hid _ := hok
    clear O hok
    by_cases hlt : n < gds.length
    ·have e1 : decide ((n : Int) < (gds.length : Int)) = true := decide_eq_true (by omega)
     have e2 : decide (n < gds.length) = true := decide_eq_true hlt
     obtain ⟨d, hd⟩ : ∃ d, gds[n]? = some d := ⟨_, List.getElem?_eq_getElem hlt⟩
     obtain ⟨b, off, rfl, k0, k1⟩ := (HG1.out.off HO.out).at_ n d hd
     have HDN : Hid _ := hd
     have hix := idx_dots hlt
     clear hd
     have CD := Cel.new wr 81 #[.int .i64 d.1, .int .i64 d.2]
     have OD : Off (fun _ => False) wr (wr.alloc (.cells #[.int .i64 d.1, .int .i64 d.2] 81)) := (Off.refl _ wr).alloc _
     go_upto_region 6 with fail
     generalize hqd : wr.heap.size = qd at CD ⊢
     generalize hvd : wr.alloc (.cells #[.int .i64 d.1, .int .i64 d.2] 81) = V1 at CD OD ⊢
     clear hqd hvd k0 k1 hix
     have HCD : Hid _ := CD
     have HO2 : Hid _ := HO.out.trans OD (fun _ _ h => h)
     have HC2 : Hid _ := HC1.out.off HO2.out (fun h => h)
     have HR2 : Hid _ := HR1.out.off HO2.out
     clear CD OD HO
     obtain ⟨x0, x1, x2, x3, x4, x5, x6, x7, x8, x9⟩ := cel10 HC2.out
     have d0 : V1.cell? ⟨qd, 0, none⟩ = some (.int .i64 d.1) := HCD.out.cell 0
     have d1 : V1.cell? ⟨qd, 1, none⟩ = some (.int .i64 d.2) := HCD.out.cell 1
     go_wp2_with fail
     refine (fcovers_any x.f d.1 d.2 _).mono ?_
     rintro e w3 ⟨rfl, o3⟩
     clear x0 x1 x2 x3 x4 x5 x6 x7 x8 x9 d0 d1
     have HCD3 : Hid _ := HCD.out.off o3 (fun h => h)
     have HO3 : Hid _ := HO2.out.trans o3 (fun _ _ h => h)
     have HC3 : Hid _ := HC2.out.off o3 (fun h => h)
     have HR3 : Hid _ := HR2.out.off o3
     clear o3 HCD HO2 HC2 HR2
     have HST : Hid (∀ r, coversB x.f d.1 d.2 = r → lacksB x.key x.f (cont x.l) (⟨gk, gf, gds⟩ : GK) = ((r && !stands (cont x.l) d) || ((gds.drop (n + 1)).any fun d => coversB x.f d.1 d.2 && !stands (cont x.l) d))) := fun r hr => by rw [HOK.out, any_step HDN.out, hr]
     obtain ⟨x0, x1, x2, x3, x4, x5, x6, x7, x8, x9⟩ := cel10 HC3.out
     have d0 : w3.cell? ⟨qd, 0, none⟩ = some (.int .i64 d.1) := HCD3.out.cell 0
     have d1 : w3.cell? ⟨qd, 1, none⟩ = some (.int .i64 d.2) := HCD3.out.cell 1
     cases hcv : coversB x.f d.1 d.2
     ·have HS0 : Hid _ := HST.out _ hcv
      clear HST hcv
      go_wp2_with fail
      go_roundw
      case rel => exact ⟨n + 1, by go_num, by omega, by rw [HS0.out]; rfl, HO3.out⟩
      case measure => simp [intOf]; omega
     ·have HS0 : Hid _ := HST.out _ hcv
      clear HST hcv
      go_wp2_with fail
      refine (find_any x.f x.a x.cap x.l d.1 d.2 _ HR3.out).mono ?_
      rintro e w4 ⟨r, rfl, hfr, o4⟩
      clear x0 x1 x2 x3 x4 x5 x6 x7 x8 x9 d0 d1
      have HO4 : Hid _ := HO3.out.trans o4 (fun _ _ h => h)
      clear o4
      rcases hfr with ⟨rfl, hno⟩ | ⟨i, v, rfl, hi, hv1, hv2⟩
      ·have HSN : Hid (stands (cont x.l) d = false) := by
        show _ = _
        unfold stands
        rw [List.any_eq_false]
        intro y hy
        simp only [cont, List.mem_map] at hy
        obtain ⟨v, hv, rfl⟩ := hy
        show ¬ (decide (v.node = d.1 ∧ v.num = d.2) = true)
        rw [decide_eq_true_eq]
        exact hno v hv
       clear hno
       go_wp2_with fail
       go_ret
       exact ⟨by rw [HS0.out, HSN.out]; rfl, HO1.out.trans HO4.out (fun _ _ h => h)⟩
      ·have HSY : Hid (stands (cont x.l) d = true) := by
        show _ = _
        unfold stands
        rw [List.any_eq_true]
        exact ⟨_, List.mem_map.2 ⟨v, List.mem_of_getElem? hi, rfl⟩, decide_eq_true ⟨hv1, hv2⟩⟩
       have e3 : decide ((i : Int) < 0) = false := decide_eq_false (by omega)
       clear hi hv1 hv2
       go_wp2_with fail
       go_roundw
       case rel => exact ⟨n + 1, by go_num, by omega, by rw [HS0.out, HSY.out]; rfl, HO4.out⟩
       case measure => simp [intOf]; omega
    ·obtain rfl : n = gds.length := by omega
     have e1 : decide ((gds.length : Int) < (gds.length : Int)) = false := decide_eq_false (by omega)
     have e2 : decide (gds.length < gds.length) = false := decide_eq_false (by omega)
     go_wp2_with fail
     go_ret
     exact ⟨by rw [HOK.out, List.drop_length]; rfl, HO1.out.trans HO.out (fun _ _ h => h)⟩
 ·have k1 : (x.key.toList == gk.toList) = false := by rw [toL, toL, beq_eq_false_iff_ne]; exact fun e => hk (kb_inj e)
  have HB : Hid (lacksB x.key x.f (cont x.l) (⟨gk, gf, gds⟩ : GK) = true) := by
   show _ = _
   unfold lacksB
   show (!smk x.key gk || !leqB x.f gf || _) = _
   rw [smk_no.2 hk]
   rfl
  clear hk
  go_wp2_with fail
  go_ret
  exact ⟨by rw [HB.out]; rfl, HO0.out⟩
theorem glacks_any (x : E) (g : G) (w : World) (hr : Row w x.a x.cap x.l) (hd : RowD w g.a g.cap g.ds) :
  Calls Try.prog 21 #[(.agg #[.string x.key, .int .i64 (x.f 0), .int .i64 (x.f 1), .int .i64 (x.f 2), .int .i64 (x.f 3), .int .i64 (x.f 4), .int .i64 (x.f 5), .int .i64 (x.f 6), .int .i64 (x.f 7), .slice x.a x.l.length x.cap]), .agg #[.string g.key, .int .i64 (g.f 0), .int .i64 (g.f 1), .int .i64 (g.f 2), .int .i64 (g.f 3), .int .i64 (g.f 4), .int .i64 (g.f 5), .int .i64 (g.f 6), .int .i64 (g.f 7), .slice g.a g.ds.length g.cap]] w fun e w' => e = .returned (.bool (lacksB x.key x.f (cont x.l) g.abs)) ∧ Off (fun _ => False) w w' :=
 glackP_any x g.key g.f g.a g.cap g.ds w hr hd
end Go.Proofs.Ytpnnpdfmoldiiaa
