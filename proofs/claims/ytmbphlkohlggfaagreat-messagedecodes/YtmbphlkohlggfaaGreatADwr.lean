/- Items of several texts. -/
import Derived.Deep.Cut
import Derived.Test.YtmbphlkohlggfaaGreatAArg13
import Derived.Test.YtmbphlkohlggfaaGreatASWe
namespace Go.Proofs.YtmbphlkohlggfaaGreat
open Go.RowKit
def wrDt (most : Nat) (st : Option (List Nat)) (d : Int × Int) : Option (List Nat) := putS most (putS most st (numB (u64N d.1))) (numB (zig d.2))
def wrG (most : Nat) (st : Option (List Nat)) (key : ByteArray) (f : Nat → Int) (ds : List (Int × Int)) : Option (List Nat) :=
 ds.foldl (wrDt most) (putS most (wrV most (putS most st (numB (keyL key).length ++ keyL key)) f 8) (numB ds.length))
theorem wrDs_le {most : Nat} : ∀ {st : Option (List Nat)}, (st.getD []).length ≤ most → ∀ ds, ((List.foldl (wrDt most) st ds).getD []).length ≤ most
 | _, h, [] => h
 | _, h, d :: r => wrDs_le (st := wrDt most _ d) (put_le (put_le h _) _) r
theorem wrG_le {most : Nat} {st : Option (List Nat)} (h : (st.getD []).length ≤ most) (key : ByteArray) (f : Nat → Int) (ds : List (Int × Int)) : ((wrG most st key f ds).getD []).length ≤ most := wrDs_le (put_le (wrV_le (put_le h _) f 8) _) ds
set_option maxRecDepth 100000 in
set_option maxHeartbeats 2000000 in
theorem dwrite_any {D : Nat → Prop} {b most : Nat} {st : Option (List Nat)} {w : World} (hW : Wtr D b most st w) (hm : most ≤ 140737488355328) (hst : (st.getD []).length ≤ most) (key : ByteArray) (hks : key.size ≤ 140737488351232) (f : Nat → Int) (hr : ∀ j, j < 8 → -9223372036854775808 ≤ f j ∧ f j ≤ 9223372036854775807) (a : Option Addr) (ca : Nat) (ds : List (Int × Int)) (hrg : RgD ds) (hrow : ∀ w', Off D w w' → RowD w' a ca ds) :
  Calls Tryz.prog 77 #[.pointer (some ⟨b, 0, none⟩), .agg #[.string key, .int .i64 (f 0), .int .i64 (f 1), .int .i64 (f 2), .int .i64 (f 3), .int .i64 (f 4), .int .i64 (f 5), .int .i64 (f 6), .int .i64 (f 7), .slice a ds.length ca]] w fun e w' => e = .returned (.tuple #[]) ∧ ∃ D', Wtr D' b most (wrG most st key f ds) w' ∧ Off D w w' ∧ ∀ c, D' c → D c ∨ w.heap.size ≤ c := by
 have hlb : ds.length ≤ 9223372036854775807 := by have h := hrow w (Off.refl _ w); have h1 := h.len; have h2 := h.bound; omega
 have hu0 : IntKind.u64.wrap ((ds.length : Nat) : Int) = ((ds.length : Nat) : Int) := by
  simp only [IntKind.wrap, IntKind.bits, IntKind.signed]
  go_num
 have C := Cel.new w 49 #[.string key, .int .i64 (f 0), .int .i64 (f 1), .int .i64 (f 2), .int .i64 (f 3), .int .i64 (f 4), .int .i64 (f 5), .int .i64 (f 6), .int .i64 (f 7), .slice a ds.length ca]
 have O : Off (fun _ => False) w (w.alloc (.cells #[.string key, .int .i64 (f 0), .int .i64 (f 1), .int .i64 (f 2), .int .i64 (f 3), .int .i64 (f 4), .int .i64 (f 5), .int .i64 (f 6), .int .i64 (f 7), .slice a ds.length ca] 49)) := (Off.refl _ w).alloc _
 have hlt0 := hW.lt
 have W0 := hW.off O (fun _ _ _ h => h)
 have HRW : Hid _ := hrow
 have hz : w.heap.size < (w.alloc (.cells #[.string key, .int .i64 (f 0), .int .i64 (f 1), .int .i64 (f 2), .int .i64 (f 3), .int .i64 (f 4), .int .i64 (f 5), .int .i64 (f 6), .int .i64 (f 7), .slice a ds.length ca] 49)).heap.size := by simp [World.size_alloc]
 clear hW hrow
 go_enter Tryz.func77, Tryz.ntmps77
 go_upto_region 1 with fail
 generalize hq : w.heap.size = q at C hz ⊢
 have HQ : Hid (w.heap.size ≤ q) := by show _ ≤ _; omega
 have hdq : ¬ D q := fun h => by have := hlt0 q h; omega
 generalize hv : w.alloc (.cells #[.string key, .int .i64 (f 0), .int .i64 (f 1), .int .i64 (f 2), .int .i64 (f 3), .int .i64 (f 4), .int .i64 (f 5), .int .i64 (f 6), .int .i64 (f 7), .slice a ds.length ca] 49) = W at C O W0 hz ⊢
 clear hq hv hlt0
 obtain ⟨kl, hkl⟩ : ∃ x, x = keyL key := ⟨_, rfl⟩
 obtain ⟨kc, W1, hrun, hsrc, o1⟩ := conv_key key W
 rw [← hkl] at hrun hsrc
 have hkz : kl.length ≤ 140737488351232 := by rw [hkl, keyL_len]; exact hks
 have c0 : W.cell? ⟨q, 0, none⟩ = some (.string key) := C.cell 0
 have W2 := W0.off o1 (fun _ _ _ h => h)
 have C1 := C.off o1 (fun h => h)
 have O1 : Off D w W1 := (O.trans o1 (fun _ _ h => h)).mono (fun _ _ h => h.elim)
 have HDL : Hid (∀ c, D c → c < W.heap.size) := W0.lt
 have HKS : Hid _ := hsrc
 have HKL : Hid _ := hkl
 have hz1 := o1.size
 clear W0 C O o1 hsrc hkl
 go_wp2_with fail
 clear c0 hrun
 refine (wtext_any W2 _ kc kl (fun w' o => HKS.out.off o (fun c hc hb h => by simp [blk] at hb; have := HDL.out c h; omega)) (.inr ⟨hm, hst, hkz⟩)).mono ?_
 rintro e v1 ⟨rfl, D1, W3, o2, d1⟩
 have C2 := C1.off o2 hdq
 have O2 : Off D w v1 := O1.trans o2 (fun _ _ h => h)
 have hl1 := put_le hst (numB kl.length ++ kl)
 have hD1 : ∀ c, D1 c → D c ∨ w.heap.size ≤ c := fun c hc => (d1 c hc).imp id (fun h => Nat.le_trans O1.size h)
 have hN1 : ¬ D1 q := fun h => (d1 q h).elim hdq (fun h => by omega)
 have HC2 : Hid _ := C2
 have HO2 : Hid _ := O2
 have HD1 : Hid _ := hD1
 have HN1 : Hid _ := hN1
 have HW3 : Hid _ := W3
 have HZ1 : Hid (q < v1.heap.size) := C2.lt
 obtain ⟨y0, y1, y2, y3, y4, y5, y6, y7, y8, y9⟩ := cel10 C2
 clear W2 C1 C2 O1 O2 o2 d1 hD1 hN1 W3 hz1
 go_wp2_with fail
 clear y0 y1 y2 y3 y4 y5 y6 y7 y8 y9
 refine (vwrite_any HW3.out hm hl1 f hr).mono ?_
 rintro e v2 ⟨rfl, D2, W4, o3, d2⟩
 have C3 := HC2.out.off o3 HN1.out
 have HC3 : Hid _ := C3
 have HO3 : Hid (Off D w v2) := HO2.out.trans o3 (fun k hk h => (HD1.out k h).elim id (fun h2 => by omega))
 have HD2 : Hid (∀ c, D2 c → D c ∨ w.heap.size ≤ c) := fun c hc => (d2 c hc).elim (HD1.out c) (fun h => .inr (Nat.le_trans HO2.out.size h))
 have HN2 : Hid (¬ D2 q) := fun h => (d2 q h).elim HN1.out (fun h => by have := HZ1.out; omega)
 have HZ2 : Hid (q < v2.heap.size) := C3.lt
 have HW4 : Hid _ := W4
 have hl2 := wrV_le hl1 f 8
 obtain ⟨y0, y1, y2, y3, y4, y5, y6, y7, y8, y9⟩ := cel10 C3
 clear C3 o3 d2 W4 HC2 HO2 HD1 HN1 HW3 HZ1
 go_wp2_with fail
 clear y0 y1 y2 y3 y4 y5 y6 y7 y8 y9
 refine (wnum_any HW4.out ds.length (by omega) (.inr ⟨hm, hl2⟩)).mono ?_
 rintro e v3 ⟨rfl, D3, W5, o4, d3⟩
 have C4 := HC3.out.off o4 HN2.out
 have HO4 : Hid (Off D w v3) := HO3.out.trans o4 (fun k hk h => (HD2.out k h).elim id (fun h2 => by omega))
 have HD3 : Hid (∀ c, D3 c → D c ∨ w.heap.size ≤ c) := fun c hc => (d3 c hc).elim (HD2.out c) (fun h => .inr (Nat.le_trans HO3.out.size h))
 have hl3 := put_le hl2 (numB ds.length)
 obtain ⟨st2, hst2⟩ : ∃ s, s = putS most (wrV most (putS most st (numB kl.length ++ kl)) f 8) (numB ds.length) := ⟨_, rfl⟩
 rw [← hst2] at W5 hl3
 have HST2 : Hid (wrG most st key f ds = ds.foldl (wrDt most) st2) := by show _ = _; unfold wrG; rw [← HKL.out, ← hst2]
 have HW5 : Hid _ := W5
 obtain ⟨y0, y1, y2, y3, y4, y5, y6, y7, y8, y9⟩ := cel10 C4
 clear C4 o4 d3 W5 HC3 HO3 HD2 HN2 HW4 HZ2 hst2 hl2 hl1
 go_wp2_with fail
 clear y0 y1 y2 y3 y4 y5 y6 y7 y8 y9
 go_loopw [24] (fun y wr => ∃ (n : Nat) (D' : Nat → Prop), y = .int .i64 (n : Int) ∧ n ≤ ds.length ∧ Wtr D' b most ((ds.take n).foldl (wrDt most) st2) wr ∧ Off D w wr ∧ ∀ c, D' c → D c ∨ w.heap.size ≤ c) (fun y _ => (ds.length - intOf y).toNat)
 case atStart => exact ⟨0, D3, rfl, by omega, by simpa using HW5.out, HO4.out, HD3.out⟩
 case round =>
  clear HW5 HO4 HD3
  obtain ⟨n, D', rfl, hn, hw, O, hD⟩ := hrel
  by_cases hln : n < ds.length
  ·have i1 : decide ((n : Int) < (ds.length : Int)) = true := decide_eq_true (by omega)
   have i2 : decide (n < ds.length) = true := decide_eq_true hln
   obtain ⟨x, hx⟩ : ∃ x, ds[n]? = some x := ⟨_, List.getElem?_eq_getElem hln⟩
   obtain ⟨ba, fa, hay, c0, c1⟩ := (HRW.out wr O).at_ n x hx
   have hrx := hrg.rg x (List.mem_of_getElem? hx)
   have hstep : (ds.take (n + 1)).foldl (wrDt most) st2 = wrDt most ((ds.take n).foldl (wrDt most) st2) x := by
    rw [List.take_add_one, hx, List.foldl_append]; rfl
   have hlw := wrDs_le hl3 (ds.take n)
   obtain ⟨s0, hs0⟩ : ∃ s, s = (ds.take n).foldl (wrDt most) st2 := ⟨_, rfl⟩
   rw [← hs0] at hstep hlw hw
   have HSTEP : Hid _ := hstep
   have HWR : Hid _ := hw
   have HDD : Hid _ := hD
   have eu := u64_wrap x.1
   have hun := u64N_lt x.1
   have hix := idx_dots hln
   clear hs0 hstep hx hw hD
   subst hay
   go_upto_region 7 with fail
   have CX := Cel.new wr 93 #[.int .i64 x.1, .int .i64 x.2]
   have OA : Off (fun _ => False) wr (wr.alloc (.cells #[.int .i64 x.1, .int .i64 x.2] 93)) := (Off.refl _ wr).alloc _
   have hqz : wr.heap.size < (wr.alloc (.cells #[.int .i64 x.1, .int .i64 x.2] 93)).heap.size := by simp [World.size_alloc]
   have hq1 := HWR.out.lt
   generalize hq : wr.heap.size = qx at CX hqz hq1 ⊢
   have hq2 : w.heap.size ≤ qx := by have := O.size; omega
   have HW3 := HWR.out.off OA (fun _ _ _ h => h)
   generalize hv : wr.alloc (.cells #[.int .i64 x.1, .int .i64 x.2] 93) = v0 at CX OA hqz HW3 ⊢
   have O1 : Off D w v0 := O.trans (OA.mono (fun _ _ h => h.elim)) (fun _ _ h => h)
   have hD0 : ∀ c, D' c → D c ∨ w.heap.size ≤ c := HDD.out
   have hN0 : ¬ D' qx := fun h => by have := hq1 qx h; omega
   clear hv hq c0 c1 hix OA O hq1 HWR HDD
   have e0 : v0.cell? ⟨qx, 0, none⟩ = some (.int .i64 x.1) := CX.cell 0
   have e1 : v0.cell? ⟨qx, 1, none⟩ = some (.int .i64 x.2) := CX.cell 1
   go_wp2_with fail
   clear e0 e1
   refine (wnum_any HW3 (u64N x.1) hun (.inr ⟨hm, hlw⟩)).mono ?_
   rintro e v1 ⟨rfl, E1, W1, o1, g1⟩
   have CX1 := CX.off o1 hN0
   have O2 : Off D w v1 := O1.trans o1 (fun k hk h => (hD0 k h).elim id (fun h2 => by omega))
   have hD1 : ∀ c, E1 c → D c ∨ w.heap.size ≤ c := fun c hc => (g1 c hc).elim (hD0 c) (fun h => .inr (Nat.le_trans O1.size h))
   have hl1 := put_le hlw (numB (u64N x.1))
   clear HW3 CX O1 o1 g1 hD0 hN0 hqz
   have e0 : v1.cell? ⟨qx, 0, none⟩ = some (.int .i64 x.1) := CX1.cell 0
   have e1 : v1.cell? ⟨qx, 1, none⟩ = some (.int .i64 x.2) := CX1.cell 1
   go_wp2_with fail
   clear e0 e1
   refine (wint_any W1 x.2 hrx.2.1 hrx.2.2 (.inr ⟨hm, hl1⟩)).mono ?_
   rintro e v2 ⟨rfl, E2, W2, o2, g2⟩
   have O3 : Off D w v2 := O2.trans o2 (fun k hk h => (hD1 k h).elim id (fun h2 => by omega))
   have hD2 : ∀ c, E2 c → D c ∨ w.heap.size ≤ c := fun c hc => (g2 c hc).elim (hD1 c) (fun h => .inr (Nat.le_trans O2.size h))
   have HF : Hid (Wtr E2 b most ((ds.take (n + 1)).foldl (wrDt most) st2) v2) := by rw [HSTEP.out]; exact W2
   have HO3 : Hid _ := O3
   have HD2 : Hid _ := hD2
   clear W1 W2 CX1 O2 O3 o2 g2 hD1 hD2 hl1 hlw HSTEP
   go_wp2_with fail
   go_roundw
   case rel => exact ⟨n + 1, E2, by go_num, by omega, HF.out, HO3.out, HD2.out⟩
   case measure => simp [intOf]; omega
  ·have i1 : decide ((n : Int) < (ds.length : Int)) = false := decide_eq_false (by omega)
   have i2 : decide (n < ds.length) = false := decide_eq_false hln
   have hF : Wtr D' b most (wrG most st key f ds) wr := by
    have e : n = ds.length := by omega
    rw [e, List.take_length, ← HST2.out] at hw
    exact hw
   have HF : Hid _ := hF
   have HO : Hid _ := O
   have HDD : Hid _ := hD
   clear hF hw O hD
   go_wp2_with fail
   first | go_end0 | refine bodyPost_ret (results_none rfl _ _ _) rfl ?_
   exact ⟨rfl, D', HF.out, HO.out, HDD.out⟩
set_option maxRecDepth 100000 in
set_option maxHeartbeats 2000000 in
theorem gdwrite_any {D : Nat → Prop} {b most : Nat} {st : Option (List Nat)} {w : World} (hW : FW D b most st w) (hm : most ≤ 140737488355328) (hst : (st.getD []).length ≤ most) (key : ByteArray) (hks : key.size ≤ 140737488351232) (f : Nat → Int) (hr : ∀ j, j < 8 → -9223372036854775808 ≤ f j ∧ f j ≤ 9223372036854775807) (a : Option Addr) (ca : Nat) (ds : List (Int × Int)) (hrg : RgD ds) (hrow : ∀ w', Off D w w' → RowD w' a ca ds) :
  Calls Tryz.prog 17 #[.pointer (some ⟨b, 0, none⟩), .agg #[.string key, .int .i64 (f 0), .int .i64 (f 1), .int .i64 (f 2), .int .i64 (f 3), .int .i64 (f 4), .int .i64 (f 5), .int .i64 (f 6), .int .i64 (f 7), .slice a ds.length ca]] w fun e w' => e = .returned (.tuple #[]) ∧ ∃ D', FW D' b most (wrG most st key f ds) w' ∧ Off D w w' ∧ ∀ c, D' c → D c ∨ w.heap.size ≤ c := by
 have hlb : ds.length ≤ 9223372036854775807 := by have h := hrow w (Off.refl _ w); have h1 := h.len; have h2 := h.bound; omega
 have hu0 : IntKind.u64.wrap ((ds.length : Nat) : Int) = ((ds.length : Nat) : Int) := by
  simp only [IntKind.wrap, IntKind.bits, IntKind.signed]
  go_num
 have C := Cel.new w 49 #[.string key, .int .i64 (f 0), .int .i64 (f 1), .int .i64 (f 2), .int .i64 (f 3), .int .i64 (f 4), .int .i64 (f 5), .int .i64 (f 6), .int .i64 (f 7), .slice a ds.length ca]
 have O : Off (fun _ => False) w (w.alloc (.cells #[.string key, .int .i64 (f 0), .int .i64 (f 1), .int .i64 (f 2), .int .i64 (f 3), .int .i64 (f 4), .int .i64 (f 5), .int .i64 (f 6), .int .i64 (f 7), .slice a ds.length ca] 49)) := (Off.refl _ w).alloc _
 have hlt0 := hW.lt
 have W0 := hW.off O (fun _ _ _ h => h)
 have HRW : Hid _ := hrow
 have hz : w.heap.size < (w.alloc (.cells #[.string key, .int .i64 (f 0), .int .i64 (f 1), .int .i64 (f 2), .int .i64 (f 3), .int .i64 (f 4), .int .i64 (f 5), .int .i64 (f 6), .int .i64 (f 7), .slice a ds.length ca] 49)).heap.size := by simp [World.size_alloc]
 clear hW hrow
 go_enter Tryz.func17, Tryz.ntmps17
 go_upto_region 1 with fail
 generalize hq : w.heap.size = q at C hz ⊢
 have HQ : Hid (w.heap.size ≤ q) := by show _ ≤ _; omega
 have hdq : ¬ D q := fun h => by have := hlt0 q h; omega
 generalize hv : w.alloc (.cells #[.string key, .int .i64 (f 0), .int .i64 (f 1), .int .i64 (f 2), .int .i64 (f 3), .int .i64 (f 4), .int .i64 (f 5), .int .i64 (f 6), .int .i64 (f 7), .slice a ds.length ca] 49) = W at C O W0 hz ⊢
 clear hq hv hlt0
 obtain ⟨kl, hkl⟩ : ∃ x, x = keyL key := ⟨_, rfl⟩
 obtain ⟨kc, W1, hrun, hsrc, o1⟩ := conv_key key W
 rw [← hkl] at hrun hsrc
 have hkz : kl.length ≤ 140737488351232 := by rw [hkl, keyL_len]; exact hks
 have c0 : W.cell? ⟨q, 0, none⟩ = some (.string key) := C.cell 0
 have W2 := W0.off o1 (fun _ _ _ h => h)
 have C1 := C.off o1 (fun h => h)
 have O1 : Off D w W1 := (O.trans o1 (fun _ _ h => h)).mono (fun _ _ h => h.elim)
 have HDL : Hid (∀ c, D c → c < W.heap.size) := W0.lt
 have HKS : Hid _ := hsrc
 have HKL : Hid _ := hkl
 have hz1 := o1.size
 clear W0 C O o1 hsrc hkl
 go_wp2_with fail
 clear c0 hrun
 refine (fwtext_any W2 _ kc kl HKS.out (.inr ⟨hm, hst, hkz⟩)).mono ?_
 rintro e v1 ⟨rfl, D1, W3, o2, d1⟩
 have C2 := C1.off o2 hdq
 have O2 : Off D w v1 := O1.trans o2 (fun _ _ h => h)
 have hl1 := put_le hst (numB kl.length ++ kl)
 have hD1 : ∀ c, D1 c → D c ∨ w.heap.size ≤ c := fun c hc => (d1 c hc).imp id (fun h => Nat.le_trans O1.size h)
 have hN1 : ¬ D1 q := fun h => (d1 q h).elim hdq (fun h => by omega)
 have HC2 : Hid _ := C2
 have HO2 : Hid _ := O2
 have HD1 : Hid _ := hD1
 have HN1 : Hid _ := hN1
 have HW3 : Hid _ := W3
 have HZ1 : Hid (q < v1.heap.size) := C2.lt
 obtain ⟨y0, y1, y2, y3, y4, y5, y6, y7, y8, y9⟩ := cel10 C2
 clear W2 C1 C2 O1 O2 o2 d1 hD1 hN1 W3 hz1
 go_wp2_with fail
 clear y0 y1 y2 y3 y4 y5 y6 y7 y8 y9
 refine (gvwrite_any HW3.out hm hl1 f hr).mono ?_
 rintro e v2 ⟨rfl, D2, W4, o3, d2⟩
 have C3 := HC2.out.off o3 HN1.out
 have HC3 : Hid _ := C3
 have HO3 : Hid (Off D w v2) := HO2.out.trans o3 (fun k hk h => (HD1.out k h).elim id (fun h2 => by omega))
 have HD2 : Hid (∀ c, D2 c → D c ∨ w.heap.size ≤ c) := fun c hc => (d2 c hc).elim (HD1.out c) (fun h => .inr (Nat.le_trans HO2.out.size h))
 have HN2 : Hid (¬ D2 q) := fun h => (d2 q h).elim HN1.out (fun h => by have := HZ1.out; omega)
 have HZ2 : Hid (q < v2.heap.size) := C3.lt
 have HW4 : Hid _ := W4
 have hl2 := wrV_le hl1 f 8
 obtain ⟨y0, y1, y2, y3, y4, y5, y6, y7, y8, y9⟩ := cel10 C3
 clear C3 o3 d2 W4 HC2 HO2 HD1 HN1 HW3 HZ1
 go_wp2_with fail
 clear y0 y1 y2 y3 y4 y5 y6 y7 y8 y9
 refine (fwnum_any HW4.out ds.length (by omega) (.inr ⟨hm, hl2⟩)).mono ?_
 rintro e v3 ⟨rfl, D3, W5, o4, d3⟩
 have C4 := HC3.out.off o4 HN2.out
 have HO4 : Hid (Off D w v3) := HO3.out.trans o4 (fun k hk h => (HD2.out k h).elim id (fun h2 => by omega))
 have HD3 : Hid (∀ c, D3 c → D c ∨ w.heap.size ≤ c) := fun c hc => (d3 c hc).elim (HD2.out c) (fun h => .inr (Nat.le_trans HO3.out.size h))
 have hl3 := put_le hl2 (numB ds.length)
 obtain ⟨st2, hst2⟩ : ∃ s, s = putS most (wrV most (putS most st (numB kl.length ++ kl)) f 8) (numB ds.length) := ⟨_, rfl⟩
 rw [← hst2] at W5 hl3
 have HST2 : Hid (wrG most st key f ds = ds.foldl (wrDt most) st2) := by show _ = _; unfold wrG; rw [← HKL.out, ← hst2]
 have HW5 : Hid _ := W5
 obtain ⟨y0, y1, y2, y3, y4, y5, y6, y7, y8, y9⟩ := cel10 C4
 clear C4 o4 d3 W5 HC3 HO3 HD2 HN2 HW4 HZ2 hst2 hl2 hl1
 go_wp2_with fail
 clear y0 y1 y2 y3 y4 y5 y6 y7 y8 y9
 go_loopw [24] (fun y wr => ∃ (n : Nat) (D' : Nat → Prop), y = .int .i64 (n : Int) ∧ n ≤ ds.length ∧ FW D' b most ((ds.take n).foldl (wrDt most) st2) wr ∧ Off D w wr ∧ ∀ c, D' c → D c ∨ w.heap.size ≤ c) (fun y _ => (ds.length - intOf y).toNat)
 case atStart => exact ⟨0, D3, rfl, by omega, by simpa using HW5.out, HO4.out, HD3.out⟩
 case round =>
  clear HW5 HO4 HD3
  obtain ⟨n, D', rfl, hn, hw, O, hD⟩ := hrel
  by_cases hln : n < ds.length
  ·have i1 : decide ((n : Int) < (ds.length : Int)) = true := decide_eq_true (by omega)
   have i2 : decide (n < ds.length) = true := decide_eq_true hln
   obtain ⟨x, hx⟩ : ∃ x, ds[n]? = some x := ⟨_, List.getElem?_eq_getElem hln⟩
   obtain ⟨ba, fa, hay, c0, c1⟩ := (HRW.out wr O).at_ n x hx
   have hrx := hrg.rg x (List.mem_of_getElem? hx)
   have hstep : (ds.take (n + 1)).foldl (wrDt most) st2 = wrDt most ((ds.take n).foldl (wrDt most) st2) x := by
    rw [List.take_add_one, hx, List.foldl_append]; rfl
   have hlw := wrDs_le hl3 (ds.take n)
   obtain ⟨s0, hs0⟩ : ∃ s, s = (ds.take n).foldl (wrDt most) st2 := ⟨_, rfl⟩
   rw [← hs0] at hstep hlw hw
   have HSTEP : Hid _ := hstep
   have HWR : Hid _ := hw
   have HDD : Hid _ := hD
   have eu := u64_wrap x.1
   have hun := u64N_lt x.1
   have hix := idx_dots hln
   clear hs0 hstep hx hw hD
   subst hay
   go_upto_region 7 with fail
   have CX := Cel.new wr 93 #[.int .i64 x.1, .int .i64 x.2]
   have OA : Off (fun _ => False) wr (wr.alloc (.cells #[.int .i64 x.1, .int .i64 x.2] 93)) := (Off.refl _ wr).alloc _
   have hqz : wr.heap.size < (wr.alloc (.cells #[.int .i64 x.1, .int .i64 x.2] 93)).heap.size := by simp [World.size_alloc]
   have hq1 := HWR.out.lt
   generalize hq : wr.heap.size = qx at CX hqz hq1 ⊢
   have hq2 : w.heap.size ≤ qx := by have := O.size; omega
   have HW3 := HWR.out.off OA (fun _ _ _ h => h)
   generalize hv : wr.alloc (.cells #[.int .i64 x.1, .int .i64 x.2] 93) = v0 at CX OA hqz HW3 ⊢
   have O1 : Off D w v0 := O.trans (OA.mono (fun _ _ h => h.elim)) (fun _ _ h => h)
   have hD0 : ∀ c, D' c → D c ∨ w.heap.size ≤ c := HDD.out
   have hN0 : ¬ D' qx := fun h => by have := hq1 qx h; omega
   clear hv hq c0 c1 hix OA O hq1 HWR HDD
   have e0 : v0.cell? ⟨qx, 0, none⟩ = some (.int .i64 x.1) := CX.cell 0
   have e1 : v0.cell? ⟨qx, 1, none⟩ = some (.int .i64 x.2) := CX.cell 1
   go_wp2_with fail
   clear e0 e1
   refine (fwnum_any HW3 (u64N x.1) hun (.inr ⟨hm, hlw⟩)).mono ?_
   rintro e v1 ⟨rfl, E1, W1, o1, g1⟩
   have CX1 := CX.off o1 hN0
   have O2 : Off D w v1 := O1.trans o1 (fun k hk h => (hD0 k h).elim id (fun h2 => by omega))
   have hD1 : ∀ c, E1 c → D c ∨ w.heap.size ≤ c := fun c hc => (g1 c hc).elim (hD0 c) (fun h => .inr (Nat.le_trans O1.size h))
   have hl1 := put_le hlw (numB (u64N x.1))
   clear HW3 CX O1 o1 g1 hD0 hN0 hqz
   have e0 : v1.cell? ⟨qx, 0, none⟩ = some (.int .i64 x.1) := CX1.cell 0
   have e1 : v1.cell? ⟨qx, 1, none⟩ = some (.int .i64 x.2) := CX1.cell 1
   go_wp2_with fail
   clear e0 e1
   refine (fwint_any W1 x.2 hrx.2.1 hrx.2.2 (.inr ⟨hm, hl1⟩)).mono ?_
   rintro e v2 ⟨rfl, E2, W2, o2, g2⟩
   have O3 : Off D w v2 := O2.trans o2 (fun k hk h => (hD1 k h).elim id (fun h2 => by omega))
   have hD2 : ∀ c, E2 c → D c ∨ w.heap.size ≤ c := fun c hc => (g2 c hc).elim (hD1 c) (fun h => .inr (Nat.le_trans O2.size h))
   have HF : Hid (FW E2 b most ((ds.take (n + 1)).foldl (wrDt most) st2) v2) := by rw [HSTEP.out]; exact W2
   have HO3 : Hid _ := O3
   have HD2 : Hid _ := hD2
   clear W1 W2 CX1 O2 O3 o2 g2 hD1 hD2 hl1 hlw HSTEP
   go_wp2_with fail
   go_roundw
   case rel => exact ⟨n + 1, E2, by go_num, by omega, HF.out, HO3.out, HD2.out⟩
   case measure => simp [intOf]; omega
  ·have i1 : decide ((n : Int) < (ds.length : Int)) = false := decide_eq_false (by omega)
   have i2 : decide (n < ds.length) = false := decide_eq_false hln
   have hF : FW D' b most (wrG most st key f ds) wr := by
    have e : n = ds.length := by omega
    rw [e, List.take_length, ← HST2.out] at hw
    exact hw
   have HF : Hid _ := hF
   have HO : Hid _ := O
   have HDD : Hid _ := hD
   clear hF hw O hD
   go_wp2_with fail
   first | go_end0 | refine bodyPost_ret (results_none rfl _ _ _) rfl ?_
   exact ⟨rfl, D', HF.out, HO.out, HDD.out⟩
end Go.Proofs.YtmbphlkohlggfaaGreat
