/- Items of several texts. -/
import Derived.Test.YtpnnpdfmoldiiaaCDbP
import Derived.Test.YtpnnpdfmoldiiaaCDrd
import Derived.Test.YtpnnpdfmoldiiaaCOf13
namespace Go.Proofs.Ytpnnpdfmoldiiaa
open Go.RowKit
structure Bk (d : G) (st : Option (List Nat)) (X : List Nat) : Prop where
 lt : ∀ y ∈ X, y < 256
 len : X.length ≤ 5000
 er : errW st = 0 → X = encG (keyL d.key) d.f d.ds
theorem back_data (d : G) : Bk d (wrG 5000 (some []) d.key d.f d.ds) ((wrG 5000 (some []) d.key d.f d.ds).getD []) := by
 have hle := wrG_le (most := 5000) (st := some []) (by simp) d.key d.f d.ds
 rcases wrG_cases 5000 d.key d.f d.ds with h | h
 ·rw [h]
  exact ⟨fun y hy => by simp at hy, by simp, fun e => by simp [errW] at e⟩
 ·rw [h] at hle ⊢
  exact ⟨encG_lt, hle, fun _ => rfl⟩
set_option maxRecDepth 100000 in
set_option maxHeartbeats 1000000 in
theorem back_walk (d : G) (w : World) (hks : d.key.size ≤ reachBytes) (hd : RowD w d.a d.cap d.ds ∧ RgD d.ds ∧ RgF d.f) :
  Calls Try.prog 8 #[.agg #[.string d.key, .int .i64 (d.f 0), .int .i64 (d.f 1), .int .i64 (d.f 2), .int .i64 (d.f 3), .int .i64 (d.f 4), .int .i64 (d.f 5), .int .i64 (d.f 6), .int .i64 (d.f 7), .slice d.a d.ds.length d.cap]] w fun e w' => e = .returned (.bool true) ∧ Off (fun _ => False) w w' := by
 obtain ⟨hd, hrd, hrf⟩ := hd
 have hnot := not_any
 have C0 := Cel.new w 27 #[.string d.key, .int .i64 (d.f 0), .int .i64 (d.f 1), .int .i64 (d.f 2), .int .i64 (d.f 3), .int .i64 (d.f 4), .int .i64 (d.f 5), .int .i64 (d.f 6), .int .i64 (d.f 7), .slice d.a d.ds.length d.cap]
 have O0 : Off (fun _ => False) w (w.alloc (.cells #[.string d.key, .int .i64 (d.f 0), .int .i64 (d.f 1), .int .i64 (d.f 2), .int .i64 (d.f 3), .int .i64 (d.f 4), .int .i64 (d.f 5), .int .i64 (d.f 6), .int .i64 (d.f 7), .slice d.a d.ds.length d.cap] 27)) := (Off.refl _ w).alloc _
 go_enter Try.func8, Try.ntmps8
 go_upto_region 1 with fail
 generalize hq : w.heap.size = q at C0 ⊢
 generalize hv : w.alloc (.cells #[.string d.key, .int .i64 (d.f 0), .int .i64 (d.f 1), .int .i64 (d.f 2), .int .i64 (d.f 3), .int .i64 (d.f 4), .int .i64 (d.f 5), .int .i64 (d.f 6), .int .i64 (d.f 7), .slice d.a d.ds.length d.cap] 27) = W at C0 O0 ⊢
 clear hq hv
 have HC : Hid _ := C0
 have HO : Hid _ := O0
 have HD0 : Hid _ := hd
 have HD : Hid _ := hd.off O0
 have HKS : Hid (d.key.size ≤ 140737488351232) := hks
 obtain ⟨y0, y1, y2, y3, y4, y5, y6, y7, y8, y9⟩ := cel10 C0
 have CB := Cel.new W 27 #[.string d.key, .int .i64 (d.f 0), .int .i64 (d.f 1), .int .i64 (d.f 2), .int .i64 (d.f 3), .int .i64 (d.f 4), .int .i64 (d.f 5), .int .i64 (d.f 6), .int .i64 (d.f 7), .slice d.a d.ds.length d.cap]
 have OB : Off (fun _ => False) W (W.alloc (.cells #[.string d.key, .int .i64 (d.f 0), .int .i64 (d.f 1), .int .i64 (d.f 2), .int .i64 (d.f 3), .int .i64 (d.f 4), .int .i64 (d.f 5), .int .i64 (d.f 6), .int .i64 (d.f 7), .slice d.a d.ds.length d.cap] 27)) := (Off.refl _ W).alloc _
 have HGS : Hid _ := dgs_one CB (HD.out.off OB)
 have HOB : Hid _ := OB
 clear C0 O0 hd CB OB hks
 go_wp2_with fail
 clear y0 y1 y2 y3 y4 y5 y6 y7 y8 y9
 refine (thin_any (some ⟨W.heap.size, 0, none⟩) 1 [d] _ HGS.out).mono ?_
 rintro e v1 ⟨rfl, o1⟩
 have HP1 : Hid _ := HOB.out.trans o1 (fun _ _ h => h)
 have HO1 : Hid _ := HO.out.trans HP1.out (fun _ _ h => h)
 clear o1 HGS HOB
 cases htn : thinG [d]
 ·go_wp2_with fail
  refine (awake_any _).mono ?_
  rintro e ua ⟨rfl, oa⟩
  go_wp2_with fail
  go_ret
  exact ⟨rfl, HO1.out.trans oa (fun _ _ h => h)⟩
 have hdl : d.ds.length ≤ 1000 := by have := (thin_iff.1 htn).2 d (by simp); omega
 clear htn
 go_wp2_with fail
 refine (newWriter_any 5000 (by decide) v1).mono ?_
 rintro e v2 ⟨rfl, hW, o2⟩
 have hsz : v1.heap.size < v2.heap.size := hW.lt _ rfl
 generalize hqw : v1.heap.size = qw at hW hsz ⊢
 have HQW : Hid (v1.heap.size ≤ qw) := by show _ ≤ _; omega
 have HWR : Hid (Wtr (fun c => c = qw) qw 5000 (some []) v2) := hW
 have HO2 : Hid _ := HO1.out.trans o2 (fun _ _ h => h)
 have HP2 : Hid _ := HP1.out.trans o2 (fun _ _ h => h)
 have HC2 : Hid _ := HC.out.off HP2.out (fun h => h)
 have HQL : Hid (q < v1.heap.size ∧ w.heap.size ≤ v1.heap.size) := ⟨(HC.out.off HP1.out (fun h => h)).lt, HO1.out.size⟩
 have HDL : Hid (∀ c, (fun c => c = qw) c → v1.heap.size ≤ c) := fun c hc => by have := HQW.out; have hc : c = qw := hc; omega
 obtain ⟨y0, y1, y2, y3, y4, y5, y6, y7, y8, y9⟩ := cel10 HC2.out
 clear hqw hW hsz o2 HP1
 go_wp2_with fail
 clear y0 y1 y2 y3 y4 y5 y6 y7 y8 y9
 refine (dwrite_any HWR.out (by decide) (by simp) d.key HKS.out d.f hrf.rg d.a d.cap d.ds hrd (fun w' o => HD0.out.off (HO2.out.trans o (fun i hi e => by have := HQW.out; have := HQL.out; omega)))).mono ?_
 rintro e v3 ⟨rfl, D3, W3, o3, d3⟩
 have HO3 : Hid (Off (fun _ => False) w v3) := HO2.out.trans o3 (fun i hi e => by have := HQW.out; have := HQL.out; omega)
 have HC3 : Hid _ := HC2.out.off o3 (fun e => by have := HQW.out; have := HQL.out; omega)
 have hbk := back_data d
 obtain ⟨st, hst⟩ : ∃ st, st = wrG 5000 (some []) d.key d.f d.ds := ⟨_, rfl⟩
 rw [← hst] at W3 hbk
 obtain ⟨X, hX⟩ : ∃ X, X = st.getD [] := ⟨_, rfl⟩
 rw [← hX] at hbk
 have HX : Hid _ := hX
 have HBK : Hid _ := hbk
 have HW3 : Hid _ := W3
 clear hst hX hbk W3 o3 d3 HWR HC2 HDL HP2 HC HD
 go_wp2_with fail
 refine (done_any HW3.out (by rw [← HX.out]; have := HBK.out.len; omega)).mono ?_
 rw [← HX.out]
 rintro e v4 ⟨tt, tc, rfl, own4, nw4, o4⟩
 obtain ⟨er, her⟩ : ∃ er, er = errW st := ⟨_, rfl⟩
 rw [← her]
 have HER : Hid _ := her
 have HS4 : Hid _ := own4.src
 have HO4 : Hid _ := HO3.out.trans o4 (fun _ _ h => h)
 have HC4 : Hid _ := HC3.out.off o4 (fun h => h)
 clear own4 nw4 o4 her HC3 HO3
 go_wp2_with fail
 refine (newReader_any tt tc X (by have := HBK.out.len; omega) HBK.out.lt v4 HS4.out).mono ?_
 rintro e v5 ⟨b5, D5, rfl, hb5, hD5, R5, o5⟩
 have HB5 : Hid _ := hb5
 have HD5 : Hid (∀ c, D5 c → v4.heap.size ≤ c) := hD5
 have HR5 : Hid _ := R5
 have HO5 : Hid _ := HO4.out.trans o5 (fun _ _ h => h)
 have HC5 : Hid _ := HC4.out.off o5 (fun h => h)
 have HZ5 : Hid (q < v4.heap.size ∧ w.heap.size ≤ v4.heap.size) := ⟨HC4.out.lt, HO4.out.size⟩
 clear hb5 hD5 R5 o5 HC4
 go_wp2_with fail
 refine (dread_any HR5.out).mono ?_
 rintro e v6 ⟨kx, hx, ax, cx, dx, rfl, ek, eh, ed, rx, nx, R6, o6⟩
 obtain ⟨ok, hok⟩ : ∃ ok, ok = drB nodeP (X, 0) := ⟨_, rfl⟩
 rw [← hok]
 have HOK : Hid _ := hok
 have HEK : Hid _ := ek
 have HEH : Hid _ := eh
 have HED : Hid _ := ed
 have HR6 : Hid _ := R6
 have HO6 : Hid _ := HO5.out.trans o6 (fun i hi e => by have := HB5.out; have := HZ5.out; omega)
 have HC6 : Hid _ := HC5.out.off o6 (fun e => by have := HB5.out; have := HZ5.out; omega)
 have HRX : Hid _ := rx
 clear hok ek eh ed R6 o6 rx nx HC5 HO5 HO4
 have CX := Cel.new v6 27 #[.string kx, .int .i64 (hx 0), .int .i64 (hx 1), .int .i64 (hx 2), .int .i64 (hx 3), .int .i64 (hx 4), .int .i64 (hx 5), .int .i64 (hx 6), .int .i64 (hx 7), .slice ax dx.length cx]
 have OX : Off (fun _ => False) v6 (v6.alloc (.cells #[.string kx, .int .i64 (hx 0), .int .i64 (hx 1), .int .i64 (hx 2), .int .i64 (hx 3), .int .i64 (hx 4), .int .i64 (hx 5), .int .i64 (hx 6), .int .i64 (hx 7), .slice ax dx.length cx] 27)) := (Off.refl _ v6).alloc _
 go_upto_region 8 with fail
 generalize hqx : v6.heap.size = qx at CX ⊢
 generalize hvx : v6.alloc (.cells #[.string kx, .int .i64 (hx 0), .int .i64 (hx 1), .int .i64 (hx 2), .int .i64 (hx 3), .int .i64 (hx 4), .int .i64 (hx 5), .int .i64 (hx 6), .int .i64 (hx 7), .slice ax dx.length cx] 27) = v7 at CX OX ⊢
 clear hqx hvx
 have HX7 : Hid _ := CX
 have HO7 : Hid _ := HO6.out.trans OX (fun _ _ h => h)
 have HC7 : Hid _ := HC6.out.off OX (fun h => h)
 have HR7 : Hid _ := HR6.out.off OX (fun h => h) (fun _ _ _ h => h)
 have HRX7 : Hid _ := HRX.out.off OX
 clear CX OX HO6 HC6 HR6 HRX
 by_cases he : er = 0
 case neg =>
  have e0 : (((er : Nat) : Int) != 0) = true := by simp [he]
  go_wp2_with fail
  refine (awake_any _).mono ?_
  rintro e ua ⟨rfl, oa⟩
  go_wp2_with fail
  go_ret
  exact ⟨rfl, HO7.out.trans oa (fun _ _ h => h)⟩
 have e0 : (((er : Nat) : Int) != 0) = false := by simp [he]
 have hXe : X = encG (keyL d.key) d.f d.ds := HBK.out.er (by rw [← HER.out]; exact he)
 have hbk := bk_dr HKS.out hrf.rg hrd hdl
 rw [← hXe] at hbk
 have HBB : Hid _ := hbk
 clear he hXe hbk
 obtain ⟨y0, y1, y2, y3, y4, y5, y6, y7, y8, y9⟩ := cel10 HC7.out
 go_wp2_with fail
 clear e0 y0 y1 y2 y3 y4 y5 y6 y7 y8 y9
 refine (dmay_any d.key d.f d.a d.cap d.ds _ (HD0.out.off HO7.out)).mono ?_
 rintro e v8 ⟨rfl, o8⟩
 have HOB : Hid (ok = mayD ⟨d.key, d.f, d.ds⟩) := by show _ = _; rw [HOK.out, HBB.out.1]
 have HO8 : Hid _ := HO7.out.trans o8 (fun _ _ h => h)
 have HC8 : Hid _ := HC7.out.off o8 (fun h => h)
 have HX8 : Hid _ := HX7.out.off o8 (fun h => h)
 have HR8 : Hid _ := HR7.out.off o8 (fun h => h) (fun _ _ _ h => h)
 have HRX8 : Hid _ := HRX7.out.off o8
 clear o8 HC7 HX7 HR7 HRX7 HO7
 cases hmy : mayD ⟨d.key, d.f, d.ds⟩
 ·obtain rfl : ok = false := by rw [HOB.out, hmy]
  go_wp2_with fail
  refine (awake_any _).mono ?_
  rintro e ua ⟨rfl, oa⟩
  go_wp2_with fail
  go_ret
  exact ⟨rfl, HO8.out.trans oa (fun _ _ h => h)⟩
 ·obtain rfl : ok = true := by rw [HOB.out, hmy]
  obtain ⟨b1, b2, b3, b4⟩ := HBB.out.2 hmy
  have HK : Hid (d.key = kx) := by show _ = _; rw [HEK.out, b1]
  have HEQ : Hid (eqB hx d.f = true) := by show _ = _; rw [HEH.out]; simp only [eqB, decide_eq_true_eq]; exact b2
  have HDS : Hid (dx = d.ds) := by show _ = _; rw [HED.out, b3]
  have HEN : Hid (endS (drS (X, 0)) = 0) := b4
  have hdx : dx.length ≤ 1000 := by rw [HDS.out]; exact hdl
  have HDX : Hid _ := hdx
  obtain ⟨y0, y1, y2, y3, y4, y5, y6, y7, y8, y9⟩ := cel10 HX8.out
  have CA := Cel.new v8 27 #[.string kx, .int .i64 (hx 0), .int .i64 (hx 1), .int .i64 (hx 2), .int .i64 (hx 3), .int .i64 (hx 4), .int .i64 (hx 5), .int .i64 (hx 6), .int .i64 (hx 7), .slice ax dx.length cx]
  have OA : Off (fun _ => False) v8 (v8.alloc (.cells #[.string kx, .int .i64 (hx 0), .int .i64 (hx 1), .int .i64 (hx 2), .int .i64 (hx 3), .int .i64 (hx 4), .int .i64 (hx 5), .int .i64 (hx 6), .int .i64 (hx 7), .slice ax dx.length cx] 27)) := (Off.refl _ v8).alloc _
  have CB := Cel.new1 v8 (.cells #[.string kx, .int .i64 (hx 0), .int .i64 (hx 1), .int .i64 (hx 2), .int .i64 (hx 3), .int .i64 (hx 4), .int .i64 (hx 5), .int .i64 (hx 6), .int .i64 (hx 7), .slice ax dx.length cx] 27) 27 #[.string d.key, .int .i64 (d.f 0), .int .i64 (d.f 1), .int .i64 (d.f 2), .int .i64 (d.f 3), .int .i64 (d.f 4), .int .i64 (d.f 5), .int .i64 (d.f 6), .int .i64 (d.f 7), .slice d.a d.ds.length d.cap]
  have OB : Off (fun _ => False) v8 ((v8.alloc (.cells #[.string kx, .int .i64 (hx 0), .int .i64 (hx 1), .int .i64 (hx 2), .int .i64 (hx 3), .int .i64 (hx 4), .int .i64 (hx 5), .int .i64 (hx 6), .int .i64 (hx 7), .slice ax dx.length cx] 27)).alloc (.cells #[.string d.key, .int .i64 (d.f 0), .int .i64 (d.f 1), .int .i64 (d.f 2), .int .i64 (d.f 3), .int .i64 (d.f 4), .int .i64 (d.f 5), .int .i64 (d.f 6), .int .i64 (d.f 7), .slice d.a d.ds.length d.cap] 27)) := ((Off.refl _ v8).alloc _).alloc _
  have HA : Hid _ := dgs_one (d := ⟨kx, hx, ax, cx, dx⟩) (CA.alloc (.cells #[.string d.key, .int .i64 (d.f 0), .int .i64 (d.f 1), .int .i64 (d.f 2), .int .i64 (d.f 3), .int .i64 (d.f 4), .int .i64 (d.f 5), .int .i64 (d.f 6), .int .i64 (d.f 7), .slice d.a d.ds.length d.cap] 27)) (HRX8.out.off OB)
  have HB : Hid _ := dgs_one CB (HD0.out.off (HO8.out.trans OB (fun _ _ h => h)))
  have HOA : Hid _ := OB
  obtain ⟨z0, z1, z2, z3, z4, z5, z6, z7, z8, z9⟩ := cel10 (HC8.out.off OA (fun h => h))
  clear b1 b2 b3 b4 CA OA CB OB hmy hdx
  go_wp2_with fail
  clear y0 y1 y2 y3 y4 y5 y6 y7 y8 y9 z0 z1 z2 z3 z4 z5 z6 z7 z8 z9
  refine (samedgs_any (some ⟨v8.heap.size, 0, none⟩) (some ⟨v8.heap.size + 1, 0, none⟩) 1 1 [⟨kx, hx, ax, cx, dx⟩] [d] _ HA.out HB.out rfl (fun i x y hx hy => ?_) (by simp)).mono ?_
  ·rcases i with _ | i
   ·simp at hx hy
    subst hx hy
    exact ⟨HK.out, HEQ.out, HDS.out, HDX.out⟩
   ·simp at hx
  rintro e v9 ⟨rfl, o9⟩
  have HO9 : Hid _ := HO8.out.trans (HOA.out.trans o9 (fun _ _ h => h)) (fun _ _ h => h)
  have HR9 : Hid _ := HR8.out.off (HOA.out.trans o9 (fun _ _ h => h)) (fun h => h) (fun _ _ _ h => h)
  clear o9 HA HB
  go_wp2_with fail
  refine (rend_any HR9.out).mono ?_
  rw [HEN.out]
  rintro e v10 ⟨rfl, hw⟩
  rw [hw]
  clear hw v10
  go_wp2_with fail
  refine (awake_any _).mono ?_
  rintro e ua ⟨rfl, oa⟩
  go_wp2_with fail
  go_ret
  exact ⟨rfl, HO9.out.trans oa (fun _ _ h => h)⟩
end Go.Proofs.Ytpnnpdfmoldiiaa
