/- Items of several texts. -/
import Derived.Test.YtpnnpdfmoldiiaaAArg13
import Derived.Test.YtpnnpdfmoldiiaaADof
import Derived.Test.YtpnnpdfmoldiiaaADmy
import Derived.Test.YtpnnpdfmoldiiaaALaw13
import Derived.Test.YtpnnpdfmoldiiaaASmd
namespace Go.Proofs.Ytpnnpdfmoldiiaa
open Go.RowKit
theorem dgs_one {b : Nat} {d : G} {w : World} (h : Cel b 27 #[.string d.key, .int .i64 (d.f 0), .int .i64 (d.f 1), .int .i64 (d.f 2), .int .i64 (d.f 3), .int .i64 (d.f 4), .int .i64 (d.f 5), .int .i64 (d.f 6), .int .i64 (d.f 7), .slice d.a d.ds.length d.cap] w) (hr : RowD w d.a d.cap d.ds) : Dgs w (some ⟨b, 0, none⟩) 1 [d] := by
 refine ⟨by simp, by omega, fun i g hi => ?_⟩
 rcases i with _ | i
 ·simp at hi
  subst hi
  refine ⟨b, 0, rfl, fun j u hj => ?_, hr⟩
  rw [show 0 + 0 * 10 + j = j by omega, h.cell j, ← hj, List.getElem?_toArray]
  rfl
 ·simp at hi
theorem abs_same {xs ys : List G} (h : xs.map G.abs = ys.map G.abs) (hl : ∀ g ∈ xs, g.ds.length ≤ 1000) : ∀ (i : Nat) (x y : G), xs[i]? = some x → ys[i]? = some y → y.key = x.key ∧ eqB x.f y.f = true ∧ x.ds = y.ds ∧ x.ds.length ≤ 1000 := by
 intro i x y hx hy
 have e : x.abs = y.abs := by
  have := congrArg (fun z => z[i]?) h
  simpa [hx, hy] using this
 have e1 : x.key = y.key := congrArg GK.key e
 have e2 : x.f = y.f := congrArg GK.f e
 have e3 : x.ds = y.ds := congrArg GK.ds e
 refine ⟨e1.symm, ?_, e3, hl x (List.mem_of_getElem? hx)⟩
 rw [e2]
 simp [eqB]
set_option maxRecDepth 100000 in
set_option maxHeartbeats 4000000 in
theorem of_walk (a : Option Addr) (cap : Nat) (es : List E) (d : G) (w : World) (hE : Ens w a cap es) (_ : ∀ e ∈ es, e.key.size ≤ maxLen ∧ (∀ j, j < 8 → -9223372036854775808 ≤ e.f j ∧ e.f j ≤ 9223372036854775807)) (_ : d.key.size ≤ reachBytes) (hd : RowD w d.a d.cap d.ds ∧ RgD d.ds ∧ RgF d.f) :
  Calls Try.prog 3 #[.slice a es.length cap, .agg #[.string d.key, .int .i64 (d.f 0), .int .i64 (d.f 1), .int .i64 (d.f 2), .int .i64 (d.f 3), .int .i64 (d.f 4), .int .i64 (d.f 5), .int .i64 (d.f 6), .int .i64 (d.f 7), .slice d.a d.ds.length d.cap]] w fun e w' => e = .returned (.bool true) ∧ Off (fun _ => False) w w' := by
 replace hd := hd.1
 have C0 := Cel.new w 27 #[.string d.key, .int .i64 (d.f 0), .int .i64 (d.f 1), .int .i64 (d.f 2), .int .i64 (d.f 3), .int .i64 (d.f 4), .int .i64 (d.f 5), .int .i64 (d.f 6), .int .i64 (d.f 7), .slice d.a d.ds.length d.cap]
 have O0 : Off (fun _ => False) w (w.alloc (.cells #[.string d.key, .int .i64 (d.f 0), .int .i64 (d.f 1), .int .i64 (d.f 2), .int .i64 (d.f 3), .int .i64 (d.f 4), .int .i64 (d.f 5), .int .i64 (d.f 6), .int .i64 (d.f 7), .slice d.a d.ds.length d.cap] 27)) := (Off.refl _ w).alloc _
 go_enter Try.func3, Try.ntmps3
 go_upto_region 1 with fail
 generalize hq : w.heap.size = q at C0 ⊢
 generalize hv : w.alloc (.cells #[.string d.key, .int .i64 (d.f 0), .int .i64 (d.f 1), .int .i64 (d.f 2), .int .i64 (d.f 3), .int .i64 (d.f 4), .int .i64 (d.f 5), .int .i64 (d.f 6), .int .i64 (d.f 7), .slice d.a d.ds.length d.cap] 27) = W at C0 O0 ⊢
 clear hq hv
 have HC : Hid _ := C0
 have HO : Hid _ := O0
 have HE : Hid _ := hE.off O0
 have HD : Hid _ := hd.off O0
 have hnot := not_any
 clear C0 O0 hE hd
 cases hlt : light13 es
 ·refine wp_region_held_drew (S := Off (fun _ => False) W) (by kernel_rfl) ((Off.refl _ W).drew) (fun hS => ?_)
  refine take_at (i := 0) 5 (v := .slice a es.length cap) rfl rfl (by kernel_rfl) (by kernel_rfl) (by kernel_rfl) (fun _ _ _ h => h) (Or.inl ⟨by rfl, fun w' hw' => by go_simp⟩) hS ?_
  simp only [Act.put, lsA, lsZ, lsS]
  refine wpAnyH_ready (rs := [1]) (by kernel_rfl) (by simp) ?_
  refine AllReadyH.cons rfl (fun K' hK' => ?_) AllReadyH.nil
  go_simp
  have hl9 := light_any a cap es _ (HE.out.off hS)
  rw [hlt] at hl9
  refine (hl9).mono ?_
  rintro e v1 ⟨rfl, o1⟩
  have hS1 := hS.trans o1 (fun _ _ h => h)
  refine hK'.out _ _ hS1 (fun hS => ?_)
  clear hK' K' hS1 o1
  clear hl9
  refine take_at (i := 2) 7 (v := .bool true) rfl rfl (by kernel_rfl) (by kernel_rfl) (by kernel_rfl) (fun _ _ _ h => h) (Or.inl ⟨by rfl, fun w' hw' => by go_simp⟩) hS ?_
  simp only [Act.put, lsA, lsZ, lsS]
  refine take_at (i := 3) 8 (v := .bool true) rfl rfl (by kernel_rfl) (by kernel_rfl) (by kernel_rfl) (fun _ _ _ h => h) (Or.inl ⟨by rfl, fun w' hw' => by go_simp⟩) hS ?_
  simp only [Act.put, lsA, lsZ, lsS]
  refine take_at (i := 4) 9 (v := undef) rfl rfl (by kernel_rfl) (by kernel_rfl) (by kernel_rfl) (fun _ _ _ h => h) (Or.inr ⟨by rfl, rfl⟩) hS ?_
  simp only [Act.put, lsA, lsZ, lsS]
  refine take_at (i := 5) 10 (v := undef) rfl rfl (by kernel_rfl) (by kernel_rfl) (by kernel_rfl) (fun _ _ _ h => h) (Or.inr ⟨by rfl, rfl⟩) hS ?_
  simp only [Act.put, lsA, lsZ, lsS]
  refine take_at (i := 6) 11 (v := undef) rfl rfl (by kernel_rfl) (by kernel_rfl) (by kernel_rfl) (fun _ _ _ h => h) (Or.inr ⟨by rfl, rfl⟩) hS ?_
  simp only [Act.put, lsA, lsZ, lsS]
  refine take_at (i := 7) 12 (v := undef) rfl rfl (by kernel_rfl) (by kernel_rfl) (by kernel_rfl) (fun _ _ _ h => h) (Or.inr ⟨by rfl, rfl⟩) hS ?_
  simp only [Act.put, lsA, lsZ, lsS]
  refine take_at (i := 8) 13 (v := .bool true) rfl rfl (by kernel_rfl) (by kernel_rfl) (by kernel_rfl) (fun _ _ _ h => h) (Or.inl ⟨by rfl, fun w' hw' => by go_simp⟩) hS ?_
  simp only [Act.put, lsA, lsZ, lsS]
  refine take_at (i := 9) 14 (v := .bool true) rfl rfl (by kernel_rfl) (by kernel_rfl) (by kernel_rfl) (fun _ _ _ h => h) (Or.inl ⟨by rfl, fun w' hw' => by go_simp⟩) hS ?_
  simp only [Act.put, lsA, lsZ, lsS]
  refine take_at (i := 10) 15 (v := undef) rfl rfl (by kernel_rfl) (by kernel_rfl) (by kernel_rfl) (fun _ _ _ h => h) (Or.inr ⟨by rfl, rfl⟩) hS ?_
  simp only [Act.put, lsA, lsZ, lsS]
  refine take_at (i := 11) 16 (v := undef) rfl rfl (by kernel_rfl) (by kernel_rfl) (by kernel_rfl) (fun _ _ _ h => h) (Or.inr ⟨by rfl, rfl⟩) hS ?_
  simp only [Act.put, lsA, lsZ, lsS]
  refine take_at (i := 12) 17 (v := undef) rfl rfl (by kernel_rfl) (by kernel_rfl) (by kernel_rfl) (fun _ _ _ h => h) (Or.inr ⟨by rfl, rfl⟩) hS ?_
  simp only [Act.put, lsA, lsZ, lsS]
  refine take_at (i := 13) 18 (v := undef) rfl rfl (by kernel_rfl) (by kernel_rfl) (by kernel_rfl) (fun _ _ _ h => h) (Or.inr ⟨by rfl, rfl⟩) hS ?_
  simp only [Act.put, lsA, lsZ, lsS]
  refine take_at (i := 14) 19 (v := undef) rfl rfl (by kernel_rfl) (by kernel_rfl) (by kernel_rfl) (fun _ _ _ h => h) (Or.inr ⟨by rfl, rfl⟩) hS ?_
  simp only [Act.put, lsA, lsZ, lsS]
  refine take_at (i := 15) 20 (v := .bool true) rfl rfl (by kernel_rfl) (by kernel_rfl) (by kernel_rfl) (fun _ _ _ h => h) (Or.inl ⟨by rfl, fun w' hw' => by go_simp⟩) hS ?_
  simp only [Act.put, lsA, lsZ, lsS]
  refine wpAnyH_done (by kernel_rfl) ?_ _
  have HO1 : Hid _ := HO.out.trans hS (fun _ _ h => h)
  have HC1 : Hid _ := HC.out.off hS (fun h => h)
  have HE1 : Hid _ := HE.out.off hS
  have HD1 : Hid _ := HD.out.off hS
  clear hS
  go_wp2_with fail
  have hl9 := light_any a cap es _ HE1.out
  rw [hlt] at hl9
  refine hl9.mono ?_
  rintro e u1 ⟨rfl, o1⟩
  clear hl9
  have HO2 : Hid _ := HO1.out.trans o1 (fun _ _ h => h)
  clear o1
  go_wp2_with fail
  refine (awake_any _).mono ?_
  rintro e ua ⟨rfl, oa⟩
  go_wp2_with fail
  go_ret
  exact ⟨rfl, HO2.out.trans oa (fun _ _ h => h)⟩
 cases htn : thinG [d]
 ·refine wp_region_held_drew (S := Off (fun _ => False) W) (by kernel_rfl) ((Off.refl _ W).drew) (fun hS => ?_)
  refine take_at (i := 0) 5 (v := .slice a es.length cap) rfl rfl (by kernel_rfl) (by kernel_rfl) (by kernel_rfl) (fun _ _ _ h => h) (Or.inl ⟨by rfl, fun w' hw' => by go_simp⟩) hS ?_
  simp only [Act.put, lsA, lsZ, lsS]
  refine wpAnyH_ready (rs := [1]) (by kernel_rfl) (by simp) ?_
  refine AllReadyH.cons rfl (fun K' hK' => ?_) AllReadyH.nil
  go_simp
  have hl9 := light_any a cap es _ (HE.out.off hS)
  rw [hlt] at hl9
  refine (hl9).mono ?_
  rintro e v1 ⟨rfl, o1⟩
  have hS1 := hS.trans o1 (fun _ _ h => h)
  refine hK'.out _ _ hS1 (fun hS => ?_)
  clear hK' K' hS1 o1
  clear hl9
  refine take_at (i := 2) 7 (v := .bool false) rfl rfl (by kernel_rfl) (by kernel_rfl) (by kernel_rfl) (fun _ _ _ h => h) (Or.inl ⟨by rfl, fun w' hw' => by go_simp⟩) hS ?_
  simp only [Act.put, lsA, lsZ, lsS]
  refine take_at (i := 3) 8 (v := .bool false) rfl rfl (by kernel_rfl) (by kernel_rfl) (by kernel_rfl) (fun _ _ _ h => h) (Or.inl ⟨by rfl, fun w' hw' => by go_simp⟩) hS ?_
  simp only [Act.put, lsA, lsZ, lsS]
  refine take_at (i := 4) 9 (v := .agg #[.string d.key, .int .i64 (d.f 0), .int .i64 (d.f 1), .int .i64 (d.f 2), .int .i64 (d.f 3), .int .i64 (d.f 4), .int .i64 (d.f 5), .int .i64 (d.f 6), .int .i64 (d.f 7), .slice d.a d.ds.length d.cap]) rfl rfl (by kernel_rfl) (by kernel_rfl) (by kernel_rfl) (fun _ _ _ h => h) (Or.inl ⟨by rfl, fun w' hw' => by obtain ⟨y0, y1, y2, y3, y4, y5, y6, y7, y8, y9⟩ := cel10 (HC.out.off hw' (fun h => h)); go_simp⟩) hS ?_
  simp only [Act.put, lsA, lsZ, lsS]
  refine wpAnyH_ready (rs := [5]) (by kernel_rfl) (by simp) ?_
  refine AllReadyH.cons rfl (fun K' hK' => ?_) AllReadyH.nil
  go_simp
  have CB := Cel.new v1 27 #[.string d.key, .int .i64 (d.f 0), .int .i64 (d.f 1), .int .i64 (d.f 2), .int .i64 (d.f 3), .int .i64 (d.f 4), .int .i64 (d.f 5), .int .i64 (d.f 6), .int .i64 (d.f 7), .slice d.a d.ds.length d.cap]
  have OB : Off (fun _ => False) v1 (v1.alloc (.cells #[.string d.key, .int .i64 (d.f 0), .int .i64 (d.f 1), .int .i64 (d.f 2), .int .i64 (d.f 3), .int .i64 (d.f 4), .int .i64 (d.f 5), .int .i64 (d.f 6), .int .i64 (d.f 7), .slice d.a d.ds.length d.cap] 27)) := (Off.refl _ v1).alloc _
  have hS1 := hS.trans OB (fun _ _ h => h)
  refine hK'.out _ _ hS1 (fun hS => ?_)
  clear hK' K' hS1
  generalize hqb : v1.heap.size = qb at CB ⊢
  generalize hvb : v1.alloc (.cells #[.string d.key, .int .i64 (d.f 0), .int .i64 (d.f 1), .int .i64 (d.f 2), .int .i64 (d.f 3), .int .i64 (d.f 4), .int .i64 (d.f 5), .int .i64 (d.f 6), .int .i64 (d.f 7), .slice d.a d.ds.length d.cap] 27) = v2 at CB OB hS ⊢
  have HGS : Hid (Dgs v2 (some ⟨qb, 0, none⟩) 1 [d]) := dgs_one CB (HD.out.off hS)
  clear hqb hvb CB OB
  refine wpAnyH_ready (rs := [6]) (by kernel_rfl) (by simp) ?_
  refine AllReadyH.cons rfl (fun K' hK' => ?_) AllReadyH.nil
  go_simp
  have ht9 := thin_any (some ⟨qb, 0, none⟩) 1 [d] _ HGS.out
  rw [htn] at ht9
  refine (ht9).mono ?_
  rintro e v3 ⟨rfl, o1⟩
  have hS1 := hS.trans o1 (fun _ _ h => h)
  refine hK'.out _ _ hS1 (fun hS => ?_)
  clear hK' K' hS1 o1
  clear ht9
  refine take_at (i := 7) 12 (v := .bool true) rfl rfl (by kernel_rfl) (by kernel_rfl) (by kernel_rfl) (fun _ _ _ h => h) (Or.inl ⟨by rfl, fun w' hw' => by go_simp⟩) hS ?_
  simp only [Act.put, lsA, lsZ, lsS]
  refine take_at (i := 8) 13 (v := .bool true) rfl rfl (by kernel_rfl) (by kernel_rfl) (by kernel_rfl) (fun _ _ _ h => h) (Or.inl ⟨by rfl, fun w' hw' => by go_simp⟩) hS ?_
  simp only [Act.put, lsA, lsZ, lsS]
  refine take_at (i := 9) 14 (v := .bool true) rfl rfl (by kernel_rfl) (by kernel_rfl) (by kernel_rfl) (fun _ _ _ h => h) (Or.inl ⟨by rfl, fun w' hw' => by go_simp⟩) hS ?_
  simp only [Act.put, lsA, lsZ, lsS]
  refine take_at (i := 10) 15 (v := undef) rfl rfl (by kernel_rfl) (by kernel_rfl) (by kernel_rfl) (fun _ _ _ h => h) (Or.inr ⟨by rfl, rfl⟩) hS ?_
  simp only [Act.put, lsA, lsZ, lsS]
  refine take_at (i := 11) 16 (v := undef) rfl rfl (by kernel_rfl) (by kernel_rfl) (by kernel_rfl) (fun _ _ _ h => h) (Or.inr ⟨by rfl, rfl⟩) hS ?_
  simp only [Act.put, lsA, lsZ, lsS]
  refine take_at (i := 12) 17 (v := undef) rfl rfl (by kernel_rfl) (by kernel_rfl) (by kernel_rfl) (fun _ _ _ h => h) (Or.inr ⟨by rfl, rfl⟩) hS ?_
  simp only [Act.put, lsA, lsZ, lsS]
  refine take_at (i := 13) 18 (v := undef) rfl rfl (by kernel_rfl) (by kernel_rfl) (by kernel_rfl) (fun _ _ _ h => h) (Or.inr ⟨by rfl, rfl⟩) hS ?_
  simp only [Act.put, lsA, lsZ, lsS]
  refine take_at (i := 14) 19 (v := undef) rfl rfl (by kernel_rfl) (by kernel_rfl) (by kernel_rfl) (fun _ _ _ h => h) (Or.inr ⟨by rfl, rfl⟩) hS ?_
  simp only [Act.put, lsA, lsZ, lsS]
  refine take_at (i := 15) 20 (v := .bool true) rfl rfl (by kernel_rfl) (by kernel_rfl) (by kernel_rfl) (fun _ _ _ h => h) (Or.inl ⟨by rfl, fun w' hw' => by go_simp⟩) hS ?_
  simp only [Act.put, lsA, lsZ, lsS]
  refine wpAnyH_done (by kernel_rfl) ?_ _
  have HO1 : Hid _ := HO.out.trans hS (fun _ _ h => h)
  have HC1 : Hid _ := HC.out.off hS (fun h => h)
  have HE1 : Hid _ := HE.out.off hS
  have HD1 : Hid _ := HD.out.off hS
  clear hS
  go_wp2_with fail
  have hl9 := light_any a cap es _ HE1.out
  rw [hlt] at hl9
  refine hl9.mono ?_
  rintro e u1 ⟨rfl, o1⟩
  clear hl9
  have HO2 : Hid _ := HO1.out.trans o1 (fun _ _ h => h)
  have C2 := HC1.out.off o1 (fun h => h)
  obtain ⟨y0, y1, y2, y3, y4, y5, y6, y7, y8, y9⟩ := cel10 C2
  have HDB : Hid _ := HD1.out.off o1
  have CB := Cel.new u1 27 #[.string d.key, .int .i64 (d.f 0), .int .i64 (d.f 1), .int .i64 (d.f 2), .int .i64 (d.f 3), .int .i64 (d.f 4), .int .i64 (d.f 5), .int .i64 (d.f 6), .int .i64 (d.f 7), .slice d.a d.ds.length d.cap]
  have OB : Off (fun _ => False) u1 (u1.alloc (.cells #[.string d.key, .int .i64 (d.f 0), .int .i64 (d.f 1), .int .i64 (d.f 2), .int .i64 (d.f 3), .int .i64 (d.f 4), .int .i64 (d.f 5), .int .i64 (d.f 6), .int .i64 (d.f 7), .slice d.a d.ds.length d.cap] 27)) := (Off.refl _ u1).alloc _
  have HGS2 : Hid _ := dgs_one CB (HDB.out.off OB)
  have HOB : Hid _ := OB
  clear CB OB C2 o1
  go_wp2_with fail
  clear y0 y1 y2 y3 y4 y5 y6 y7 y8 y9
  have ht9 := thin_any (some ⟨u1.heap.size, 0, none⟩) 1 [d] _ HGS2.out
  rw [htn] at ht9
  refine ht9.mono ?_
  rintro e u2 ⟨rfl, o2⟩
  clear ht9
  go_wp2_with fail
  refine (awake_any _).mono ?_
  rintro e ua ⟨rfl, oa⟩
  go_wp2_with fail
  go_ret
  exact ⟨rfl, ((HO2.out.trans HOB.out (fun _ _ h => h)).trans o2 (fun _ _ h => h)).trans oa (fun _ _ h => h)⟩
 refine wp_region_held_drew (S := Off (fun _ => False) W) (by kernel_rfl) ((Off.refl _ W).drew) (fun hS => ?_)
 refine take_at (i := 0) 5 (v := .slice a es.length cap) rfl rfl (by kernel_rfl) (by kernel_rfl) (by kernel_rfl) (fun _ _ _ h => h) (Or.inl ⟨by rfl, fun w' hw' => by go_simp⟩) hS ?_
 simp only [Act.put, lsA, lsZ, lsS]
 refine wpAnyH_ready (rs := [1]) (by kernel_rfl) (by simp) ?_
 refine AllReadyH.cons rfl (fun K' hK' => ?_) AllReadyH.nil
 go_simp
 have hl9 := light_any a cap es _ (HE.out.off hS)
 rw [hlt] at hl9
 refine (hl9).mono ?_
 rintro e v1 ⟨rfl, o1⟩
 have hS1 := hS.trans o1 (fun _ _ h => h)
 refine hK'.out _ _ hS1 (fun hS => ?_)
 clear hK' K' hS1 o1
 clear hl9
 refine take_at (i := 2) 7 (v := .bool false) rfl rfl (by kernel_rfl) (by kernel_rfl) (by kernel_rfl) (fun _ _ _ h => h) (Or.inl ⟨by rfl, fun w' hw' => by go_simp⟩) hS ?_
 simp only [Act.put, lsA, lsZ, lsS]
 refine take_at (i := 3) 8 (v := .bool false) rfl rfl (by kernel_rfl) (by kernel_rfl) (by kernel_rfl) (fun _ _ _ h => h) (Or.inl ⟨by rfl, fun w' hw' => by go_simp⟩) hS ?_
 simp only [Act.put, lsA, lsZ, lsS]
 refine take_at (i := 4) 9 (v := .agg #[.string d.key, .int .i64 (d.f 0), .int .i64 (d.f 1), .int .i64 (d.f 2), .int .i64 (d.f 3), .int .i64 (d.f 4), .int .i64 (d.f 5), .int .i64 (d.f 6), .int .i64 (d.f 7), .slice d.a d.ds.length d.cap]) rfl rfl (by kernel_rfl) (by kernel_rfl) (by kernel_rfl) (fun _ _ _ h => h) (Or.inl ⟨by rfl, fun w' hw' => by obtain ⟨y0, y1, y2, y3, y4, y5, y6, y7, y8, y9⟩ := cel10 (HC.out.off hw' (fun h => h)); go_simp⟩) hS ?_
 simp only [Act.put, lsA, lsZ, lsS]
 refine wpAnyH_ready (rs := [5]) (by kernel_rfl) (by simp) ?_
 refine AllReadyH.cons rfl (fun K' hK' => ?_) AllReadyH.nil
 go_simp
 have CB := Cel.new v1 27 #[.string d.key, .int .i64 (d.f 0), .int .i64 (d.f 1), .int .i64 (d.f 2), .int .i64 (d.f 3), .int .i64 (d.f 4), .int .i64 (d.f 5), .int .i64 (d.f 6), .int .i64 (d.f 7), .slice d.a d.ds.length d.cap]
 have OB : Off (fun _ => False) v1 (v1.alloc (.cells #[.string d.key, .int .i64 (d.f 0), .int .i64 (d.f 1), .int .i64 (d.f 2), .int .i64 (d.f 3), .int .i64 (d.f 4), .int .i64 (d.f 5), .int .i64 (d.f 6), .int .i64 (d.f 7), .slice d.a d.ds.length d.cap] 27)) := (Off.refl _ v1).alloc _
 have hS1 := hS.trans OB (fun _ _ h => h)
 refine hK'.out _ _ hS1 (fun hS => ?_)
 clear hK' K' hS1
 generalize hqb : v1.heap.size = qb at CB ⊢
 generalize hvb : v1.alloc (.cells #[.string d.key, .int .i64 (d.f 0), .int .i64 (d.f 1), .int .i64 (d.f 2), .int .i64 (d.f 3), .int .i64 (d.f 4), .int .i64 (d.f 5), .int .i64 (d.f 6), .int .i64 (d.f 7), .slice d.a d.ds.length d.cap] 27) = v2 at CB OB hS ⊢
 have HGS : Hid (Dgs v2 (some ⟨qb, 0, none⟩) 1 [d]) := dgs_one CB (HD.out.off hS)
 clear hqb hvb CB OB
 refine wpAnyH_ready (rs := [6]) (by kernel_rfl) (by simp) ?_
 refine AllReadyH.cons rfl (fun K' hK' => ?_) AllReadyH.nil
 go_simp
 have ht9 := thin_any (some ⟨qb, 0, none⟩) 1 [d] _ HGS.out
 rw [htn] at ht9
 refine (ht9).mono ?_
 rintro e v3 ⟨rfl, o1⟩
 have hS1 := hS.trans o1 (fun _ _ h => h)
 refine hK'.out _ _ hS1 (fun hS => ?_)
 clear hK' K' hS1 o1
 clear ht9
 refine take_at (i := 7) 12 (v := .bool false) rfl rfl (by kernel_rfl) (by kernel_rfl) (by kernel_rfl) (fun _ _ _ h => h) (Or.inl ⟨by rfl, fun w' hw' => by go_simp⟩) hS ?_
 simp only [Act.put, lsA, lsZ, lsS]
 refine take_at (i := 8) 13 (v := .bool false) rfl rfl (by kernel_rfl) (by kernel_rfl) (by kernel_rfl) (fun _ _ _ h => h) (Or.inl ⟨by rfl, fun w' hw' => by go_simp⟩) hS ?_
 simp only [Act.put, lsA, lsZ, lsS]
 refine take_at (i := 9) 14 (v := .bool false) rfl rfl (by kernel_rfl) (by kernel_rfl) (by kernel_rfl) (fun _ _ _ h => h) (Or.inl ⟨by rfl, fun w' hw' => by go_simp⟩) hS ?_
 simp only [Act.put, lsA, lsZ, lsS]
 refine take_at (i := 10) 15 (v := .agg #[.string d.key, .int .i64 (d.f 0), .int .i64 (d.f 1), .int .i64 (d.f 2), .int .i64 (d.f 3), .int .i64 (d.f 4), .int .i64 (d.f 5), .int .i64 (d.f 6), .int .i64 (d.f 7), .slice d.a d.ds.length d.cap]) rfl rfl (by kernel_rfl) (by kernel_rfl) (by kernel_rfl) (fun _ _ _ h => h) (Or.inl ⟨by rfl, fun w' hw' => by obtain ⟨y0, y1, y2, y3, y4, y5, y6, y7, y8, y9⟩ := cel10 (HC.out.off hw' (fun h => h)); go_simp⟩) hS ?_
 simp only [Act.put, lsA, lsZ, lsS]
 refine take_at (i := 12) 17 (v := .agg #[.string d.key, .int .i64 (d.f 0), .int .i64 (d.f 1), .int .i64 (d.f 2), .int .i64 (d.f 3), .int .i64 (d.f 4), .int .i64 (d.f 5), .int .i64 (d.f 6), .int .i64 (d.f 7), .slice d.a d.ds.length d.cap]) rfl rfl (by kernel_rfl) (by kernel_rfl) (by kernel_rfl) (fun _ _ _ h => h) (Or.inl ⟨by rfl, fun w' hw' => by obtain ⟨y0, y1, y2, y3, y4, y5, y6, y7, y8, y9⟩ := cel10 (HC.out.off hw' (fun h => h)); go_simp⟩) hS ?_
 simp only [Act.put, lsA, lsZ, lsS]
 refine wpAnyH_ready (rs := [11]) (by kernel_rfl) (by simp) ?_
 refine AllReadyH.cons rfl (fun K' hK' => ?_) AllReadyH.nil
 go_simp
 refine (dmay_any d.key d.f d.a d.cap d.ds _ (HD.out.off hS)).mono ?_
 rintro e v4 ⟨rfl, o1⟩
 have hS1 := hS.trans o1 (fun _ _ h => h)
 refine hK'.out _ _ hS1 (fun hS => ?_)
 clear hK' K' hS1 o1
 refine wpAnyH_ready (rs := [13]) (by kernel_rfl) (by simp) ?_
 refine AllReadyH.cons rfl (fun K' hK' => ?_) AllReadyH.nil
 go_simp
 refine (gmayd_any d.key d.f d.a d.cap d.ds _ (HD.out.off hS)).mono ?_
 rintro e v5 ⟨rfl, o1⟩
 have hS1 := hS.trans o1 (fun _ _ h => h)
 refine hK'.out _ _ hS1 (fun hS => ?_)
 clear hK' K' hS1 o1
 refine take_at (i := 14) 19 (v := .bool false) rfl rfl (by kernel_rfl) (by kernel_rfl) (by kernel_rfl) (fun _ _ _ h => h) (Or.inl ⟨by rfl, fun w' hw' => by go_simp⟩) hS ?_
 simp only [Act.put, lsA, lsZ, lsS]
 refine take_at (i := 15) 20 (v := .bool false) rfl rfl (by kernel_rfl) (by kernel_rfl) (by kernel_rfl) (fun _ _ _ h => h) (Or.inl ⟨by rfl, fun w' hw' => by go_simp⟩) hS ?_
 simp only [Act.put, lsA, lsZ, lsS]
 refine wpAnyH_done (by kernel_rfl) ?_ _
 have HO1 : Hid _ := HO.out.trans hS (fun _ _ h => h)
 have HE1 : Hid _ := HE.out.off hS
 clear hS
 go_wp2_with fail
 refine (lmay_any a cap es _ HE1.out).mono ?_
 rintro e u1 ⟨rfl, o1⟩
 have HO2 : Hid _ := HO1.out.trans o1 (fun _ _ h => h)
 have HE2 : Hid _ := HE1.out.off o1
 clear o1
 cases hmy : mayEs es
 ·go_wp2_with fail
  refine (awake_any _).mono ?_
  rintro e ua ⟨rfl, oa⟩
  go_wp2_with fail
  go_ret
  exact ⟨rfl, HO2.out.trans oa (fun _ _ h => h)⟩
 have HLN : Hid _ := light13_iff.1 hlt
 go_wp2_with fail
 refine (dof_any a cap es _ HE2.out (by have := HLN.out.1; omega)).mono ?_
 rintro e u2 ⟨t1, c1, g1, rfl, own1, ds1, dat1, o2⟩
 have HE3 : Hid _ := HE2.out.off o2
 have HO3 : Hid _ := HO2.out.trans o2 (fun _ _ h => h)
 have HW1 : Hid _ := own1
 have HS1 : Hid _ := ds1
 have HA1 : Hid _ := dat1
 clear own1 ds1 dat1 o2
 go_wp2_with fail
 refine (gdof_any a cap es _ HE3.out (by have := HLN.out.1; omega)).mono ?_
 rintro e u3 ⟨t2, c2, g2, rfl, own2, ds2, dat2, o3⟩
 have HO4 : Hid _ := HO3.out.trans o3 (fun _ _ h => h)
 have HG1 : Hid _ := (HW1.out.off o3 (fun _ _ _ h => h)).dgs (fun g hg => ((HS1.out g hg).off o3 (fun _ _ _ h => h)).rowD)
 have HG2 : Hid _ := own2.dgs (fun g hg => (ds2 g hg).rowD)
 have HA2 : Hid _ := dat2
 clear own2 ds2 dat2 o3
 have HAB : Hid (g1.map G.abs = g2.map G.abs) := HA1.out.trans HA2.out.symm
 have hle : g2.length = g1.length := by have := congrArg List.length HAB.out; simpa using this.symm
 have hle1 : g1.length ≤ 1000 := by have := congrArg List.length HA1.out; have h2 := HLN.out.1; simp at this; omega
 have HSM : Hid _ := abs_same HAB.out (fun g hg => by
  have hg' : g.abs ∈ es.map ofE := by rw [← HA1.out]; exact List.mem_map.2 ⟨g, hg, rfl⟩
  obtain ⟨x, hx, he⟩ := List.mem_map.1 hg'
  have h1 : g.ds = (ofE x).ds := by rw [he]; rfl
  have h2 := (HLN.out.2 x hx).1
  rw [h1]
  unfold ofE
  show (if mayS x.f (cont x.l) = true then (cont x.l).map dotA else []).length ≤ 1000
  split
  ·rw [List.length_map, cont_len]; omega
  ·simp)
 have HLE : Hid _ := hle
 have HL1 : Hid _ := hle1
 clear hle hle1
 go_wp2_with fail
 refine (samedgs_any t1 t2 c1 c2 g1 g2 _ HG1.out HG2.out HLE.out HSM.out HL1.out).mono ?_
 rintro e u4 ⟨rfl, o4⟩
 have HO5 : Hid _ := HO4.out.trans o4 (fun _ _ h => h)
 clear o4
 go_wp2_with fail
 refine (awake_any _).mono ?_
 rintro e ua ⟨rfl, oa⟩
 go_wp2_with fail
 go_ret
 exact ⟨rfl, HO5.out.trans oa (fun _ _ h => h)⟩
end Go.Proofs.Ytpnnpdfmoldiiaa
