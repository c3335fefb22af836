/- Several texts in one. -/
import Derived.Test.YtfhacfedklaaiaaRhtM
import Derived.Test.YtfhacfedklaaiaaGReap
import Derived.Test.YtfhacfedklaaiaaLawM
import Derived.Test.YtfhacfedklaaiaaSms11M
/- Drop of the reference's set. -/
namespace Go.Proofs.Ytfhacfedklaaiaa
open Go.RowKit

set_option maxRecDepth 100000 in
set_option maxHeartbeats 4000000 in
theorem rhdrop_any (R : Nat → Prop) (q : Nat) (xs : List H) (node : Int) (key : ByteArray) (f : Nat → Int) (sa : Option Addr) (sc : Nat) (l : List V) (w : World) (S : RHt R q xs w) (hr : Row w sa sc l) :
    Calls Try.prog 15 #[.pointer (some ⟨q, 0, none⟩), .int .i64 node, .string key, .agg #[.int .i64 (f 0), .int .i64 (f 1), .int .i64 (f 2), .int .i64 (f 3), .int .i64 (f 4), .int .i64 (f 5), .int .i64 (f 6), .int .i64 (f 7), .slice sa l.length sc]] w fun e w' => e = .returned (.bool (drpB (absH xs) (node, key) f (cont l))) ∧ ∃ R' xs', RHt R' q xs' w' ∧ absH xs' = drpT (absH xs) (node, key) f (cont l) ∧ Off (fun c => c = q) w w' ∧ ∀ c, R' c → R c ∨ w.heap.size ≤ c := by
  have hnot := not_any
  have C := Cel.new w 35 #[.int .i64 (f 0), .int .i64 (f 1), .int .i64 (f 2), .int .i64 (f 3), .int .i64 (f 4), .int .i64 (f 5), .int .i64 (f 6), .int .i64 (f 7), .slice sa l.length sc]
  have O : Off (fun _ => False) w (w.alloc (.cells #[.int .i64 (f 0), .int .i64 (f 1), .int .i64 (f 2), .int .i64 (f 3), .int .i64 (f 4), .int .i64 (f 5), .int .i64 (f 6), .int .i64 (f 7), .slice sa l.length sc] 35)) := (Off.refl _ w).alloc _
  have HST : Hid _ := S
  have hfew := S.few
  go_enter Try.func15, Try.ntmps15
  go_upto_region 1 with fail
  generalize hv : w.alloc (.cells #[.int .i64 (f 0), .int .i64 (f 1), .int .i64 (f 2), .int .i64 (f 3), .int .i64 (f 4), .int .i64 (f 5), .int .i64 (f 6), .int .i64 (f 7), .slice sa l.length sc] 35) = V at C O ⊢
  have HC : Hid _ := C
  have HO : Hid _ := O
  have HR : Hid _ := hr.off O
  clear hv C O hr S
  go_wp2_with fail
  refine (rhat_any R q xs node key V (HST.out.free HO.out)).mono ?_
  rintro e w2 ⟨r, rfl, hr, o2⟩
  have HO2 : Hid _ := HO.out.trans o2 (fun _ _ h => h)
  have HC2 : Hid _ := HC.out.off o2 (fun h => h)
  have HR2 : Hid _ := HR.out.off o2
  clear o2 HC HR HO
  obtain ⟨a, cap, hcp, how, hgd⟩ := (HST.out.free HO2.out).is
  have HCP : Hid _ := hcp
  have HOW2 : Hid _ := how
  have HGD : Hid _ := hgd
  clear hcp how hgd
  rcases hr with ⟨hf, rfl⟩ | ⟨n, x, rfl, hx, hxk⟩
  · have HNF : Hid (fndG HK.nk (node, key) (absH xs) = none) := by show _ = none; rw [← absH_fnd, hf]; rfl
    clear hf
    go_upto_region 2 with fail
    refine wp_region_held_drew (S := fun w' => Off (fun _ => False) w2 w') (by kernel_rfl) ((Off.refl _ w2).drew) (fun hS => ?_)
    refine take_at (i := 0) 14 (v := .int .i64 (-1)) rfl rfl (by kernel_rfl) (by kernel_rfl) (by kernel_rfl) (fun _ _ _ h => h) (Or.inl ⟨by rfl, fun w' hw' => by go_simp⟩) hS ?_
    simp only [Act.put, List.setIfInBounds_toArray, List.set_cons_zero, List.set_cons_succ]
    refine take_at (i := 1) 15 (v := .bool true) rfl rfl (by kernel_rfl) (by kernel_rfl) (by kernel_rfl) (fun _ _ _ h => h) (Or.inl ⟨by rfl, fun w' hw' => by go_simp⟩) hS ?_
    simp only [Act.put, List.setIfInBounds_toArray, List.set_cons_zero, List.set_cons_succ]
    refine take_at (i := 2) 16 (v := .bool true) rfl rfl (by kernel_rfl) (by kernel_rfl) (by kernel_rfl) (fun _ _ _ h => h) (Or.inl ⟨by rfl, fun w' hw' => by go_simp⟩) hS ?_
    simp only [Act.put, List.setIfInBounds_toArray, List.set_cons_zero, List.set_cons_succ]
    refine take_at (i := 3) 17 (v := undef) rfl rfl (by kernel_rfl) (by kernel_rfl) (by kernel_rfl) (fun _ _ _ h => h) (Or.inr ⟨by rfl, rfl⟩) hS ?_
    simp only [Act.put, List.setIfInBounds_toArray, List.set_cons_zero, List.set_cons_succ]
    refine take_at (i := 4) 18 (v := undef) rfl rfl (by kernel_rfl) (by kernel_rfl) (by kernel_rfl) (fun _ _ _ h => h) (Or.inr ⟨by rfl, rfl⟩) hS ?_
    simp only [Act.put, List.setIfInBounds_toArray, List.set_cons_zero, List.set_cons_succ]
    refine take_at (i := 5) 19 (v := undef) rfl rfl (by kernel_rfl) (by kernel_rfl) (by kernel_rfl) (fun _ _ _ h => h) (Or.inr ⟨by rfl, rfl⟩) hS ?_
    simp only [Act.put, List.setIfInBounds_toArray, List.set_cons_zero, List.set_cons_succ]
    refine take_at (i := 6) 20 (v := undef) rfl rfl (by kernel_rfl) (by kernel_rfl) (by kernel_rfl) (fun _ _ _ h => h) (Or.inr ⟨by rfl, rfl⟩) hS ?_
    simp only [Act.put, List.setIfInBounds_toArray, List.set_cons_zero, List.set_cons_succ]
    refine take_at (i := 7) 21 (v := undef) rfl rfl (by kernel_rfl) (by kernel_rfl) (by kernel_rfl) (fun _ _ _ h => h) (Or.inr ⟨by rfl, rfl⟩) hS ?_
    simp only [Act.put, List.setIfInBounds_toArray, List.set_cons_zero, List.set_cons_succ]
    refine take_at (i := 8) 22 (v := undef) rfl rfl (by kernel_rfl) (by kernel_rfl) (by kernel_rfl) (fun _ _ _ h => h) (Or.inr ⟨by rfl, rfl⟩) hS ?_
    simp only [Act.put, List.setIfInBounds_toArray, List.set_cons_zero, List.set_cons_succ]
    refine take_at (i := 9) 23 (v := undef) rfl rfl (by kernel_rfl) (by kernel_rfl) (by kernel_rfl) (fun _ _ _ h => h) (Or.inr ⟨by rfl, rfl⟩) hS ?_
    simp only [Act.put, List.setIfInBounds_toArray, List.set_cons_zero, List.set_cons_succ]
    refine take_at (i := 10) 24 (v := undef) rfl rfl (by kernel_rfl) (by kernel_rfl) (by kernel_rfl) (fun _ _ _ h => h) (Or.inr ⟨by rfl, rfl⟩) hS ?_
    simp only [Act.put, List.setIfInBounds_toArray, List.set_cons_zero, List.set_cons_succ]
    refine take_at (i := 11) 25 (v := undef) rfl rfl (by kernel_rfl) (by kernel_rfl) (by kernel_rfl) (fun _ _ _ h => h) (Or.inr ⟨by rfl, rfl⟩) hS ?_
    simp only [Act.put, List.setIfInBounds_toArray, List.set_cons_zero, List.set_cons_succ]
    refine take_at (i := 12) 26 (v := undef) rfl rfl (by kernel_rfl) (by kernel_rfl) (by kernel_rfl) (fun _ _ _ h => h) (Or.inr ⟨by rfl, rfl⟩) hS ?_
    simp only [Act.put, List.setIfInBounds_toArray, List.set_cons_zero, List.set_cons_succ]
    refine take_at (i := 13) 27 (v := undef) rfl rfl (by kernel_rfl) (by kernel_rfl) (by kernel_rfl) (fun _ _ _ h => h) (Or.inr ⟨by rfl, rfl⟩) hS ?_
    simp only [Act.put, List.setIfInBounds_toArray, List.set_cons_zero, List.set_cons_succ]
    refine take_at (i := 14) 28 (v := undef) rfl rfl (by kernel_rfl) (by kernel_rfl) (by kernel_rfl) (fun _ _ _ h => h) (Or.inr ⟨by rfl, rfl⟩) hS ?_
    simp only [Act.put, List.setIfInBounds_toArray, List.set_cons_zero, List.set_cons_succ]
    refine take_at (i := 15) 29 (v := .bool true) rfl rfl (by kernel_rfl) (by kernel_rfl) (by kernel_rfl) (fun _ _ _ h => h) (Or.inl ⟨by rfl, fun w' hw' => by go_simp⟩) hS ?_
    simp only [Act.put, List.setIfInBounds_toArray, List.set_cons_zero, List.set_cons_succ]
    refine wpAnyH_done (by kernel_rfl) ?_ _
    have HO3 : Hid _ := HO2.out.trans hS (fun _ _ h => h)
    clear hS
    go_wp2_with fail
    go_ret
    have hB : drpB (absH xs) (node, key) f (cont l) = false := by unfold drpB; rw [HNF.out]
    exact ⟨by rw [hB]; rfl, R, xs, HST.out.free HO3.out, by unfold drpT; rw [hB]; rfl, HO3.out.mono (fun _ _ h => h.elim), fun c hc => .inl hc⟩
  · have HFX : Hid (fndG HK.nk (node, key) (absH xs) = some x.abs) := by show _ = _; rw [← absH_fnd, at_fnd HST.out.sor hx hxk]; rfl
    have HX : Hid _ := hx
    have HXK : Hid _ := hxk
    have HRX : Hid _ := (HST.out.row x (List.mem_of_getElem? hx)).off HO2.out
    obtain ⟨hlt, -⟩ := List.getElem?_eq_some_iff.1 hx
    obtain ⟨g, rfl, hat⟩ := HOW2.out.atH hx
    have HAT : Hid _ := hat
    have d1 : decide ((n : Int) < 0) = false := decide_eq_false (by omega)
    clear hx hxk hat
    go_upto_region 2 with fail
    refine wp_region_held_drew (S := fun w' => Off (fun _ => False) w2 w') (by kernel_rfl) ((Off.refl _ w2).drew) (fun hS => ?_)
    refine take_at (i := 0) 14 (v := .int .i64 (n : Int)) rfl rfl (by kernel_rfl) (by kernel_rfl) (by kernel_rfl) (fun _ _ _ h => h) (Or.inl ⟨by rfl, fun w' hw' => by go_simp⟩) hS ?_
    simp only [Act.put, List.setIfInBounds_toArray, List.set_cons_zero, List.set_cons_succ]
    refine take_at (i := 1) 15 (v := .bool false) rfl rfl (by kernel_rfl) (by kernel_rfl) (by kernel_rfl) (fun _ _ _ h => h) (Or.inl ⟨by rfl, fun w' hw' => by go_simp⟩) hS ?_
    simp only [Act.put, List.setIfInBounds_toArray, List.set_cons_zero, List.set_cons_succ]
    refine take_at (i := 2) 16 (v := .bool false) rfl rfl (by kernel_rfl) (by kernel_rfl) (by kernel_rfl) (fun _ _ _ h => h) (Or.inl ⟨by rfl, fun w' hw' => by go_simp⟩) hS ?_
    simp only [Act.put, List.setIfInBounds_toArray, List.set_cons_zero, List.set_cons_succ]
    refine take_at (i := 3) 17 (v := .pointer (some ⟨q, 0, none⟩)) rfl rfl (by kernel_rfl) (by kernel_rfl) (by kernel_rfl) (fun _ _ _ h => h) (Or.inl ⟨by rfl, fun w' hw' => by go_simp⟩) hS ?_
    simp only [Act.put, List.setIfInBounds_toArray, List.set_cons_zero, List.set_cons_succ]
    refine take_at (i := 4) 18 (v := .pointer (some ⟨q, 0, none⟩)) rfl rfl (by kernel_rfl) (by kernel_rfl) (by kernel_rfl) (fun _ _ _ h => h) (Or.inl ⟨by rfl, fun w' hw' => by go_simp⟩) hS ?_
    simp only [Act.put, List.setIfInBounds_toArray, List.set_cons_zero, List.set_cons_succ]
    refine take_at (i := 5) 19 (v := .pointer (some ⟨q, 0, none⟩)) rfl rfl (by kernel_rfl) (by kernel_rfl) (by kernel_rfl) (fun _ _ _ h => h) (Or.inl ⟨by rfl, fun w' hw' => by go_simp⟩) hS ?_
    simp only [Act.put, List.setIfInBounds_toArray, List.set_cons_zero, List.set_cons_succ]
    refine take_at (i := 6) 20 (v := .slice (some ⟨g, 0, none⟩) xs.length cap) rfl rfl (by kernel_rfl) (by kernel_rfl) (by kernel_rfl) (fun _ _ _ h => h) (Or.inl ⟨by rfl, fun w' hw' => by have e := (HCP.out.off hw' (fun h => h)).cell 0; simp only [List.getElem?_toArray, List.getElem?_cons_zero] at e; go_simp⟩) hS ?_
    simp only [Act.put, List.setIfInBounds_toArray, List.set_cons_zero, List.set_cons_succ]
    refine take_at (i := 7) 21 (v := .int .i64 (n : Int)) rfl rfl (by kernel_rfl) (by kernel_rfl) (by kernel_rfl) (fun _ _ _ h => h) (Or.inl ⟨by rfl, fun w' hw' => by go_simp⟩) hS ?_
    simp only [Act.put, List.setIfInBounds_toArray, List.set_cons_zero, List.set_cons_succ]
    refine take_at (i := 8) 22 (v := .pointer (some ⟨g, n * 11, none⟩)) rfl rfl (by kernel_rfl) (by kernel_rfl) (by kernel_rfl) (fun _ _ _ h => h) (Or.inl ⟨by rfl, fun w' hw' => exec_idx10 rfl (idx_hin hlt cap g w')⟩) hS ?_
    simp only [Act.put, List.setIfInBounds_toArray, List.set_cons_zero, List.set_cons_succ]
    refine take_at (i := 9) 23 (v := .pointer (some ⟨g, n * 11 + 1, none⟩)) rfl rfl (by kernel_rfl) (by kernel_rfl) (by kernel_rfl) (fun _ _ _ h => h) (Or.inl ⟨by rfl, fun w' hw' => by go_simp⟩) hS ?_
    simp only [Act.put, List.setIfInBounds_toArray, List.set_cons_zero, List.set_cons_succ]
    refine take_at (i := 10) 24 (v := .pointer (some ⟨g, n * 11 + 2, none⟩)) rfl rfl (by kernel_rfl) (by kernel_rfl) (by kernel_rfl) (fun _ _ _ h => h) (Or.inl ⟨by rfl, fun w' hw' => by go_simp⟩) hS ?_
    simp only [Act.put, List.setIfInBounds_toArray, List.set_cons_zero, List.set_cons_succ]
    refine take_at (i := 11) 25 (v := .agg #[.int .i64 (x.e.f 0), .int .i64 (x.e.f 1), .int .i64 (x.e.f 2), .int .i64 (x.e.f 3), .int .i64 (x.e.f 4), .int .i64 (x.e.f 5), .int .i64 (x.e.f 6), .int .i64 (x.e.f 7), .slice x.e.a x.e.l.length x.e.cap]) rfl rfl (by kernel_rfl) (by kernel_rfl) (by kernel_rfl) (fun _ _ _ h => h) (Or.inl ⟨by rfl, fun w' hw' => by obtain ⟨x0, x1, x2, x3, x4, x5, x6, x7, x8, x9, x10⟩ := (HAT.out.off hw' (fun _ h => h)).cells; go_simp⟩) hS ?_
    simp only [Act.put, List.setIfInBounds_toArray, List.set_cons_zero, List.set_cons_succ]
    refine take_at (i := 12) 26 (v := .agg #[.int .i64 (f 0), .int .i64 (f 1), .int .i64 (f 2), .int .i64 (f 3), .int .i64 (f 4), .int .i64 (f 5), .int .i64 (f 6), .int .i64 (f 7), .slice sa l.length sc]) rfl rfl (by kernel_rfl) (by kernel_rfl) (by kernel_rfl) (fun _ _ _ h => h) (Or.inl ⟨by rfl, fun w' hw' => by obtain ⟨x0, x1, x2, x3, x4, x5, x6, x7, x8⟩ := cel9 (HC2.out.off hw' (fun h => h)); go_simp⟩) hS ?_
    simp only [Act.put, List.setIfInBounds_toArray, List.set_cons_zero, List.set_cons_succ]
    refine wpAnyH_ready (rs := [13]) (by kernel_rfl) (by simp) ?_
    refine AllReadyH.cons rfl (fun K' hK' => ?_) AllReadyH.nil
    go_simp
    refine (gleq_any x.e.f f x.e.a sa x.e.cap sc x.e.l l _ (HRX.out.off hS) (HR2.out.off hS)).mono ?_
    have HLQ : Hid (drpB (absH xs) (node, key) f (cont l) = leqS x.e.f f (cont x.e.l) (cont l)) := by show _ = _; unfold drpB; rw [HFX.out]; rfl
    generalize leqS x.e.f f (cont x.e.l) (cont l) = lq at HLQ
    rintro e v3 ⟨rfl, o3⟩
    refine hK'.out _ _ (hS.trans o3 (fun _ _ h => h)) (fun hS => ?_)
    clear hK' K'
    refine take_at (i := 14) 28 (v := .bool (!lq)) rfl rfl (by kernel_rfl) (by kernel_rfl) (by kernel_rfl) (fun _ _ _ h => h) (Or.inl ⟨by rfl, fun w' hw' => by go_simp⟩) hS ?_
    simp only [Act.put, List.setIfInBounds_toArray, List.set_cons_zero, List.set_cons_succ]
    refine take_at (i := 15) 29 (v := .bool (!lq)) rfl rfl (by kernel_rfl) (by kernel_rfl) (by kernel_rfl) (fun _ _ _ h => h) (Or.inl ⟨by rfl, fun w' hw' => by go_simp⟩) hS ?_
    simp only [Act.put, List.setIfInBounds_toArray, List.set_cons_zero, List.set_cons_succ]
    refine wpAnyH_done (by kernel_rfl) ?_ _
    have HP3 : Hid (Off (fun _ => False) w2 v3) := hS
    clear hS o3
    have HO3 : Hid _ := HO2.out.trans HP3.out (fun _ _ h => h)
    cases lq
    · go_wp2_with fail
      go_ret
      exact ⟨by rw [HLQ.out]; rfl, R, xs, HST.out.free HO3.out, by unfold drpT; rw [HLQ.out]; rfl, HO3.out.mono (fun _ _ h => h.elim), fun c hc => .inl hc⟩
    · have HQL : Hid (q < v3.heap.size) := by have h1 := HST.out.lt; have h2 := HO3.out.size; show _ < _; omega
      obtain ⟨own1, hgq⟩ : OwnG 39 11 hcs v3 (some ⟨g, 0, none⟩) cap xs ∧ ¬ g = q := ⟨HOW2.out.off HP3.out (fun _ _ _ h => h), (HGD.out g rfl).2⟩
      have hns := own1.hns
      have HZ4 : Hid _ := own1.zero
      have HQ4 : Hid (∀ c, blk (some ⟨g, 0, none⟩ : Option Addr) = some c → ¬ c = q) := fun c hc e => by simp [blk] at hc; omega
      obtain ⟨hsh, hrt⟩ := hns.slh (k := n) (by omega)
      obtain ⟨a2, hsl, hrd, hz2⟩ := hns.sll HZ4.out (k := n + 1) (kk := (n : Int) + 1) (by simp) (by omega)
      have HQ2 : Hid (∀ c, blk a2 = some c → ¬ c = q) := fun c hc => HQ4.out c (sll_blk hns (k := n + 1) (by omega) (fun W => by have h1 := hsl W; rwa [show ((n : Int) + 1) = ((n + 1 : Nat) : Int) by simp] at h1) c hc)
      obtain ⟨ys, hys⟩ : ∃ ys, ys = xs.take n ++ xs.drop (n + 1) := ⟨_, rfl⟩
      have HYS : Hid (ys = delG H.nk x.nk xs) := by show _ = _; rw [hys]; exact erase_del H.nk HST.out.sor HX.out
      have HE : Hid (xs.take n ++ xs.drop (n + 1) = ys) := hys.symm
      have hlt1 : (xs.take n).length ≤ 1000 := by simp; omega
      have hld : (xs.drop (n + 1)).length ≤ 1000 := by simp; omega
      have HRT : Hid _ := hrt
      have HRD : Hid _ := hrd
      have HZ2 : Hid _ := hz2
      clear hrt hrd hz2 hys hns own1 hgq
      generalize hltt : xs.take n = lt at hsh HRT HE hlt1
      generalize hldd : xs.drop (n + 1) = ld at hsl HRD HE hld
      clear hltt hldd
      have HC3 : Hid (Cel q 30 #[.slice (some ⟨g, 0, none⟩) xs.length cap] v3) := HCP.out.off HP3.out (fun h => h)
      have HS0 : Hid (StS q v3 v3) := ⟨Off.refl _ v3, _, _, _, HC3.out⟩
      have b1 : (n : Int) + 1 ≤ 65 := by omega
      go_upto_region 4 with fail
      refine wp_region_held_drew (S := fun w' => StS q v3 w') (by kernel_rfl) (HS0.out.free ((Off.refl _ v3).drew) HQL.out) (fun hS => ?_)
      have CQ : Cel q 30 #[.slice (some ⟨g, 0, none⟩) xs.length cap] v3.drew := HC3.out.drew
      generalize hdr : v3.drew = v4 at hS CQ ⊢
      clear hdr
      refine take_at (i := 0) 30 (v := .pointer (some ⟨q, 0, none⟩)) rfl rfl (by kernel_rfl) (by kernel_rfl) (by kernel_rfl) (fun _ _ _ h => h) (Or.inl ⟨by rfl, fun w' hw' => by go_simp⟩) hS ?_
      simp only [Act.put, List.setIfInBounds_toArray, List.set_cons_zero, List.set_cons_succ]
      refine take_at (i := 1) 31 (v := .pointer (some ⟨q, 0, none⟩)) rfl rfl (by kernel_rfl) (by kernel_rfl) (by kernel_rfl) (fun _ _ _ h => h) (Or.inl ⟨by rfl, fun w' hw' => by go_simp⟩) hS ?_
      simp only [Act.put, List.setIfInBounds_toArray, List.set_cons_zero, List.set_cons_succ]
      refine take_at (i := 2) 32 (v := .pointer (some ⟨q, 0, none⟩)) rfl rfl (by kernel_rfl) (by kernel_rfl) (by kernel_rfl) (fun _ _ _ h => h) (Or.inl ⟨by rfl, fun w' hw' => by go_simp⟩) hS ?_
      simp only [Act.put, List.setIfInBounds_toArray, List.set_cons_zero, List.set_cons_succ]
      refine take_at (i := 3) 33 (v := .pointer (some ⟨q, 0, none⟩)) rfl rfl (by kernel_rfl) (by kernel_rfl) (by kernel_rfl) (fun _ _ _ h => h) (Or.inl ⟨by rfl, fun w' hw' => by go_simp⟩) hS ?_
      simp only [Act.put, List.setIfInBounds_toArray, List.set_cons_zero, List.set_cons_succ]
      refine take_at (i := 5) 35 (v := .int .i64 (n : Int)) rfl rfl (by kernel_rfl) (by kernel_rfl) (by kernel_rfl) (fun _ _ _ h => h) (Or.inl ⟨by rfl, fun w' hw' => by go_simp⟩) hS ?_
      simp only [Act.put, List.setIfInBounds_toArray, List.set_cons_zero, List.set_cons_succ]
      refine take_at (i := 8) 38 (v := .pointer (some ⟨q, 0, none⟩)) rfl rfl (by kernel_rfl) (by kernel_rfl) (by kernel_rfl) (fun _ _ _ h => h) (Or.inl ⟨by rfl, fun w' hw' => by go_simp⟩) hS ?_
      simp only [Act.put, List.setIfInBounds_toArray, List.set_cons_zero, List.set_cons_succ]
      refine take_at (i := 9) 39 (v := .pointer (some ⟨q, 0, none⟩)) rfl rfl (by kernel_rfl) (by kernel_rfl) (by kernel_rfl) (fun _ _ _ h => h) (Or.inl ⟨by rfl, fun w' hw' => by go_simp⟩) hS ?_
      simp only [Act.put, List.setIfInBounds_toArray, List.set_cons_zero, List.set_cons_succ]
      refine take_at (i := 10) 40 (v := .pointer (some ⟨q, 0, none⟩)) rfl rfl (by kernel_rfl) (by kernel_rfl) (by kernel_rfl) (fun _ _ _ h => h) (Or.inl ⟨by rfl, fun w' hw' => by go_simp⟩) hS ?_
      simp only [Act.put, List.setIfInBounds_toArray, List.set_cons_zero, List.set_cons_succ]
      refine take_at (i := 12) 42 (v := .int .i64 (n : Int)) rfl rfl (by kernel_rfl) (by kernel_rfl) (by kernel_rfl) (fun _ _ _ h => h) (Or.inl ⟨by rfl, fun w' hw' => by go_simp⟩) hS ?_
      simp only [Act.put, List.setIfInBounds_toArray, List.set_cons_zero, List.set_cons_succ]
      refine take_at (i := 13) 43 (v := .int .i64 ((n : Int) + 1)) rfl rfl (by kernel_rfl) (by kernel_rfl) (by kernel_rfl) (fun _ _ _ h => h) (Or.inl ⟨by rfl, fun w' hw' => by go_simp; rw [IntKind.wrap_i64]; omega⟩) hS ?_
      simp only [Act.put, List.setIfInBounds_toArray, List.set_cons_zero, List.set_cons_succ]
      refine wpAnyH_ready (rs := [4, 11]) (by kernel_rfl) (by simp) ?_
      refine AllReadyH.cons rfl (fun K' hK' => ?_) (AllReadyH.cons rfl (fun K' hK' => ?_) AllReadyH.nil)
      · have c0 := CQ.cell 0
        simp only [List.getElem?_toArray, List.getElem?_cons_zero] at c0
        go_simp
        refine hK'.out _ _ hS (fun hS => ?_)
        clear hK' K' c0
        refine take_at (i := 6) 36 (v := .slice (some ⟨g, 0, none⟩) lt.length cap) rfl rfl (by kernel_rfl) (by kernel_rfl) (by kernel_rfl) (fun _ _ _ h => h) (Or.inl ⟨by rfl, fun w' hw' => by go_simp⟩) hS ?_
        simp only [Act.put, List.setIfInBounds_toArray, List.set_cons_zero, List.set_cons_succ]
        refine wpAnyH_ready (rs := [7, 11]) (by kernel_rfl) (by simp) ?_
        refine AllReadyH.cons rfl (fun K' hK' => ?_) (AllReadyH.cons rfl (fun K' hK' => ?_) AllReadyH.nil)
        · obtain ⟨a3, c3, v5, hr, own3, o3, at3⟩ := app_runH (OwnG.nil _ _ _ v4) (HRT.out.offQ hS.off HQ4.out) HZ4.out (by first | omega | (simp; omega)) 28
          rw [List.nil_append] at hr own3
          replace o3 : Off (fun _ => False) v4 v5 := o3.mono (fun _ _ h => by simp [blk] at h)
          replace at3 : ∀ c, blk a3 = some c → v3.heap.size ≤ c := fun c hc => by have := hS.off.size; rcases at3 with e | e <;> (rw [e] at hc; simp [blk] at hc; try omega)
          have hS3 := hS.free o3 HQL.out
          replace CQ := CQ.off o3 (fun h => h)
          refine wp_append_if rfl (.const (.slice none 0 0)) (.tmp 36) rfl rfl rfl hr 37 rfl ?_
          simp only [Act.put, List.setIfInBounds_toArray, List.set_cons_zero, List.set_cons_succ]
          refine hK'.out _ _ hS3 (fun hS => ?_)
          clear hK' K' hr
          refine wpAnyH_ready (rs := [11]) (by kernel_rfl) (by simp) ?_
          refine AllReadyH.cons rfl (fun K' hK' => ?_) AllReadyH.nil
          have c0 := CQ.cell 0
          simp only [List.getElem?_toArray, List.getElem?_cons_zero] at c0
          go_simp
          refine hK'.out _ _ hS (fun hS => ?_)
          clear hK' K' c0
          refine take_at (i := 14) 44 (v := .slice a2 ld.length (cap - (n + 1))) rfl rfl (by kernel_rfl) (by kernel_rfl) (by kernel_rfl) (fun _ _ _ h => h) (Or.inl ⟨by rfl, fun w' hw' => by go_simp⟩) hS ?_
          simp only [Act.put, List.setIfInBounds_toArray, List.set_cons_zero, List.set_cons_succ]
          refine wpAnyH_ready (rs := [15]) (by kernel_rfl) (by simp) ?_
          refine AllReadyH.cons rfl (fun K' hK' => ?_) AllReadyH.nil
          obtain ⟨a6, c6, v6, hr, own6, o6, at6⟩ := app_runH own3 (HRD.out.offQ hS.off HQ2.out) HZ2.out (by first | omega | (simp; omega)) 28
          have hS6 := hS.step o6 at3 HQL.out
          replace at6 : ∀ c, blk a6 = some c → v3.heap.size ≤ c := fun c hc => by
            have := hS.off.size
            rcases at6 with e | e
            · exact at3 c (e ▸ hc)
            · rw [e] at hc
              simp at hc
              omega
          refine wp_append_if rfl (.tmp 37) (.tmp 44) rfl rfl rfl hr 45 rfl ?_
          simp only [Act.put, List.setIfInBounds_toArray, List.set_cons_zero, List.set_cons_succ]
          refine hK'.out _ _ hS6 (fun hS => ?_)
          clear hK' K' hr
          clear o6 CQ
          have HOWN : Hid _ := own6
          have HAT10 : Hid _ := at6
          have HLL : Hid ((lt ++ ld).length = ys.length) := by show _ = _; rw [HE.out]
          generalize hzz : (lt ++ ld).length = zz at HLL ⊢
          refine take_at (i := 16) 46 (v := .pointer (some ⟨q, 0, none⟩)) rfl rfl (by kernel_rfl) (by kernel_rfl) (by kernel_rfl) (fun _ _ _ h => h) (Or.inl ⟨by rfl, fun w' hw' => by go_simp⟩) hS ?_
          simp only [Act.put, List.setIfInBounds_toArray, List.set_cons_zero, List.set_cons_succ]
          refine take_at (i := 17) 47 (v := .pointer (some ⟨q, 0, none⟩)) rfl rfl (by kernel_rfl) (by kernel_rfl) (by kernel_rfl) (fun _ _ _ h => h) (Or.inl ⟨by rfl, fun w' hw' => by go_simp⟩) hS ?_
          simp only [Act.put, List.setIfInBounds_toArray, List.set_cons_zero, List.set_cons_succ]
          obtain ⟨b0, n0, k0, hc0⟩ := hS.cel
          have c0 := hc0.cell 0
          have fr := hc0.free
          simp only [List.getElem?_toArray, List.getElem?_cons_zero] at c0
          refine wpAnyH_ready (rs := [18]) (by kernel_rfl) (by simp) ?_
          refine AllReadyH.cons rfl (fun K' hK' => ?_) AllReadyH.nil
          go_simp
          refine hK'.out _ _ (hS.put a6 zz c6) (fun hS' => ?_)
          clear hK' K'
          have CQ := hc0.set 0 (.slice a6 zz c6)
          have OQ : Off (fun c => c = q) v6 (v6.setCell ⟨q, 0, none⟩ (.slice a6 zz c6)) := (Off.refl (fun c => c = q) v6).setCell (p := ⟨q, 0, none⟩) (.inl rfl) _
          generalize hv11 : v6.setCell ⟨q, 0, none⟩ (.slice a6 zz c6) = v11 at hS' CQ OQ ⊢
          clear hv11 hc0 c0 fr
          refine wpAnyH_done (by kernel_rfl) ?_ _
          have HCQ : Hid (Cel q 30 #[.slice a6 zz c6] v11) := CQ
          have HOQ : Hid _ := OQ
          have HSQ : Hid _ := hS'
          clear CQ OQ hS' hS hzz
          go_wp2_with fail
          go_ret
          have OZ : Off (fun c => c = q) w v11 := (HO3.out.mono (fun _ _ h => h.elim)).trans HSQ.out.off (fun _ _ h => h)
          have own := HOWN.out.off HOQ.out (fun c _ hc e => by have := HAT10.out c hc; have := HQL.out; omega)
          rw [HE.out] at own
          have CF := HCQ.out
          rw [HLL.out] at CF
          have hab : absH ys = delG HK.nk (node, key) (absH xs) := by rw [HYS.out, absH_del, HXK.out]
          have memX : ∀ z ∈ ys, z ∈ xs := fun z hz => by rw [HYS.out] at hz; exact ((mem_delG H.nk).1 hz).1
          have hq0 := HST.out.lt
          have hv0 := HO3.out.size
          have rowX : ∀ z ∈ xs, Row v11 z.e.a z.e.cap z.e.l := fun z hz => (HST.out.row z hz).offT (HST.out.ter z hz) OZ (fun c _ hd e => hd.2 e)
          refine ⟨by rw [HLQ.out]; rfl, fun c => (R c ∨ w.heap.size ≤ c) ∧ c < v11.heap.size, ys, ⟨⟨.inl HST.out.dp, by have := OZ.size; omega⟩, fun c hc => hc.2, ⟨a6, c6, CF, own, fun g hg => ?_⟩, fun z hz => rowX z (memX z hz), fun z hz => ?_, ?_⟩, ?_, OZ, fun c hc => hc.1⟩
          · have h1 := HAT10.out g hg
            exact ⟨⟨.inr (by omega), own.lt g hg⟩, by omega⟩
          · exact ((HST.out.ter z (memX z hz)).and (rowX z (memX z hz)).below).mono (fun c hc => ⟨⟨.inl hc.1.1, hc.2⟩, hc.1.2⟩)
          · rw [hab]
            exact HST.out.ok.del _
          · rw [hab]
            unfold drpT
            rw [HLQ.out]
            rfl
        · have c0 := CQ.cell 0
          simp only [List.getElem?_toArray, List.getElem?_cons_zero] at c0
          go_simp
          refine hK'.out _ _ hS (fun hS => ?_)
          clear hK' K' c0
          refine take_at (i := 14) 44 (v := .slice a2 ld.length (cap - (n + 1))) rfl rfl (by kernel_rfl) (by kernel_rfl) (by kernel_rfl) (fun _ _ _ h => h) (Or.inl ⟨by rfl, fun w' hw' => by go_simp⟩) hS ?_
          simp only [Act.put, List.setIfInBounds_toArray, List.set_cons_zero, List.set_cons_succ]
          refine wpAnyH_ready (rs := [7]) (by kernel_rfl) (by simp) ?_
          refine AllReadyH.cons rfl (fun K' hK' => ?_) AllReadyH.nil
          obtain ⟨a3, c3, v5, hr, own3, o3, at3⟩ := app_runH (OwnG.nil _ _ _ v4) (HRT.out.offQ hS.off HQ4.out) HZ4.out (by first | omega | (simp; omega)) 28
          rw [List.nil_append] at hr own3
          replace o3 : Off (fun _ => False) v4 v5 := o3.mono (fun _ _ h => by simp [blk] at h)
          replace at3 : ∀ c, blk a3 = some c → v3.heap.size ≤ c := fun c hc => by have := hS.off.size; rcases at3 with e | e <;> (rw [e] at hc; simp [blk] at hc; try omega)
          have hS3 := hS.free o3 HQL.out
          replace CQ := CQ.off o3 (fun h => h)
          refine wp_append_if rfl (.const (.slice none 0 0)) (.tmp 36) rfl rfl rfl hr 37 rfl ?_
          simp only [Act.put, List.setIfInBounds_toArray, List.set_cons_zero, List.set_cons_succ]
          refine hK'.out _ _ hS3 (fun hS => ?_)
          clear hK' K' hr
          refine wpAnyH_ready (rs := [15]) (by kernel_rfl) (by simp) ?_
          refine AllReadyH.cons rfl (fun K' hK' => ?_) AllReadyH.nil
          obtain ⟨a6, c6, v6, hr, own6, o6, at6⟩ := app_runH own3 (HRD.out.offQ hS.off HQ2.out) HZ2.out (by first | omega | (simp; omega)) 28
          have hS6 := hS.step o6 at3 HQL.out
          replace at6 : ∀ c, blk a6 = some c → v3.heap.size ≤ c := fun c hc => by
            have := hS.off.size
            rcases at6 with e | e
            · exact at3 c (e ▸ hc)
            · rw [e] at hc
              simp at hc
              omega
          refine wp_append_if rfl (.tmp 37) (.tmp 44) rfl rfl rfl hr 45 rfl ?_
          simp only [Act.put, List.setIfInBounds_toArray, List.set_cons_zero, List.set_cons_succ]
          refine hK'.out _ _ hS6 (fun hS => ?_)
          clear hK' K' hr
          clear o6 CQ
          have HOWN : Hid _ := own6
          have HAT10 : Hid _ := at6
          have HLL : Hid ((lt ++ ld).length = ys.length) := by show _ = _; rw [HE.out]
          generalize hzz : (lt ++ ld).length = zz at HLL ⊢
          refine take_at (i := 16) 46 (v := .pointer (some ⟨q, 0, none⟩)) rfl rfl (by kernel_rfl) (by kernel_rfl) (by kernel_rfl) (fun _ _ _ h => h) (Or.inl ⟨by rfl, fun w' hw' => by go_simp⟩) hS ?_
          simp only [Act.put, List.setIfInBounds_toArray, List.set_cons_zero, List.set_cons_succ]
          refine take_at (i := 17) 47 (v := .pointer (some ⟨q, 0, none⟩)) rfl rfl (by kernel_rfl) (by kernel_rfl) (by kernel_rfl) (fun _ _ _ h => h) (Or.inl ⟨by rfl, fun w' hw' => by go_simp⟩) hS ?_
          simp only [Act.put, List.setIfInBounds_toArray, List.set_cons_zero, List.set_cons_succ]
          obtain ⟨b0, n0, k0, hc0⟩ := hS.cel
          have c0 := hc0.cell 0
          have fr := hc0.free
          simp only [List.getElem?_toArray, List.getElem?_cons_zero] at c0
          refine wpAnyH_ready (rs := [18]) (by kernel_rfl) (by simp) ?_
          refine AllReadyH.cons rfl (fun K' hK' => ?_) AllReadyH.nil
          go_simp
          refine hK'.out _ _ (hS.put a6 zz c6) (fun hS' => ?_)
          clear hK' K'
          have CQ := hc0.set 0 (.slice a6 zz c6)
          have OQ : Off (fun c => c = q) v6 (v6.setCell ⟨q, 0, none⟩ (.slice a6 zz c6)) := (Off.refl (fun c => c = q) v6).setCell (p := ⟨q, 0, none⟩) (.inl rfl) _
          generalize hv11 : v6.setCell ⟨q, 0, none⟩ (.slice a6 zz c6) = v11 at hS' CQ OQ ⊢
          clear hv11 hc0 c0 fr
          refine wpAnyH_done (by kernel_rfl) ?_ _
          have HCQ : Hid (Cel q 30 #[.slice a6 zz c6] v11) := CQ
          have HOQ : Hid _ := OQ
          have HSQ : Hid _ := hS'
          clear CQ OQ hS' hS hzz
          go_wp2_with fail
          go_ret
          have OZ : Off (fun c => c = q) w v11 := (HO3.out.mono (fun _ _ h => h.elim)).trans HSQ.out.off (fun _ _ h => h)
          have own := HOWN.out.off HOQ.out (fun c _ hc e => by have := HAT10.out c hc; have := HQL.out; omega)
          rw [HE.out] at own
          have CF := HCQ.out
          rw [HLL.out] at CF
          have hab : absH ys = delG HK.nk (node, key) (absH xs) := by rw [HYS.out, absH_del, HXK.out]
          have memX : ∀ z ∈ ys, z ∈ xs := fun z hz => by rw [HYS.out] at hz; exact ((mem_delG H.nk).1 hz).1
          have hq0 := HST.out.lt
          have hv0 := HO3.out.size
          have rowX : ∀ z ∈ xs, Row v11 z.e.a z.e.cap z.e.l := fun z hz => (HST.out.row z hz).offT (HST.out.ter z hz) OZ (fun c _ hd e => hd.2 e)
          refine ⟨by rw [HLQ.out]; rfl, fun c => (R c ∨ w.heap.size ≤ c) ∧ c < v11.heap.size, ys, ⟨⟨.inl HST.out.dp, by have := OZ.size; omega⟩, fun c hc => hc.2, ⟨a6, c6, CF, own, fun g hg => ?_⟩, fun z hz => rowX z (memX z hz), fun z hz => ?_, ?_⟩, ?_, OZ, fun c hc => hc.1⟩
          · have h1 := HAT10.out g hg
            exact ⟨⟨.inr (by omega), own.lt g hg⟩, by omega⟩
          · exact ((HST.out.ter z (memX z hz)).and (rowX z (memX z hz)).below).mono (fun c hc => ⟨⟨.inl hc.1.1, hc.2⟩, hc.1.2⟩)
          · rw [hab]
            exact HST.out.ok.del _
          · rw [hab]
            unfold drpT
            rw [HLQ.out]
            rfl
      · have c0 := CQ.cell 0
        simp only [List.getElem?_toArray, List.getElem?_cons_zero] at c0
        go_simp
        refine hK'.out _ _ hS (fun hS => ?_)
        clear hK' K' c0
        refine take_at (i := 14) 44 (v := .slice a2 ld.length (cap - (n + 1))) rfl rfl (by kernel_rfl) (by kernel_rfl) (by kernel_rfl) (fun _ _ _ h => h) (Or.inl ⟨by rfl, fun w' hw' => by go_simp⟩) hS ?_
        simp only [Act.put, List.setIfInBounds_toArray, List.set_cons_zero, List.set_cons_succ]
        refine wpAnyH_ready (rs := [4]) (by kernel_rfl) (by simp) ?_
        refine AllReadyH.cons rfl (fun K' hK' => ?_) AllReadyH.nil
        have c0 := CQ.cell 0
        simp only [List.getElem?_toArray, List.getElem?_cons_zero] at c0
        go_simp
        refine hK'.out _ _ hS (fun hS => ?_)
        clear hK' K' c0
        refine take_at (i := 6) 36 (v := .slice (some ⟨g, 0, none⟩) lt.length cap) rfl rfl (by kernel_rfl) (by kernel_rfl) (by kernel_rfl) (fun _ _ _ h => h) (Or.inl ⟨by rfl, fun w' hw' => by go_simp⟩) hS ?_
        simp only [Act.put, List.setIfInBounds_toArray, List.set_cons_zero, List.set_cons_succ]
        refine wpAnyH_ready (rs := [7]) (by kernel_rfl) (by simp) ?_
        refine AllReadyH.cons rfl (fun K' hK' => ?_) AllReadyH.nil
        obtain ⟨a3, c3, v5, hr, own3, o3, at3⟩ := app_runH (OwnG.nil _ _ _ v4) (HRT.out.offQ hS.off HQ4.out) HZ4.out (by first | omega | (simp; omega)) 28
        rw [List.nil_append] at hr own3
        replace o3 : Off (fun _ => False) v4 v5 := o3.mono (fun _ _ h => by simp [blk] at h)
        replace at3 : ∀ c, blk a3 = some c → v3.heap.size ≤ c := fun c hc => by have := hS.off.size; rcases at3 with e | e <;> (rw [e] at hc; simp [blk] at hc; try omega)
        have hS3 := hS.free o3 HQL.out
        replace CQ := CQ.off o3 (fun h => h)
        refine wp_append_if rfl (.const (.slice none 0 0)) (.tmp 36) rfl rfl rfl hr 37 rfl ?_
        simp only [Act.put, List.setIfInBounds_toArray, List.set_cons_zero, List.set_cons_succ]
        refine hK'.out _ _ hS3 (fun hS => ?_)
        clear hK' K' hr
        refine wpAnyH_ready (rs := [15]) (by kernel_rfl) (by simp) ?_
        refine AllReadyH.cons rfl (fun K' hK' => ?_) AllReadyH.nil
        obtain ⟨a6, c6, v6, hr, own6, o6, at6⟩ := app_runH own3 (HRD.out.offQ hS.off HQ2.out) HZ2.out (by first | omega | (simp; omega)) 28
        have hS6 := hS.step o6 at3 HQL.out
        replace at6 : ∀ c, blk a6 = some c → v3.heap.size ≤ c := fun c hc => by
          have := hS.off.size
          rcases at6 with e | e
          · exact at3 c (e ▸ hc)
          · rw [e] at hc
            simp at hc
            omega
        refine wp_append_if rfl (.tmp 37) (.tmp 44) rfl rfl rfl hr 45 rfl ?_
        simp only [Act.put, List.setIfInBounds_toArray, List.set_cons_zero, List.set_cons_succ]
        refine hK'.out _ _ hS6 (fun hS => ?_)
        clear hK' K' hr
        clear o6 CQ
        have HOWN : Hid _ := own6
        have HAT10 : Hid _ := at6
        have HLL : Hid ((lt ++ ld).length = ys.length) := by show _ = _; rw [HE.out]
        generalize hzz : (lt ++ ld).length = zz at HLL ⊢
        refine take_at (i := 16) 46 (v := .pointer (some ⟨q, 0, none⟩)) rfl rfl (by kernel_rfl) (by kernel_rfl) (by kernel_rfl) (fun _ _ _ h => h) (Or.inl ⟨by rfl, fun w' hw' => by go_simp⟩) hS ?_
        simp only [Act.put, List.setIfInBounds_toArray, List.set_cons_zero, List.set_cons_succ]
        refine take_at (i := 17) 47 (v := .pointer (some ⟨q, 0, none⟩)) rfl rfl (by kernel_rfl) (by kernel_rfl) (by kernel_rfl) (fun _ _ _ h => h) (Or.inl ⟨by rfl, fun w' hw' => by go_simp⟩) hS ?_
        simp only [Act.put, List.setIfInBounds_toArray, List.set_cons_zero, List.set_cons_succ]
        obtain ⟨b0, n0, k0, hc0⟩ := hS.cel
        have c0 := hc0.cell 0
        have fr := hc0.free
        simp only [List.getElem?_toArray, List.getElem?_cons_zero] at c0
        refine wpAnyH_ready (rs := [18]) (by kernel_rfl) (by simp) ?_
        refine AllReadyH.cons rfl (fun K' hK' => ?_) AllReadyH.nil
        go_simp
        refine hK'.out _ _ (hS.put a6 zz c6) (fun hS' => ?_)
        clear hK' K'
        have CQ := hc0.set 0 (.slice a6 zz c6)
        have OQ : Off (fun c => c = q) v6 (v6.setCell ⟨q, 0, none⟩ (.slice a6 zz c6)) := (Off.refl (fun c => c = q) v6).setCell (p := ⟨q, 0, none⟩) (.inl rfl) _
        generalize hv11 : v6.setCell ⟨q, 0, none⟩ (.slice a6 zz c6) = v11 at hS' CQ OQ ⊢
        clear hv11 hc0 c0 fr
        refine wpAnyH_done (by kernel_rfl) ?_ _
        have HCQ : Hid (Cel q 30 #[.slice a6 zz c6] v11) := CQ
        have HOQ : Hid _ := OQ
        have HSQ : Hid _ := hS'
        clear CQ OQ hS' hS hzz
        go_wp2_with fail
        go_ret
        have OZ : Off (fun c => c = q) w v11 := (HO3.out.mono (fun _ _ h => h.elim)).trans HSQ.out.off (fun _ _ h => h)
        have own := HOWN.out.off HOQ.out (fun c _ hc e => by have := HAT10.out c hc; have := HQL.out; omega)
        rw [HE.out] at own
        have CF := HCQ.out
        rw [HLL.out] at CF
        have hab : absH ys = delG HK.nk (node, key) (absH xs) := by rw [HYS.out, absH_del, HXK.out]
        have memX : ∀ z ∈ ys, z ∈ xs := fun z hz => by rw [HYS.out] at hz; exact ((mem_delG H.nk).1 hz).1
        have hq0 := HST.out.lt
        have hv0 := HO3.out.size
        have rowX : ∀ z ∈ xs, Row v11 z.e.a z.e.cap z.e.l := fun z hz => (HST.out.row z hz).offT (HST.out.ter z hz) OZ (fun c _ hd e => hd.2 e)
        refine ⟨by rw [HLQ.out]; rfl, fun c => (R c ∨ w.heap.size ≤ c) ∧ c < v11.heap.size, ys, ⟨⟨.inl HST.out.dp, by have := OZ.size; omega⟩, fun c hc => hc.2, ⟨a6, c6, CF, own, fun g hg => ?_⟩, fun z hz => rowX z (memX z hz), fun z hz => ?_, ?_⟩, ?_, OZ, fun c hc => hc.1⟩
        · have h1 := HAT10.out g hg
          exact ⟨⟨.inr (by omega), own.lt g hg⟩, by omega⟩
        · exact ((HST.out.ter z (memX z hz)).and (rowX z (memX z hz)).below).mono (fun c hc => ⟨⟨.inl hc.1.1, hc.2⟩, hc.1.2⟩)
        · rw [hab]
          exact HST.out.ok.del _
        · rw [hab]
          unfold drpT
          rw [HLQ.out]
          rfl
end Go.Proofs.Ytfhacfedklaaiaa

/- The walk of HintsPlay. -/
namespace Go.Proofs.Ytfhacfedklaaiaa
open Go.RowKit

theorem want_for (ys : List H) (node : Int) : absE ((ys.filter (fun h => decide (h.node = node))).map H.e) = forK (absH ys) node := by
  unfold forK absE absH
  rw [List.filter_map, List.map_map, List.map_map]
  rfl
set_option maxRecDepth 100000 in
set_option maxHeartbeats 8000000 in
theorem play_walk (a : Option Addr) (cap : Nat) (cs : List C) (node : Int) (w : World) (hE : Cas w a cap cs) (hnr : ∀ e ∈ cs, Nrm e.h.e.f ∧ Nrm e.f) (_ : -9223372036854775808 ≤ node ∧ node ≤ 9223372036854775807) : Calls Try.prog 3 #[.slice a cs.length cap, .int .i64 node] w fun e w' => e = .returned (.bool true) ∧ Off (fun _ => False) w w' := by
  have hnot := not_any
  have hq := eql_set
  have HE : Hid _ := hE
  have HNR : Hid _ := hnr
  have hbb : cs.length ≤ 9223372036854775807 := Nat.le_trans hE.len hE.bound
  clear hE hnr
  go_enter Try.func3, Try.ntmps3
  go_wp2_with fail
  refine (light_any a cap cs w HE.out).mono ?_
  rintro e w1 ⟨b, rfl, -, o1⟩
  have HO1 : Hid _ := o1
  clear o1
  cases b
  · go_wp2_with fail
    refine (awake_any _).mono ?_
    rintro e va ⟨rfl, oa⟩
    go_wp2_with fail
    go_ret
    exact ⟨rfl, HO1.out.trans oa (fun _ _ h => h)⟩
  · go_wp2_with fail
    refine (hnew_any w1).mono ?_
    rintro e w2 ⟨p, rfl, hs, hp, o2⟩
    go_upto_region 6 with fail
    have CQ := Cel.new w2 30 #[.slice none 0 0]
    have OQ : Off (fun _ => False) w2 (w2.alloc (.cells #[.slice none 0 0] 30)) := (Off.refl _ w2).alloc _
    have HPQ : Hid (p < w2.heap.size) := hs.lt
    have HP : Hid _ := hp
    have HO2 : Hid (Off (fun _ => False) w w2) := HO1.out.trans o2 (fun _ _ h => h)
    have hq2 : w.heap.size ≤ w2.heap.size := HO2.out.size
    generalize hqq : w2.heap.size = q at CQ hq2 HPQ ⊢
    generalize hww : w2.alloc (.cells #[.slice none 0 0] 30) = w3 at CQ OQ ⊢
    have HS0 : Hid _ := hs.free OQ
    have HR0 : Hid (RHt (fun c => c = q) q [] w3) := ⟨rfl, fun c hc => by rw [hc]; exact CQ.lt, ⟨none, 0, CQ, OwnG.nil _ _ _ _, fun g hg => by simp [blk] at hg⟩, fun x hx => by simp at hx, fun x hx => by simp at hx, OkS.nil⟩
    have HO3 : Hid (Off (fun _ => False) w w3) := HO2.out.trans OQ (fun _ _ h => h)
    have HQ0 : Hid (w.heap.size ≤ q) := hq2
    clear CQ OQ hww hqq hs hp o2 hq2 hq
    go_wp2_with fail
    go_loopw [29] (fun y wr => ∃ (n : Nat) (D R : Nat → Prop) (xs ys : List H), y = .int .i64 (n : Int) ∧ n ≤ cs.length ∧ HSt D p xs wr ∧ RHt R q ys wr ∧ absH ys = absH xs ∧ (∀ c, D c → w.heap.size ≤ c) ∧ (∀ c, R c → w.heap.size ≤ c) ∧ (∀ c, D c → ¬ R c) ∧ Off (fun _ => False) w wr) (fun y _ => (cs.length - intOf y).toNat)
    case atStart => exact ⟨0, _, _, [], [], rfl, by omega, HS0.out, HR0.out, rfl, fun c hc => by have h1 := HP.out; have h2 := HO1.out.size; omega, fun c hc => by have h1 := HQ0.out; omega, fun c h1 h2 => by have h3 := HPQ.out; omega, HO3.out⟩
    case round =>
      obtain ⟨n, D, R, xs, ys, rfl, hn, hs, hr, heq, hfa, hfb, hdi, O⟩ := hrel
      have HS : Hid _ := hs
      have HR : Hid _ := hr
      have HEQ : Hid _ := heq
      have HFA : Hid _ := hfa
      have HFB : Hid _ := hfb
      have HDI : Hid _ := hdi
      have HO : Hid _ := O
      clear hs hr heq hfa hfb hdi O
      by_cases hlt : n < cs.length
      · have e1 : decide ((n : Int) < (cs.length : Int)) = true := decide_eq_true (by omega)
        have e2 : decide (n < cs.length) = true := decide_eq_true hlt
        obtain ⟨x, hx⟩ : ∃ x, cs[n]? = some x := ⟨_, List.getElem?_eq_getElem hlt⟩
        have hE := HE.out.off HO.out
        have HRW : Hid (Row w x.h.e.a x.h.e.cap x.h.e.l) := by obtain ⟨bx, ox, -, -, rx, -⟩ := HE.out.at_ n x hx; exact rx
        have HSW : Hid (Row w x.a x.cap x.l) := by obtain ⟨bx, ox, -, -, -, sx⟩ := HE.out.at_ n x hx; exact sx
        obtain ⟨bx, ox, rfl, kx, rx, sx⟩ := hE.at_ n x hx
        have HRX : Hid _ := rx
        have HSX : Hid _ := sx
        clear rx sx
        clear hE
        have HNX : Hid (Nrm x.h.e.f) := (HNR.out x (List.mem_of_getElem? hx)).1
        clear hx
        go_upto_region 8 with fail
        refine wp_region_list ?_
        refine wpList_exec 31 rfl rfl (exec_idx10 rfl (idx_calls hlt _ _ _ _)) ?_
        simp only [Act.put, List.setIfInBounds_toArray, List.set_cons_zero, List.set_cons_succ]
        refine wpList_exec 32 rfl rfl (exec_load rfl (run_loadAt_mid wr bx (ox + n * 21) 41 (ccs x) _ kx Try.underlying41 rfl (by kernel_rfl))) ?_
        simp only [Act.put, List.setIfInBounds_toArray, List.set_cons_zero, List.set_cons_succ]
        refine wpList_exec 8 rfl rfl (exec_alloc rfl (allocC wr)) ?_
        simp only [Act.put, List.setIfInBounds_toArray, List.set_cons_zero, List.set_cons_succ]
        refine wpList_skip rfl rfl (exec_store rfl (storeC wr x)) ?_
        have Cq8 := Cel.new wr 41 (ccs x).toArray
        have OA : Off (fun _ => False) wr (wr.alloc (.cells (ccs x).toArray 41)) := (Off.refl _ wr).alloc _
        generalize hq : wr.heap.size = q8 at Cq8 ⊢
        generalize hv : wr.alloc (.cells (ccs x).toArray 41) = V8 at Cq8 OA ⊢
        have HQ8 : Hid (wr.heap.size ≤ q8) := by show _ ≤ _; omega
        clear hq hv kx
        have HC8 : Hid _ := Cq8
        obtain ⟨x0, x1, x2, x3, x4, x5, x6, x7, x8, x9, x10, x11, x12, x13, x14, x15, x16, x17, x18, x19, x20⟩ := cel21 (w := V8) Cq8
        have HO8 : Hid _ := HO.out.trans OA (fun _ _ h => h)
        have HRX8 : Hid _ := HRX.out.off OA
        have HSX8 : Hid _ := HSX.out.off OA
        have HS8 : Hid _ := HS.out.free OA
        have HR8 : Hid _ := HR.out.free OA
        have HLW : Hid (wr.heap.size ≤ V8.heap.size) := OA.size
        clear OA Cq8
        by_cases h0 : x.d = 0
        · have e0 : (x.d == 0) = true := by rw [h0]; rfl
          clear h0
          go_wp2_with fail
          refine (hput_any D p xs x.h V8 HS8.out HRX8.out HNX.out).mono ?_
          generalize hr1 : (hpR (absH xs) x.h.abs).ch = r1
          generalize hr2 : (hpR (absH xs) x.h.abs).er = r2
          rintro e w3 ⟨rfl, D', xs', hs', hx', o3, hd'⟩
          have HR1 : Hid _ := hr1
          have HR2 : Hid _ := hr2
          have HS3 : Hid _ := hs'
          have HX3 : Hid _ := hx'
          have HR3 : Hid _ := HR8.out.off o3 (fun c _ hb ha => HDI.out c ha hb)
          have HC3 : Hid _ := HC8.out.off o3 (fun ha => by have h1 := HS.out.dlt _ ha; have h2 := HQ8.out; omega)
          have HO3 : Hid (Off (fun _ => False) w w3) := HO8.out.trans o3 (fun i hi e => by have := HFA.out i e; omega)
          have HFA3 : Hid (∀ c, D' c → w.heap.size ≤ c) := fun c hc => by rcases hd' c hc with k | k; exact HFA.out c k; have h1 := HLW.out; have h2 := HO.out.size; omega
          have HDI3 : Hid (∀ c, D' c → ¬ R c) := fun c hc hb => by rcases hd' c hc with k | k; exact HDI.out c k hb; have h1 := HR.out.dlt c hb; have h2 := HLW.out; omega
          clear hs' hx' hd' o3 hr1 hr2 x0 x1 x2 x3 x4 x5 x6 x7 x8 x9 x10 x11 x12 x13 x14 x15 x16 x17 x18 x19 x20
          obtain ⟨x0, x1, x2, x3, x4, x5, x6, x7, x8, x9, x10, x11, x12, x13, x14, x15, x16, x17, x18, x19, x20⟩ := cel21 (w := w3) HC3.out
          go_wp2_with fail
          clear x0 x1 x2 x3 x4 x5 x6 x7 x8 x9 x10 x11 x12 x13 x14 x15 x16 x17 x18 x19 x20
          refine (rhput_any R q ys x.h w3 HR3.out (HRW.out.off HO3.out) HNX.out).mono ?_
          rw [HEQ.out, HR1.out, HR2.out]
          rintro e w4 ⟨rfl, R', ys', hs', hy', o4, hd'⟩
          have HS4 : Hid _ := HS3.out.off o4 (fun c _ ha hb => HDI3.out c ha (by rw [hb]; exact HR.out.dp))
          have HR4 : Hid _ := hs'
          have HO4 : Hid (Off (fun _ => False) w w4) := HO3.out.trans o4 (fun i hi e => by have := HFB.out q HR.out.dp; omega)
          have HFB4 : Hid (∀ c, R' c → w.heap.size ≤ c) := fun c hc => by rcases hd' c hc with k | k; exact HFB.out c k; have h2 := HO3.out.size; omega
          have HDI4 : Hid (∀ c, D' c → ¬ R' c) := fun c ha hc => by rcases hd' c hc with k | k; exact HDI3.out c ha k; have h1 := HS3.out.dlt c ha; omega
          have HEQ4 : Hid (absH ys' = absH xs') := by show _ = _; rw [hy', HX3.out]
          clear hs' hy' o4 hd'
          have d1 : (r1 != r1) = false := by simp
          have d2 : (r2 != r2) = false := by simp
          go_wp2_with fail
          go_roundw
          case rel => exact ⟨n + 1, D', R', xs', ys', by go_num, by omega, HS4.out, HR4.out, HEQ4.out, HFA3.out, HFB4.out, HDI4.out, HO4.out⟩
          case measure => simp [intOf]; omega
        · have e0 : (x.d == 0) = false := by rw [beq_eq_false_iff_ne]; exact h0
          clear h0
          go_upto_region 14 with fail
          clear x0 x1 x2 x3 x4 x5 x6 x7 x8 x9 x10 x11 x12 x13 x14 x15 x16 x17 x18 x19 x20
          have HQN : Hid (¬ (D q8 ∨ q8 = q)) := fun e => by have h2 := HQ8.out; rcases e with e | e; (have h1 := HS.out.dlt _ e; omega); (have h1 := HR.out.lt; omega)
          refine wp_region_held_drew (S := fun w' => Off (fun c => D c ∨ c = q) V8 w') (by kernel_rfl) ((Off.refl _ V8).drew) (fun hS => ?_)
          have O8 : Off (fun _ => False) V8 V8.drew := (Off.refl _ V8).drew
          generalize hdr : V8.drew = v8 at hS O8 ⊢
          clear hdr
          refine take_at (i := 0) 58 (v := .pointer (some ⟨p, 0, none⟩)) rfl rfl (by kernel_rfl) (by kernel_rfl) (by kernel_rfl) (fun _ _ _ h => h) (Or.inl ⟨by rfl, fun w' hw' => by go_simp⟩) hS ?_
          simp only [Act.put, List.setIfInBounds_toArray, List.set_cons_zero, List.set_cons_succ]
          refine take_at (i := 1) 59 (v := .pointer (some ⟨q8, 1, none⟩)) rfl rfl (by kernel_rfl) (by kernel_rfl) (by kernel_rfl) (fun _ _ _ h => h) (Or.inl ⟨by rfl, fun w' hw' => by go_simp⟩) hS ?_
          simp only [Act.put, List.setIfInBounds_toArray, List.set_cons_zero, List.set_cons_succ]
          refine take_at (i := 2) 60 (v := .pointer (some ⟨q8, 1, none⟩)) rfl rfl (by kernel_rfl) (by kernel_rfl) (by kernel_rfl) (fun _ _ _ h => h) (Or.inl ⟨by rfl, fun w' hw' => by go_simp⟩) hS ?_
          simp only [Act.put, List.setIfInBounds_toArray, List.set_cons_zero, List.set_cons_succ]
          refine take_at (i := 3) 61 (v := .int .i64 x.h.node) rfl rfl (by kernel_rfl) (by kernel_rfl) (by kernel_rfl) (fun _ _ _ h => h) (Or.inl ⟨by rfl, fun w' hw' => by obtain ⟨x0, x1, x2, x3, x4, x5, x6, x7, x8, x9, x10, x11, x12, x13, x14, x15, x16, x17, x18, x19, x20⟩ := cel21 (w := w') (HC8.out.off hw' HQN.out); go_simp⟩) hS ?_
          simp only [Act.put, List.setIfInBounds_toArray, List.set_cons_zero, List.set_cons_succ]
          refine take_at (i := 4) 62 (v := .pointer (some ⟨q8, 1, none⟩)) rfl rfl (by kernel_rfl) (by kernel_rfl) (by kernel_rfl) (fun _ _ _ h => h) (Or.inl ⟨by rfl, fun w' hw' => by go_simp⟩) hS ?_
          simp only [Act.put, List.setIfInBounds_toArray, List.set_cons_zero, List.set_cons_succ]
          refine take_at (i := 5) 63 (v := .pointer (some ⟨q8, 2, none⟩)) rfl rfl (by kernel_rfl) (by kernel_rfl) (by kernel_rfl) (fun _ _ _ h => h) (Or.inl ⟨by rfl, fun w' hw' => by go_simp⟩) hS ?_
          simp only [Act.put, List.setIfInBounds_toArray, List.set_cons_zero, List.set_cons_succ]
          refine take_at (i := 6) 64 (v := .pointer (some ⟨q8, 2, none⟩)) rfl rfl (by kernel_rfl) (by kernel_rfl) (by kernel_rfl) (fun _ _ _ h => h) (Or.inl ⟨by rfl, fun w' hw' => by go_simp⟩) hS ?_
          simp only [Act.put, List.setIfInBounds_toArray, List.set_cons_zero, List.set_cons_succ]
          refine take_at (i := 7) 65 (v := .string x.h.e.key) rfl rfl (by kernel_rfl) (by kernel_rfl) (by kernel_rfl) (fun _ _ _ h => h) (Or.inl ⟨by rfl, fun w' hw' => by obtain ⟨x0, x1, x2, x3, x4, x5, x6, x7, x8, x9, x10, x11, x12, x13, x14, x15, x16, x17, x18, x19, x20⟩ := cel21 (w := w') (HC8.out.off hw' HQN.out); go_simp⟩) hS ?_
          simp only [Act.put, List.setIfInBounds_toArray, List.set_cons_zero, List.set_cons_succ]
          refine take_at (i := 8) 66 (v := .pointer (some ⟨q8, 12, none⟩)) rfl rfl (by kernel_rfl) (by kernel_rfl) (by kernel_rfl) (fun _ _ _ h => h) (Or.inl ⟨by rfl, fun w' hw' => by go_simp⟩) hS ?_
          simp only [Act.put, List.setIfInBounds_toArray, List.set_cons_zero, List.set_cons_succ]
          refine take_at (i := 9) 67 (v := .agg #[.int .i64 (x.f 0), .int .i64 (x.f 1), .int .i64 (x.f 2), .int .i64 (x.f 3), .int .i64 (x.f 4), .int .i64 (x.f 5), .int .i64 (x.f 6), .int .i64 (x.f 7), .slice x.a x.l.length x.cap]) rfl rfl (by kernel_rfl) (by kernel_rfl) (by kernel_rfl) (fun _ _ _ h => h) (Or.inl ⟨by rfl, fun w' hw' => by obtain ⟨x0, x1, x2, x3, x4, x5, x6, x7, x8, x9, x10, x11, x12, x13, x14, x15, x16, x17, x18, x19, x20⟩ := cel21 (w := w') (HC8.out.off hw' HQN.out); go_simp⟩) hS ?_
          simp only [Act.put, List.setIfInBounds_toArray, List.set_cons_zero, List.set_cons_succ]
          refine take_at (i := 11) 69 (v := .pointer (some ⟨q, 0, none⟩)) rfl rfl (by kernel_rfl) (by kernel_rfl) (by kernel_rfl) (fun _ _ _ h => h) (Or.inl ⟨by rfl, fun w' hw' => by go_simp⟩) hS ?_
          simp only [Act.put, List.setIfInBounds_toArray, List.set_cons_zero, List.set_cons_succ]
          refine take_at (i := 12) 70 (v := .pointer (some ⟨q8, 1, none⟩)) rfl rfl (by kernel_rfl) (by kernel_rfl) (by kernel_rfl) (fun _ _ _ h => h) (Or.inl ⟨by rfl, fun w' hw' => by go_simp⟩) hS ?_
          simp only [Act.put, List.setIfInBounds_toArray, List.set_cons_zero, List.set_cons_succ]
          refine take_at (i := 13) 71 (v := .pointer (some ⟨q8, 1, none⟩)) rfl rfl (by kernel_rfl) (by kernel_rfl) (by kernel_rfl) (fun _ _ _ h => h) (Or.inl ⟨by rfl, fun w' hw' => by go_simp⟩) hS ?_
          simp only [Act.put, List.setIfInBounds_toArray, List.set_cons_zero, List.set_cons_succ]
          refine take_at (i := 14) 72 (v := .int .i64 x.h.node) rfl rfl (by kernel_rfl) (by kernel_rfl) (by kernel_rfl) (fun _ _ _ h => h) (Or.inl ⟨by rfl, fun w' hw' => by obtain ⟨x0, x1, x2, x3, x4, x5, x6, x7, x8, x9, x10, x11, x12, x13, x14, x15, x16, x17, x18, x19, x20⟩ := cel21 (w := w') (HC8.out.off hw' HQN.out); go_simp⟩) hS ?_
          simp only [Act.put, List.setIfInBounds_toArray, List.set_cons_zero, List.set_cons_succ]
          refine take_at (i := 15) 73 (v := .pointer (some ⟨q8, 1, none⟩)) rfl rfl (by kernel_rfl) (by kernel_rfl) (by kernel_rfl) (fun _ _ _ h => h) (Or.inl ⟨by rfl, fun w' hw' => by go_simp⟩) hS ?_
          simp only [Act.put, List.setIfInBounds_toArray, List.set_cons_zero, List.set_cons_succ]
          refine take_at (i := 16) 74 (v := .pointer (some ⟨q8, 2, none⟩)) rfl rfl (by kernel_rfl) (by kernel_rfl) (by kernel_rfl) (fun _ _ _ h => h) (Or.inl ⟨by rfl, fun w' hw' => by go_simp⟩) hS ?_
          simp only [Act.put, List.setIfInBounds_toArray, List.set_cons_zero, List.set_cons_succ]
          refine take_at (i := 17) 75 (v := .pointer (some ⟨q8, 2, none⟩)) rfl rfl (by kernel_rfl) (by kernel_rfl) (by kernel_rfl) (fun _ _ _ h => h) (Or.inl ⟨by rfl, fun w' hw' => by go_simp⟩) hS ?_
          simp only [Act.put, List.setIfInBounds_toArray, List.set_cons_zero, List.set_cons_succ]
          refine take_at (i := 18) 76 (v := .string x.h.e.key) rfl rfl (by kernel_rfl) (by kernel_rfl) (by kernel_rfl) (fun _ _ _ h => h) (Or.inl ⟨by rfl, fun w' hw' => by obtain ⟨x0, x1, x2, x3, x4, x5, x6, x7, x8, x9, x10, x11, x12, x13, x14, x15, x16, x17, x18, x19, x20⟩ := cel21 (w := w') (HC8.out.off hw' HQN.out); go_simp⟩) hS ?_
          simp only [Act.put, List.setIfInBounds_toArray, List.set_cons_zero, List.set_cons_succ]
          refine take_at (i := 19) 77 (v := .pointer (some ⟨q8, 12, none⟩)) rfl rfl (by kernel_rfl) (by kernel_rfl) (by kernel_rfl) (fun _ _ _ h => h) (Or.inl ⟨by rfl, fun w' hw' => by go_simp⟩) hS ?_
          simp only [Act.put, List.setIfInBounds_toArray, List.set_cons_zero, List.set_cons_succ]
          refine take_at (i := 20) 78 (v := .agg #[.int .i64 (x.f 0), .int .i64 (x.f 1), .int .i64 (x.f 2), .int .i64 (x.f 3), .int .i64 (x.f 4), .int .i64 (x.f 5), .int .i64 (x.f 6), .int .i64 (x.f 7), .slice x.a x.l.length x.cap]) rfl rfl (by kernel_rfl) (by kernel_rfl) (by kernel_rfl) (fun _ _ _ h => h) (Or.inl ⟨by rfl, fun w' hw' => by obtain ⟨x0, x1, x2, x3, x4, x5, x6, x7, x8, x9, x10, x11, x12, x13, x14, x15, x16, x17, x18, x19, x20⟩ := cel21 (w := w') (HC8.out.off hw' HQN.out); go_simp⟩) hS ?_
          simp only [Act.put, List.setIfInBounds_toArray, List.set_cons_zero, List.set_cons_succ]
          refine wpAnyH_ready (rs := [10]) (by kernel_rfl) (by simp) ?_
          refine AllReadyH.cons rfl (fun K' hK' => ?_) AllReadyH.nil
          go_simp
          refine (hdrop_any D p xs x.h.node x.h.e.key x.f x.a x.cap x.l v8 (HS8.out.free O8) (HSX8.out.off O8)).mono ?_
          generalize hr1 : drpB (absH xs) (x.h.node, x.h.e.key) x.f (cont x.l) = r1
          rintro e w3 ⟨rfl, xs', hs', hx', o3⟩
          have HR1 : Hid _ := hr1
          have HS3 : Hid _ := hs'
          have HX3 : Hid _ := hx'
          have HR3 : Hid _ := (HR8.out.free O8).off o3 (fun c _ hb ha => HDI.out c ha hb)
          have HO3 : Hid (Off (fun _ => False) w w3) := (HO8.out.trans O8 (fun _ _ h => h)).trans o3 (fun i hi e => by have := HFA.out i e; omega)
          refine hK'.out _ _ (hS.trans o3 (fun _ _ e => .inl e)) (fun hS => ?_)
          clear hK' K' hs' hx' o3 hr1
          refine wpAnyH_ready (rs := [21]) (by kernel_rfl) (by simp) ?_
          refine AllReadyH.cons rfl (fun K' hK' => ?_) AllReadyH.nil
          go_simp
          refine (rhdrop_any R q ys x.h.node x.h.e.key x.f x.a x.cap x.l w3 HR3.out (HSW.out.off HO3.out)).mono ?_
          rw [HEQ.out, HR1.out]
          rintro e w4 ⟨rfl, R', ys', hs', hy', o4, hd'⟩
          have HS4 : Hid _ := HS3.out.off o4 (fun c _ ha hb => HDI.out c ha (by rw [hb]; exact HR.out.dp))
          have HR4 : Hid _ := hs'
          have HO4 : Hid (Off (fun _ => False) w w4) := HO3.out.trans o4 (fun i hi e => by have := HFB.out q HR.out.dp; omega)
          have HFB4 : Hid (∀ c, R' c → w.heap.size ≤ c) := fun c hc => by rcases hd' c hc with k | k; exact HFB.out c k; have h2 := HO3.out.size; omega
          have HDI4 : Hid (∀ c, D c → ¬ R' c) := fun c ha hc => by rcases hd' c hc with k | k; exact HDI.out c ha k; have h1 := HS3.out.dlt c ha; omega
          have HEQ4 : Hid (absH ys' = absH xs') := by show _ = _; rw [hy', HX3.out]
          refine hK'.out _ _ (hS.trans o4 (fun _ _ e => .inr e)) (fun hS => ?_)
          clear hK' K' hs' hy' o4 hd'
          refine take_at (i := 22) 80 (v := .bool false) rfl rfl (by kernel_rfl) (by kernel_rfl) (by kernel_rfl) (fun _ _ _ h => h) (Or.inl ⟨by rfl, fun w' hw' => by cases r1 <;> go_simp⟩) hS ?_
          simp only [Act.put, List.setIfInBounds_toArray, List.set_cons_zero, List.set_cons_succ]
          refine wpAnyH_done (by kernel_rfl) ?_ _
          clear hS
          go_wp2_with fail
          go_roundw
          case rel => exact ⟨n + 1, D, R', xs', ys', by go_num, by omega, HS4.out, HR4.out, HEQ4.out, HFA.out, HFB4.out, HDI4.out, HO4.out⟩
          case measure => simp [intOf]; omega
      · obtain rfl : n = cs.length := by omega
        have e1 : decide ((cs.length : Int) < (cs.length : Int)) = false := decide_eq_false (by omega)
        have e2 : decide (cs.length < cs.length) = false := decide_eq_false (by omega)
        obtain ⟨aq0, kq0, hcq, hoq, -⟩ := HR.out.is
        have c0 : wr.cell? ⟨q, 0, none⟩ = some (.slice aq0 ys.length kq0) := hcq.cell 0
        have HOW : Hid _ := hoq
        have hfy := HR.out.few
        clear hcq hoq
        go_wp2_with fail
        clear c0
        go_loopw [13, 87] (fun y z wv => ∃ (m : Nat) (to : Option Addr) (co : Nat) (es : List E), y = .slice to es.length co ∧ z = .int .i64 (m : Int) ∧ m ≤ ys.length ∧ es = ((ys.take m).filter (fun h => decide (h.node = node))).map H.e ∧ OwnG 37 10 ecs wv to co es ∧ (∀ c, blk to = some c → wr.heap.size ≤ c) ∧ Off (fun _ => False) wr wv) (fun _ z _ => (ys.length - intOf z).toNat)
        case atStart => exact ⟨0, none, 0, [], rfl, rfl, by omega, by simp, OwnG.nil _ _ _ _, fun x hx => by simp [blk] at hx, Off.refl _ wr⟩
        case round =>
          obtain ⟨m, to, co, es, rfl, rfl, hm, hes, hog, hnw, O⟩ := hrel
          have HEL : Hid (es.length ≤ 64) := by
            have e2 := List.length_filter_le (fun h : H => decide (h.node = node)) (ys.take m)
            have e3 := congrArg List.length hes
            rw [List.length_map] at e3
            rw [List.length_take] at e2
            show _ ≤ _
            omega
          have HES : Hid _ := hes
          have HOG : Hid _ := hog
          have HNW : Hid _ := hnw
          have HP : Hid _ := O
          clear hes hog hnw O
          by_cases hlt : m < ys.length
          · have e1 : decide ((m : Int) < (ys.length : Int)) = true := decide_eq_true (by omega)
            have e2 : decide (m < ys.length) = true := decide_eq_true hlt
            obtain ⟨x, hx⟩ : ∃ x, ys[m]? = some x := ⟨_, List.getElem?_eq_getElem hlt⟩
            have HX : Hid _ := hx
            obtain ⟨g, eg, hat⟩ := (HOW.out.off HP.out (fun _ _ _ h => h)).atH hx
            have hix := idx_hin hlt
            subst eg
            obtain ⟨k0, k1, k2, k3, k4, k5, k6, k7, k8, k9, k10⟩ := hat.cells
            clear hat hx
            go_upto_region 21 with fail
            have Cq15 := Cel.new wr 39 #[.int .i64 x.node, .string x.e.key, .int .i64 (x.e.f 0), .int .i64 (x.e.f 1), .int .i64 (x.e.f 2), .int .i64 (x.e.f 3), .int .i64 (x.e.f 4), .int .i64 (x.e.f 5), .int .i64 (x.e.f 6), .int .i64 (x.e.f 7), .slice x.e.a x.e.l.length x.e.cap]
            have OA : Off (fun _ => False) wr (wr.alloc (.cells #[.int .i64 x.node, .string x.e.key, .int .i64 (x.e.f 0), .int .i64 (x.e.f 1), .int .i64 (x.e.f 2), .int .i64 (x.e.f 3), .int .i64 (x.e.f 4), .int .i64 (x.e.f 5), .int .i64 (x.e.f 6), .int .i64 (x.e.f 7), .slice x.e.a x.e.l.length x.e.cap] 39)) := (Off.refl _ wr).alloc _
            generalize hq : wr.heap.size = q15 at Cq15 ⊢
            generalize hv : wr.alloc (.cells #[.int .i64 x.node, .string x.e.key, .int .i64 (x.e.f 0), .int .i64 (x.e.f 1), .int .i64 (x.e.f 2), .int .i64 (x.e.f 3), .int .i64 (x.e.f 4), .int .i64 (x.e.f 5), .int .i64 (x.e.f 6), .int .i64 (x.e.f 7), .slice x.e.a x.e.l.length x.e.cap] 39) = V15 at Cq15 OA ⊢
            clear hq hv
            clear k0 k1 k2 k3 k4 k5 k6 k7 k8 k9 k10 hix
            obtain ⟨x0, x1, x2, x3, x4, x5, x6, x7, x8, x9, x10⟩ := cel11 Cq15
            have HP15 : Hid _ := HP.out.trans OA (fun _ _ h => h)
            have HOG15 : Hid _ := HOG.out.off OA (fun _ _ _ h => h)
            clear OA Cq15
            by_cases hnn : x.node = node
            · have d1 : (x.node == node) = true := by rw [hnn]; simp
              have HNN : Hid (decide (x.node = node) = true) := decide_eq_true hnn
              clear hnn
              have G := Cel.new V15 37 #[.string x.e.key, .int .i64 (x.e.f 0), .int .i64 (x.e.f 1), .int .i64 (x.e.f 2), .int .i64 (x.e.f 3), .int .i64 (x.e.f 4), .int .i64 (x.e.f 5), .int .i64 (x.e.f 6), .int .i64 (x.e.f 7), .slice x.e.a x.e.l.length x.e.cap]
              have OA : Off (fun _ => False) V15 (V15.alloc (.cells #[.string x.e.key, .int .i64 (x.e.f 0), .int .i64 (x.e.f 1), .int .i64 (x.e.f 2), .int .i64 (x.e.f 3), .int .i64 (x.e.f 4), .int .i64 (x.e.f 5), .int .i64 (x.e.f 6), .int .i64 (x.e.f 7), .slice x.e.a x.e.l.length x.e.cap] 37)) := (Off.refl _ V15).alloc _
              have G2 : ∀ j u, (ecs x.e)[j]? = some u → (V15.alloc (.cells #[.string x.e.key, .int .i64 (x.e.f 0), .int .i64 (x.e.f 1), .int .i64 (x.e.f 2), .int .i64 (x.e.f 3), .int .i64 (x.e.f 4), .int .i64 (x.e.f 5), .int .i64 (x.e.f 6), .int .i64 (x.e.f 7), .slice x.e.a x.e.l.length x.e.cap] 37)).cell? ⟨V15.heap.size, j, none⟩ = some u := fun j u hj => by
                rw [G.cell j, ← hj, List.getElem?_toArray]
                rfl
              have HG2 : Hid _ := G2
              have HOA : Hid _ := OA
              clear G G2 OA
              go_wp2_with (at_builtin; refine wpList_appG (cs := ecs) rfl (.tmp 95) (.tmp 98) Try.underlying46 Try.infoE rfl (by decide) (by decide) ecs_len ecs_one rfl to co es rfl (HOG15.out.off HOA.out (fun _ _ _ h => h)) V15.heap.size 1 x.e rfl HG2.out (by have := HEL.out; omega) ?_; intro to' co' w3 es' hes' own3 o3 at3; have HOWN3 : Hid _ := own3; have HO3 : Hid _ := o3; have HAT : Hid _ := at3; clear own3 o3 at3)
              go_roundw
              case rel =>
                have fo : Off (fun c => blk to = some c) V15 w3 := (HOA.out.mono (fun _ _ h => h.elim)).trans HO3.out (fun _ _ h => h)
                have hat : blk to' = blk to ∨ blk to' = some (V15.heap.size + 1) := by
                  have e := HAT.out
                  simpa [World.size_alloc] using e
                have hsz := HP15.out.size
                refine ⟨m + 1, to', co', es', rfl, by go_num, by omega, ?_, HOWN3.out, ?_, HP15.out.trans fo (fun i hi h => by have := HNW.out i h; omega)⟩
                · rw [hes'.out, HES.out, List.take_add_one, HX.out, List.filter_append]
                  simp [HNN.out]
                · intro c hc
                  rcases hat with h | h
                  · exact HNW.out c (h ▸ hc)
                  · rw [h] at hc
                    simp at hc
                    omega
              case measure => simp [intOf]; omega
            · have d1 : (x.node == node) = false := by rw [beq_eq_false_iff_ne]; exact hnn
              have HNN : Hid (decide (x.node = node) = false) := decide_eq_false hnn
              clear hnn
              go_wp2_with fail
              go_roundw
              case rel =>
                refine ⟨m + 1, to, co, es, rfl, by go_num, by omega, ?_, HOG15.out, HNW.out, HP15.out⟩
                rw [HES.out, List.take_add_one, HX.out, List.filter_append]
                simp [HNN.out]
              case measure => simp [intOf]; omega
          · obtain rfl : m = ys.length := by omega
            have e1 : decide ((ys.length : Int) < (ys.length : Int)) = false := decide_eq_false (by omega)
            have e2 : decide (ys.length < ys.length) = false := decide_eq_false (by omega)
            have HS2 : Hid _ := HS.out.free HP.out
            have HR2 : Hid _ := HR.out.free HP.out
            have HO2 : Hid _ := HO.out.trans HP.out (fun _ _ h => h)
            have HWANT : Hid (absE es = forK (absH ys) node) := by show _ = _; rw [HES.out, List.take_length]; exact want_for ys node
            have HWR : Hid (∀ e ∈ es, Row wr e.a e.cap e.l) := fun e he => by
              rw [HES.out] at he
              obtain ⟨z, hz, rfl⟩ := List.mem_map.1 he
              exact HR2.out.row z (List.mem_of_mem_take (List.mem_filter.1 hz).1)
            clear HES HNW
            go_wp2_with fail
            obtain ⟨aq, kq, hcq, hoq, -⟩ := HR2.out.is
            have HCQ0 : Hid _ := hcq
            have HOQ0 : Hid _ := hoq
            clear hcq hoq
            have HFW : Hid (ys.length ≤ 64) := HR2.out.few
            cases xs with
            | nil =>
              obtain rfl : ys = [] := List.eq_nil_of_length_eq_zero (by have := congrArg List.length HEQ.out; rw [absH_len] at this; exact this)
              refine (hfirst_none D p wr HS2.out).mono ?_
              rintro e w3 ⟨rfl, o3⟩
              go_upto_region 25 with fail
              have Cq16 := Cel.new w3 39 #[.int .i64 zHt.node, .string zHt.e.key, .int .i64 (zHt.e.f 0), .int .i64 (zHt.e.f 1), .int .i64 (zHt.e.f 2), .int .i64 (zHt.e.f 3), .int .i64 (zHt.e.f 4), .int .i64 (zHt.e.f 5), .int .i64 (zHt.e.f 6), .int .i64 (zHt.e.f 7), .slice zHt.e.a zHt.e.l.length zHt.e.cap]
              have OA : Off (fun _ => False) w3 (w3.alloc (.cells #[.int .i64 zHt.node, .string zHt.e.key, .int .i64 (zHt.e.f 0), .int .i64 (zHt.e.f 1), .int .i64 (zHt.e.f 2), .int .i64 (zHt.e.f 3), .int .i64 (zHt.e.f 4), .int .i64 (zHt.e.f 5), .int .i64 (zHt.e.f 6), .int .i64 (zHt.e.f 7), .slice zHt.e.a zHt.e.l.length zHt.e.cap] 39)) := (Off.refl _ w3).alloc _
              generalize hq : w3.heap.size = q16 at Cq16 ⊢
              generalize hv : w3.alloc (.cells #[.int .i64 zHt.node, .string zHt.e.key, .int .i64 (zHt.e.f 0), .int .i64 (zHt.e.f 1), .int .i64 (zHt.e.f 2), .int .i64 (zHt.e.f 3), .int .i64 (zHt.e.f 4), .int .i64 (zHt.e.f 5), .int .i64 (zHt.e.f 6), .int .i64 (zHt.e.f 7), .slice zHt.e.a zHt.e.l.length zHt.e.cap] 39) = V16 at Cq16 OA ⊢
              clear hq hv
              have HO3 : Hid (Off (fun _ => False) wr V16) := o3.trans OA (fun _ _ h => h)
              clear OA Cq16 o3
              have HCQ : Hid _ := HCQ0.out.off HO3.out (fun h => h)
              refine wp_region_held_drew (S := fun w' => Off (fun _ => False) V16 w') (by kernel_rfl) ((Off.refl _ V16).drew) (fun hS => ?_)
              refine take_at (i := 0) 106 (v := .bool false) rfl rfl (by kernel_rfl) (by kernel_rfl) (by kernel_rfl) (fun _ _ _ h => h) (Or.inl ⟨by rfl, fun w' hw' => by go_simp⟩) hS ?_
              simp only [Act.put, List.setIfInBounds_toArray, List.set_cons_zero, List.set_cons_succ]
              refine take_at (i := 1) 107 (v := .pointer (some ⟨q, 0, none⟩)) rfl rfl (by kernel_rfl) (by kernel_rfl) (by kernel_rfl) (fun _ _ _ h => h) (Or.inl ⟨by rfl, fun w' hw' => by go_simp⟩) hS ?_
              simp only [Act.put, List.setIfInBounds_toArray, List.set_cons_zero, List.set_cons_succ]
              refine take_at (i := 2) 108 (v := .pointer (some ⟨q, 0, none⟩)) rfl rfl (by kernel_rfl) (by kernel_rfl) (by kernel_rfl) (fun _ _ _ h => h) (Or.inl ⟨by rfl, fun w' hw' => by go_simp⟩) hS ?_
              simp only [Act.put, List.setIfInBounds_toArray, List.set_cons_zero, List.set_cons_succ]
              refine take_at (i := 3) 109 (v := .pointer (some ⟨q, 0, none⟩)) rfl rfl (by kernel_rfl) (by kernel_rfl) (by kernel_rfl) (fun _ _ _ h => h) (Or.inl ⟨by rfl, fun w' hw' => by go_simp⟩) hS ?_
              simp only [Act.put, List.setIfInBounds_toArray, List.set_cons_zero, List.set_cons_succ]
              refine take_at (i := 4) 110 (v := .slice aq 0 kq) rfl rfl (by kernel_rfl) (by kernel_rfl) (by kernel_rfl) (fun _ _ _ h => h) (Or.inl ⟨by rfl, fun w' hw' => by have e := (HCQ.out.off hw' (fun h => h)).cell 0; simp only [List.getElem?_toArray, List.getElem?_cons_zero] at e; go_simp⟩) hS ?_
              simp only [Act.put, List.setIfInBounds_toArray, List.set_cons_zero, List.set_cons_succ]
              refine take_at (i := 5) 111 (v := .int .i64 0) rfl rfl (by kernel_rfl) (by kernel_rfl) (by kernel_rfl) (fun _ _ _ h => h) (Or.inl ⟨by rfl, fun w' hw' => by go_simp⟩) hS ?_
              simp only [Act.put, List.setIfInBounds_toArray, List.set_cons_zero, List.set_cons_succ]
              refine take_at (i := 6) 112 (v := .bool false) rfl rfl (by kernel_rfl) (by kernel_rfl) (by kernel_rfl) (fun _ _ _ h => h) (Or.inl ⟨by rfl, fun w' hw' => by go_simp⟩) hS ?_
              simp only [Act.put, List.setIfInBounds_toArray, List.set_cons_zero, List.set_cons_succ]
              refine take_at (i := 7) 113 (v := .bool false) rfl rfl (by kernel_rfl) (by kernel_rfl) (by kernel_rfl) (fun _ _ _ h => h) (Or.inl ⟨by rfl, fun w' hw' => by go_simp⟩) hS ?_
              simp only [Act.put, List.setIfInBounds_toArray, List.set_cons_zero, List.set_cons_succ]
              refine take_at (i := 8) 114 (v := .bool false) rfl rfl (by kernel_rfl) (by kernel_rfl) (by kernel_rfl) (fun _ _ _ h => h) (Or.inl ⟨by rfl, fun w' hw' => by go_simp⟩) hS ?_
              simp only [Act.put, List.setIfInBounds_toArray, List.set_cons_zero, List.set_cons_succ]
              refine take_at (i := 9) 115 (v := .bool false) rfl rfl (by kernel_rfl) (by kernel_rfl) (by kernel_rfl) (fun _ _ _ h => h) (Or.inl ⟨by rfl, fun w' hw' => by go_simp⟩) hS ?_
              simp only [Act.put, List.setIfInBounds_toArray, List.set_cons_zero, List.set_cons_succ]
              refine take_at (i := 10) 116 (v := .bool false) rfl rfl (by kernel_rfl) (by kernel_rfl) (by kernel_rfl) (fun _ _ _ h => h) (Or.inl ⟨by rfl, fun w' hw' => by go_simp⟩) hS ?_
              simp only [Act.put, List.setIfInBounds_toArray, List.set_cons_zero, List.set_cons_succ]
              refine take_at (i := 11) 117 (v := undef) rfl rfl (by kernel_rfl) (by kernel_rfl) (by kernel_rfl) (fun _ _ _ h => h) (Or.inr ⟨by rfl, rfl⟩) hS ?_
              simp only [Act.put, List.setIfInBounds_toArray, List.set_cons_zero, List.set_cons_succ]
              refine take_at (i := 12) 118 (v := undef) rfl rfl (by kernel_rfl) (by kernel_rfl) (by kernel_rfl) (fun _ _ _ h => h) (Or.inr ⟨by rfl, rfl⟩) hS ?_
              simp only [Act.put, List.setIfInBounds_toArray, List.set_cons_zero, List.set_cons_succ]
              refine take_at (i := 13) 119 (v := undef) rfl rfl (by kernel_rfl) (by kernel_rfl) (by kernel_rfl) (fun _ _ _ h => h) (Or.inr ⟨by rfl, rfl⟩) hS ?_
              simp only [Act.put, List.setIfInBounds_toArray, List.set_cons_zero, List.set_cons_succ]
              refine take_at (i := 14) 120 (v := undef) rfl rfl (by kernel_rfl) (by kernel_rfl) (by kernel_rfl) (fun _ _ _ h => h) (Or.inr ⟨by rfl, rfl⟩) hS ?_
              simp only [Act.put, List.setIfInBounds_toArray, List.set_cons_zero, List.set_cons_succ]
              refine take_at (i := 15) 121 (v := undef) rfl rfl (by kernel_rfl) (by kernel_rfl) (by kernel_rfl) (fun _ _ _ h => h) (Or.inr ⟨by rfl, rfl⟩) hS ?_
              simp only [Act.put, List.setIfInBounds_toArray, List.set_cons_zero, List.set_cons_succ]
              refine take_at (i := 16) 122 (v := undef) rfl rfl (by kernel_rfl) (by kernel_rfl) (by kernel_rfl) (fun _ _ _ h => h) (Or.inr ⟨by rfl, rfl⟩) hS ?_
              simp only [Act.put, List.setIfInBounds_toArray, List.set_cons_zero, List.set_cons_succ]
              refine take_at (i := 17) 123 (v := undef) rfl rfl (by kernel_rfl) (by kernel_rfl) (by kernel_rfl) (fun _ _ _ h => h) (Or.inr ⟨by rfl, rfl⟩) hS ?_
              simp only [Act.put, List.setIfInBounds_toArray, List.set_cons_zero, List.set_cons_succ]
              refine take_at (i := 18) 124 (v := undef) rfl rfl (by kernel_rfl) (by kernel_rfl) (by kernel_rfl) (fun _ _ _ h => h) (Or.inr ⟨by rfl, rfl⟩) hS ?_
              simp only [Act.put, List.setIfInBounds_toArray, List.set_cons_zero, List.set_cons_succ]
              refine take_at (i := 19) 125 (v := undef) rfl rfl (by kernel_rfl) (by kernel_rfl) (by kernel_rfl) (fun _ _ _ h => h) (Or.inr ⟨by rfl, rfl⟩) hS ?_
              simp only [Act.put, List.setIfInBounds_toArray, List.set_cons_zero, List.set_cons_succ]
              refine take_at (i := 20) 126 (v := .bool false) rfl rfl (by kernel_rfl) (by kernel_rfl) (by kernel_rfl) (fun _ _ _ h => h) (Or.inl ⟨by rfl, fun w' hw' => by go_simp⟩) hS ?_
              simp only [Act.put, List.setIfInBounds_toArray, List.set_cons_zero, List.set_cons_succ]
              refine take_at (i := 21) 127 (v := .bool false) rfl rfl (by kernel_rfl) (by kernel_rfl) (by kernel_rfl) (fun _ _ _ h => h) (Or.inl ⟨by rfl, fun w' hw' => by go_simp⟩) hS ?_
              simp only [Act.put, List.setIfInBounds_toArray, List.set_cons_zero, List.set_cons_succ]
              refine wpAnyH_done (by kernel_rfl) ?_ _
              have HP4 : Hid (Off (fun _ => False) wr _) := HO3.out.trans hS (fun _ _ h => h)
              clear hS
              generalize hdr : V16.drew = v4 at HP4 ⊢
              clear hdr HCQ HO3
              have HS4 : Hid _ := HS2.out.free HP4.out
              have HCQ : Hid _ := HCQ0.out.off HP4.out (fun h => h)
              have HXL : Hid (([]).length ≤ 64) := HS4.out.few
              go_upto_region 27 with fail
              refine wp_region_held_drew (S := fun w' => Off (fun _ => False) v4 w') (by kernel_rfl) ((Off.refl _ v4).drew) (fun hS => ?_)
              generalize hdr : v4.drew = v5 at hS ⊢
              clear hdr
              refine take_at (i := 0) 128 (v := .pointer (some ⟨p, 0, none⟩)) rfl rfl (by kernel_rfl) (by kernel_rfl) (by kernel_rfl) (fun _ _ _ h => h) (Or.inl ⟨by rfl, fun w' hw' => by go_simp⟩) hS ?_
              simp only [Act.put, List.setIfInBounds_toArray, List.set_cons_zero, List.set_cons_succ]
              refine take_at (i := 2) 130 (v := .pointer (some ⟨q, 0, none⟩)) rfl rfl (by kernel_rfl) (by kernel_rfl) (by kernel_rfl) (fun _ _ _ h => h) (Or.inl ⟨by rfl, fun w' hw' => by go_simp⟩) hS ?_
              simp only [Act.put, List.setIfInBounds_toArray, List.set_cons_zero, List.set_cons_succ]
              refine take_at (i := 3) 131 (v := .pointer (some ⟨q, 0, none⟩)) rfl rfl (by kernel_rfl) (by kernel_rfl) (by kernel_rfl) (fun _ _ _ h => h) (Or.inl ⟨by rfl, fun w' hw' => by go_simp⟩) hS ?_
              simp only [Act.put, List.setIfInBounds_toArray, List.set_cons_zero, List.set_cons_succ]
              refine take_at (i := 4) 132 (v := .pointer (some ⟨q, 0, none⟩)) rfl rfl (by kernel_rfl) (by kernel_rfl) (by kernel_rfl) (fun _ _ _ h => h) (Or.inl ⟨by rfl, fun w' hw' => by go_simp⟩) hS ?_
              simp only [Act.put, List.setIfInBounds_toArray, List.set_cons_zero, List.set_cons_succ]
              refine take_at (i := 5) 133 (v := .slice aq 0 kq) rfl rfl (by kernel_rfl) (by kernel_rfl) (by kernel_rfl) (fun _ _ _ h => h) (Or.inl ⟨by rfl, fun w' hw' => by have e := (HCQ.out.off hw' (fun h => h)).cell 0; simp only [List.getElem?_toArray, List.getElem?_cons_zero] at e; go_simp⟩) hS ?_
              simp only [Act.put, List.setIfInBounds_toArray, List.set_cons_zero, List.set_cons_succ]
              refine wpAnyH_ready (rs := [1]) (by kernel_rfl) (by simp) ?_
              refine AllReadyH.cons rfl (fun K' hK' => ?_) AllReadyH.nil
              go_simp
              refine (hall_any D p ([]) v5 (HS4.out.free hS)).mono ?_
              rintro e v6 ⟨a6, c6, zs, rfl, hzs, own6, row6, ter6, new6, o6⟩
              have HZS : Hid _ := hzs
              have HOW6 : Hid _ := own6
              have HRZ : Hid _ := row6
              refine hK'.out _ _ (hS.trans o6 (fun _ _ h => h)) (fun hS => ?_)
              clear hK' K' hzs own6 row6 ter6 new6 o6
              refine wpAnyH_ready (rs := [6]) (by kernel_rfl) (by simp) ?_
              refine AllReadyH.cons rfl (fun K' hK' => ?_) AllReadyH.nil
              go_simp
              refine (samehints_any a6 aq c6 kq zs ([]) v6 HOW6.out.hns HRZ.out ((HOQ0.out.off HP4.out (fun _ _ _ h => h)).off hS (fun _ _ _ h => h)).hns (fun e he => ((HR2.out.row e he).off HP4.out).off hS) (by rw [HZS.out]) (by have h1 := congrArg List.length HZS.out; rw [absH_len, absH_len] at h1; have := HXL.out; omega)).mono ?_
              rintro e v7 ⟨rfl, o7⟩
              refine hK'.out _ _ (hS.trans o7 (fun _ _ h => h)) (fun hS => ?_)
              clear hK' K' o7
              refine take_at (i := 7) 135 (v := .bool true) rfl rfl (by kernel_rfl) (by kernel_rfl) (by kernel_rfl) (fun _ _ _ h => h) (Or.inl ⟨by rfl, fun w' hw' => by go_simp⟩) hS ?_
              simp only [Act.put, List.setIfInBounds_toArray, List.set_cons_zero, List.set_cons_succ]
              refine take_at (i := 8) 136 (v := .pointer (some ⟨p, 0, none⟩)) rfl rfl (by kernel_rfl) (by kernel_rfl) (by kernel_rfl) (fun _ _ _ h => h) (Or.inl ⟨by rfl, fun w' hw' => by go_simp⟩) hS ?_
              simp only [Act.put, List.setIfInBounds_toArray, List.set_cons_zero, List.set_cons_succ]
              refine take_at (i := 10) 138 (v := .pointer (some ⟨q, 0, none⟩)) rfl rfl (by kernel_rfl) (by kernel_rfl) (by kernel_rfl) (fun _ _ _ h => h) (Or.inl ⟨by rfl, fun w' hw' => by go_simp⟩) hS ?_
              simp only [Act.put, List.setIfInBounds_toArray, List.set_cons_zero, List.set_cons_succ]
              refine take_at (i := 11) 139 (v := .pointer (some ⟨q, 0, none⟩)) rfl rfl (by kernel_rfl) (by kernel_rfl) (by kernel_rfl) (fun _ _ _ h => h) (Or.inl ⟨by rfl, fun w' hw' => by go_simp⟩) hS ?_
              simp only [Act.put, List.setIfInBounds_toArray, List.set_cons_zero, List.set_cons_succ]
              refine take_at (i := 12) 140 (v := .pointer (some ⟨q, 0, none⟩)) rfl rfl (by kernel_rfl) (by kernel_rfl) (by kernel_rfl) (fun _ _ _ h => h) (Or.inl ⟨by rfl, fun w' hw' => by go_simp⟩) hS ?_
              simp only [Act.put, List.setIfInBounds_toArray, List.set_cons_zero, List.set_cons_succ]
              refine take_at (i := 13) 141 (v := .slice aq 0 kq) rfl rfl (by kernel_rfl) (by kernel_rfl) (by kernel_rfl) (fun _ _ _ h => h) (Or.inl ⟨by rfl, fun w' hw' => by have e := (HCQ.out.off hw' (fun h => h)).cell 0; simp only [List.getElem?_toArray, List.getElem?_cons_zero] at e; go_simp⟩) hS ?_
              simp only [Act.put, List.setIfInBounds_toArray, List.set_cons_zero, List.set_cons_succ]
              refine take_at (i := 14) 142 (v := .int .i64 0) rfl rfl (by kernel_rfl) (by kernel_rfl) (by kernel_rfl) (fun _ _ _ h => h) (Or.inl ⟨by rfl, fun w' hw' => by go_simp⟩) hS ?_
              simp only [Act.put, List.setIfInBounds_toArray, List.set_cons_zero, List.set_cons_succ]
              refine wpAnyH_ready (rs := [9]) (by kernel_rfl) (by simp) ?_
              refine AllReadyH.cons rfl (fun K' hK' => ?_) AllReadyH.nil
              go_simp
              refine (hlen_any D p ([]) v7 (HS4.out.free hS)).mono ?_
              rintro e v8 ⟨rfl, rfl⟩
              refine hK'.out _ _ hS (fun hS => ?_)
              clear hK' K'
              refine take_at (i := 15) 143 (v := .bool true) rfl rfl (by kernel_rfl) (by kernel_rfl) (by kernel_rfl) (fun _ _ _ h => h) (Or.inl ⟨by rfl, fun w' hw' => by go_simp⟩) hS ?_
              simp only [Act.put, List.setIfInBounds_toArray, List.set_cons_zero, List.set_cons_succ]
              refine take_at (i := 16) 144 (v := .bool true) rfl rfl (by kernel_rfl) (by kernel_rfl) (by kernel_rfl) (fun _ _ _ h => h) (Or.inl ⟨by rfl, fun w' hw' => by go_simp⟩) hS ?_
              simp only [Act.put, List.setIfInBounds_toArray, List.set_cons_zero, List.set_cons_succ]
              refine take_at (i := 17) 145 (v := .bool true) rfl rfl (by kernel_rfl) (by kernel_rfl) (by kernel_rfl) (fun _ _ _ h => h) (Or.inl ⟨by rfl, fun w' hw' => by go_simp⟩) hS ?_
              simp only [Act.put, List.setIfInBounds_toArray, List.set_cons_zero, List.set_cons_succ]
              refine take_at (i := 18) 146 (v := .pointer (some ⟨p, 0, none⟩)) rfl rfl (by kernel_rfl) (by kernel_rfl) (by kernel_rfl) (fun _ _ _ h => h) (Or.inl ⟨by rfl, fun w' hw' => by go_simp⟩) hS ?_
              simp only [Act.put, List.setIfInBounds_toArray, List.set_cons_zero, List.set_cons_succ]
              refine take_at (i := 19) 147 (v := .int .i64 node) rfl rfl (by kernel_rfl) (by kernel_rfl) (by kernel_rfl) (fun _ _ _ h => h) (Or.inl ⟨by rfl, fun w' hw' => by go_simp⟩) hS ?_
              simp only [Act.put, List.setIfInBounds_toArray, List.set_cons_zero, List.set_cons_succ]
              refine take_at (i := 21) 149 (v := .slice to es.length co) rfl rfl (by kernel_rfl) (by kernel_rfl) (by kernel_rfl) (fun _ _ _ h => h) (Or.inl ⟨by rfl, fun w' hw' => by go_simp⟩) hS ?_
              simp only [Act.put, List.setIfInBounds_toArray, List.set_cons_zero, List.set_cons_succ]
              refine wpAnyH_ready (rs := [20]) (by kernel_rfl) (by simp) ?_
              refine AllReadyH.cons rfl (fun K' hK' => ?_) AllReadyH.nil
              go_simp
              refine (hfor_any D p ([]) node v8 (HS4.out.free hS)).mono ?_
              rintro e v9 ⟨a9, c9, fs, rfl, hfs, own9, row9, ter9, new9, o9⟩
              have HFS : Hid _ := hfs
              have HOW9 : Hid _ := own9
              have HRF : Hid _ := row9
              refine hK'.out _ _ (hS.trans o9 (fun _ _ h => h)) (fun hS => ?_)
              clear hK' K' hfs own9 row9 ter9 new9 o9
              refine wpAnyH_ready (rs := [22]) (by kernel_rfl) (by simp) ?_
              refine AllReadyH.cons rfl (fun K' hK' => ?_) AllReadyH.nil
              go_simp
              have HEF : Hid (absE fs = absE es) := by show _ = _; rw [HFS.out, HWANT.out]
              refine (sameents_any a9 to c9 co fs es v9 HOW9.out.ent HRF.out ((HOG.out.off HP4.out (fun _ _ _ h => h)).off hS (fun _ _ _ h => h)).ent (fun e he => ((HWR.out e he).off HP4.out).off hS) HEF.out (by have h1 := congrArg List.length HEF.out; rw [absE_len, absE_len] at h1; have := HEL.out; omega)).mono ?_
              rintro e v10 ⟨rfl, o10⟩
              refine hK'.out _ _ (hS.trans o10 (fun _ _ h => h)) (fun hS => ?_)
              clear hK' K' o10
              refine take_at (i := 23) 151 (v := .bool true) rfl rfl (by kernel_rfl) (by kernel_rfl) (by kernel_rfl) (fun _ _ _ h => h) (Or.inl ⟨by rfl, fun w' hw' => by go_simp⟩) hS ?_
              simp only [Act.put, List.setIfInBounds_toArray, List.set_cons_zero, List.set_cons_succ]
              refine take_at (i := 24) 152 (v := .bool true) rfl rfl (by kernel_rfl) (by kernel_rfl) (by kernel_rfl) (fun _ _ _ h => h) (Or.inl ⟨by rfl, fun w' hw' => by go_simp⟩) hS ?_
              simp only [Act.put, List.setIfInBounds_toArray, List.set_cons_zero, List.set_cons_succ]
              refine wpAnyH_ready (rs := [25]) (by kernel_rfl) (by simp) ?_
              refine AllReadyH.cons rfl (fun K' hK' => ?_) AllReadyH.nil
              go_simp
              refine (awake_any _).mono ?_
              rintro e va ⟨rfl, oa⟩
              refine hK'.out _ _ (hS.trans oa (fun _ _ h => h)) (fun hS => ?_)
              clear hK' K' oa
              refine take_at (i := 26) 154 (v := .bool true) rfl rfl (by kernel_rfl) (by kernel_rfl) (by kernel_rfl) (fun _ _ _ h => h) (Or.inl ⟨by rfl, fun w' hw' => by go_simp⟩) hS ?_
              simp only [Act.put, List.setIfInBounds_toArray, List.set_cons_zero, List.set_cons_succ]
              refine take_at (i := 27) 4 (v := .bool true) rfl rfl (by kernel_rfl) (by kernel_rfl) (by kernel_rfl) (fun _ _ _ h => h) (Or.inl ⟨by rfl, fun w' hw' => by go_simp⟩) hS ?_
              simp only [Act.put, List.setIfInBounds_toArray, List.set_cons_zero, List.set_cons_succ]
              refine wpAnyH_done (by kernel_rfl) ?_ _
              have HOZ : Hid _ := (HO2.out.trans HP4.out (fun _ _ h => h)).trans hS (fun _ _ h => h)
              clear hS
              go_wp2_with fail
              go_ret
              exact ⟨rfl, HOZ.out⟩
            | cons x xs =>
              obtain ⟨y, ys', hyy⟩ : ∃ y ys', ys = y :: ys' := by
                cases ys with
                | nil => exact absurd (congrArg List.length HEQ.out) (by simp [absH])
                | cons y ys' => exact ⟨y, ys', rfl⟩
              have HYX : Hid (y.abs = x.abs) := by have e := HEQ.out; rw [hyy] at e; exact (List.cons.inj e).1
              have HYM : Hid (y ∈ ys) := by show _ ∈ _; rw [hyy]; simp
              have HYT : Hid (ys.take 1 = [y]) := by show _ = _; rw [hyy]; rfl
              have HYL : Hid (0 < ys.length) := by show _ < _; rw [hyy]; simp
              clear hyy
              refine (hfirst_any D p x xs wr HS2.out).mono ?_
              rintro e w3 ⟨h, rfl, hh, rh, th, o3⟩
              go_upto_region 25 with fail
              have Cq16 := Cel.new w3 39 #[.int .i64 h.node, .string h.e.key, .int .i64 (h.e.f 0), .int .i64 (h.e.f 1), .int .i64 (h.e.f 2), .int .i64 (h.e.f 3), .int .i64 (h.e.f 4), .int .i64 (h.e.f 5), .int .i64 (h.e.f 6), .int .i64 (h.e.f 7), .slice h.e.a h.e.l.length h.e.cap]
              have OA : Off (fun _ => False) w3 (w3.alloc (.cells #[.int .i64 h.node, .string h.e.key, .int .i64 (h.e.f 0), .int .i64 (h.e.f 1), .int .i64 (h.e.f 2), .int .i64 (h.e.f 3), .int .i64 (h.e.f 4), .int .i64 (h.e.f 5), .int .i64 (h.e.f 6), .int .i64 (h.e.f 7), .slice h.e.a h.e.l.length h.e.cap] 39)) := (Off.refl _ w3).alloc _
              generalize hq : w3.heap.size = q16 at Cq16 ⊢
              generalize hv : w3.alloc (.cells #[.int .i64 h.node, .string h.e.key, .int .i64 (h.e.f 0), .int .i64 (h.e.f 1), .int .i64 (h.e.f 2), .int .i64 (h.e.f 3), .int .i64 (h.e.f 4), .int .i64 (h.e.f 5), .int .i64 (h.e.f 6), .int .i64 (h.e.f 7), .slice h.e.a h.e.l.length h.e.cap] 39) = V16 at Cq16 OA ⊢
              clear hq hv
              have HO3 : Hid (Off (fun _ => False) wr V16) := o3.trans OA (fun _ _ h => h)
              have HRH : Hid _ := rh.off OA
              have HH : Hid _ := hh
              have HC16 : Hid _ := Cq16
              clear OA Cq16 o3 rh th hh
              have HCQ : Hid _ := HCQ0.out.off HO3.out (fun h => h)
              have dl : decide ((0 : Int) < (ys.length : Int)) = true := decide_eq_true (by have := HYL.out; omega)
              have dl' : decide (0 < ys.length) = true := decide_eq_true HYL.out
              obtain ⟨hsh, hrt⟩ := (HOQ0.out.off HO3.out (fun _ _ _ h => h)).hns.slh (k := 1) HYL.out
              rw [HYT.out] at hrt
              have hsh1 : ∀ W, (Instr.slice 28 (.slice aq ys.length kq) none (some (.int .i64 1)) none).run Try.prog W = .ok (.slice aq 1 kq) W := fun W => by have e := hsh W; rw [HYT.out] at e; exact e
              have HRT : Hid _ := hrt
              clear hsh hrt
              refine wp_region_held_drew (S := fun w' => Off (fun _ => False) V16 w') (by kernel_rfl) ((Off.refl _ V16).drew) (fun hS => ?_)
              generalize hdr : V16.drew = v3 at hS ⊢
              clear hdr
              refine take_at (i := 0) 106 (v := .bool true) rfl rfl (by kernel_rfl) (by kernel_rfl) (by kernel_rfl) (fun _ _ _ h => h) (Or.inl ⟨by rfl, fun w' hw' => by go_simp⟩) hS ?_
              simp only [Act.put, List.setIfInBounds_toArray, List.set_cons_zero, List.set_cons_succ]
              refine take_at (i := 1) 107 (v := .pointer (some ⟨q, 0, none⟩)) rfl rfl (by kernel_rfl) (by kernel_rfl) (by kernel_rfl) (fun _ _ _ h => h) (Or.inl ⟨by rfl, fun w' hw' => by go_simp⟩) hS ?_
              simp only [Act.put, List.setIfInBounds_toArray, List.set_cons_zero, List.set_cons_succ]
              refine take_at (i := 2) 108 (v := .pointer (some ⟨q, 0, none⟩)) rfl rfl (by kernel_rfl) (by kernel_rfl) (by kernel_rfl) (fun _ _ _ h => h) (Or.inl ⟨by rfl, fun w' hw' => by go_simp⟩) hS ?_
              simp only [Act.put, List.setIfInBounds_toArray, List.set_cons_zero, List.set_cons_succ]
              refine take_at (i := 3) 109 (v := .pointer (some ⟨q, 0, none⟩)) rfl rfl (by kernel_rfl) (by kernel_rfl) (by kernel_rfl) (fun _ _ _ h => h) (Or.inl ⟨by rfl, fun w' hw' => by go_simp⟩) hS ?_
              simp only [Act.put, List.setIfInBounds_toArray, List.set_cons_zero, List.set_cons_succ]
              refine take_at (i := 4) 110 (v := .slice aq ys.length kq) rfl rfl (by kernel_rfl) (by kernel_rfl) (by kernel_rfl) (fun _ _ _ h => h) (Or.inl ⟨by rfl, fun w' hw' => by have e := (HCQ.out.off hw' (fun h => h)).cell 0; simp only [List.getElem?_toArray, List.getElem?_cons_zero] at e; go_simp⟩) hS ?_
              simp only [Act.put, List.setIfInBounds_toArray, List.set_cons_zero, List.set_cons_succ]
              refine take_at (i := 5) 111 (v := .int .i64 (ys.length : Int)) rfl rfl (by kernel_rfl) (by kernel_rfl) (by kernel_rfl) (fun _ _ _ h => h) (Or.inl ⟨by rfl, fun w' hw' => by go_simp⟩) hS ?_
              simp only [Act.put, List.setIfInBounds_toArray, List.set_cons_zero, List.set_cons_succ]
              refine take_at (i := 6) 112 (v := .bool true) rfl rfl (by kernel_rfl) (by kernel_rfl) (by kernel_rfl) (fun _ _ _ h => h) (Or.inl ⟨by rfl, fun w' hw' => by go_simp⟩) hS ?_
              simp only [Act.put, List.setIfInBounds_toArray, List.set_cons_zero, List.set_cons_succ]
              refine take_at (i := 7) 113 (v := .bool false) rfl rfl (by kernel_rfl) (by kernel_rfl) (by kernel_rfl) (fun _ _ _ h => h) (Or.inl ⟨by rfl, fun w' hw' => by go_simp⟩) hS ?_
              simp only [Act.put, List.setIfInBounds_toArray, List.set_cons_zero, List.set_cons_succ]
              refine take_at (i := 8) 114 (v := .bool false) rfl rfl (by kernel_rfl) (by kernel_rfl) (by kernel_rfl) (fun _ _ _ h => h) (Or.inl ⟨by rfl, fun w' hw' => by go_simp⟩) hS ?_
              simp only [Act.put, List.setIfInBounds_toArray, List.set_cons_zero, List.set_cons_succ]
              refine take_at (i := 9) 115 (v := .bool true) rfl rfl (by kernel_rfl) (by kernel_rfl) (by kernel_rfl) (fun _ _ _ h => h) (Or.inl ⟨by rfl, fun w' hw' => by go_simp⟩) hS ?_
              simp only [Act.put, List.setIfInBounds_toArray, List.set_cons_zero, List.set_cons_succ]
              refine take_at (i := 10) 116 (v := .bool true) rfl rfl (by kernel_rfl) (by kernel_rfl) (by kernel_rfl) (fun _ _ _ h => h) (Or.inl ⟨by rfl, fun w' hw' => by go_simp⟩) hS ?_
              simp only [Act.put, List.setIfInBounds_toArray, List.set_cons_zero, List.set_cons_succ]
              refine take_at (i := 11) 117 (v := .agg #[.int .i64 h.node, .string h.e.key, .int .i64 (h.e.f 0), .int .i64 (h.e.f 1), .int .i64 (h.e.f 2), .int .i64 (h.e.f 3), .int .i64 (h.e.f 4), .int .i64 (h.e.f 5), .int .i64 (h.e.f 6), .int .i64 (h.e.f 7), .slice h.e.a h.e.l.length h.e.cap]) rfl rfl (by kernel_rfl) (by kernel_rfl) (by kernel_rfl) (fun _ _ _ h => h) (Or.inl ⟨by rfl, fun w' hw' => by obtain ⟨x0, x1, x2, x3, x4, x5, x6, x7, x8, x9, x10⟩ := cel11 (HC16.out.off hw' (fun h => h)); go_simp⟩) hS ?_
              simp only [Act.put, List.setIfInBounds_toArray, List.set_cons_zero, List.set_cons_succ]
              refine take_at (i := 13) 119 (v := .pointer (some ⟨q, 0, none⟩)) rfl rfl (by kernel_rfl) (by kernel_rfl) (by kernel_rfl) (fun _ _ _ h => h) (Or.inl ⟨by rfl, fun w' hw' => by go_simp⟩) hS ?_
              simp only [Act.put, List.setIfInBounds_toArray, List.set_cons_zero, List.set_cons_succ]
              refine take_at (i := 14) 120 (v := .pointer (some ⟨q, 0, none⟩)) rfl rfl (by kernel_rfl) (by kernel_rfl) (by kernel_rfl) (fun _ _ _ h => h) (Or.inl ⟨by rfl, fun w' hw' => by go_simp⟩) hS ?_
              simp only [Act.put, List.setIfInBounds_toArray, List.set_cons_zero, List.set_cons_succ]
              refine take_at (i := 15) 121 (v := .pointer (some ⟨q, 0, none⟩)) rfl rfl (by kernel_rfl) (by kernel_rfl) (by kernel_rfl) (fun _ _ _ h => h) (Or.inl ⟨by rfl, fun w' hw' => by go_simp⟩) hS ?_
              simp only [Act.put, List.setIfInBounds_toArray, List.set_cons_zero, List.set_cons_succ]
              refine take_at (i := 16) 122 (v := .slice aq ys.length kq) rfl rfl (by kernel_rfl) (by kernel_rfl) (by kernel_rfl) (fun _ _ _ h => h) (Or.inl ⟨by rfl, fun w' hw' => by have e := (HCQ.out.off hw' (fun h => h)).cell 0; simp only [List.getElem?_toArray, List.getElem?_cons_zero] at e; go_simp⟩) hS ?_
              simp only [Act.put, List.setIfInBounds_toArray, List.set_cons_zero, List.set_cons_succ]
              refine take_at (i := 17) 123 (v := .slice aq 1 kq) rfl rfl (by kernel_rfl) (by kernel_rfl) (by kernel_rfl) (fun _ _ _ h => h) (Or.inl ⟨by rfl, fun w' hw' => by have e := hsh1 w'; go_simp⟩) hS ?_
              simp only [Act.put, List.setIfInBounds_toArray, List.set_cons_zero, List.set_cons_succ]
              refine wpAnyH_ready (rs := [12]) (by kernel_rfl) (by simp) ?_
              refine AllReadyH.cons rfl (fun K' hK' => ?_) AllReadyH.nil
              go_simp
              have CH := Cel.new v3 39 #[.int .i64 h.node, .string h.e.key, .int .i64 (h.e.f 0), .int .i64 (h.e.f 1), .int .i64 (h.e.f 2), .int .i64 (h.e.f 3), .int .i64 (h.e.f 4), .int .i64 (h.e.f 5), .int .i64 (h.e.f 6), .int .i64 (h.e.f 7), .slice h.e.a h.e.l.length h.e.cap]
              have OB : Off (fun _ => False) v3 (v3.alloc (.cells #[.int .i64 h.node, .string h.e.key, .int .i64 (h.e.f 0), .int .i64 (h.e.f 1), .int .i64 (h.e.f 2), .int .i64 (h.e.f 3), .int .i64 (h.e.f 4), .int .i64 (h.e.f 5), .int .i64 (h.e.f 6), .int .i64 (h.e.f 7), .slice h.e.a h.e.l.length h.e.cap] 39)) := (Off.refl _ v3).alloc _
              refine hK'.out _ _ (hS.trans OB (fun _ _ h => h)) (fun hS => ?_)
              clear hK' K'
              generalize hqh : v3.heap.size = qh at CH ⊢
              generalize hvh : v3.alloc (.cells #[.int .i64 h.node, .string h.e.key, .int .i64 (h.e.f 0), .int .i64 (h.e.f 1), .int .i64 (h.e.f 2), .int .i64 (h.e.f 3), .int .i64 (h.e.f 4), .int .i64 (h.e.f 5), .int .i64 (h.e.f 6), .int .i64 (h.e.f 7), .slice h.e.a h.e.l.length h.e.cap] 39) = v5 at CH OB hS ⊢
              clear hqh hvh OB
              refine wpAnyH_ready (rs := [18]) (by kernel_rfl) (by simp) ?_
              refine AllReadyH.cons rfl (fun K' hK' => ?_) AllReadyH.nil
              go_simp
              refine (samehints_any (some ⟨qh, 0, none⟩) aq 1 kq [h] [y] v5 (cel_hns CH) (fun e he => by rw [List.mem_singleton.1 he]; exact HRH.out.off hS) (HRT.out.offQ hS (fun _ _ h => h)) (fun e he => by rw [List.mem_singleton.1 he]; exact ((HR2.out.row y HYM.out).off HO3.out).off hS) (by show [h.abs] = [y.abs]; rw [HH.out, HYX.out]) (by simp)).mono ?_
              rintro e v4 ⟨rfl, o4⟩
              refine hK'.out _ _ (hS.trans o4 (fun _ _ h => h)) (fun hS => ?_)
              clear hK' K' o4 CH
              refine take_at (i := 19) 125 (v := .bool false) rfl rfl (by kernel_rfl) (by kernel_rfl) (by kernel_rfl) (fun _ _ _ h => h) (Or.inl ⟨by rfl, fun w' hw' => by go_simp⟩) hS ?_
              simp only [Act.put, List.setIfInBounds_toArray, List.set_cons_zero, List.set_cons_succ]
              refine take_at (i := 20) 126 (v := .bool false) rfl rfl (by kernel_rfl) (by kernel_rfl) (by kernel_rfl) (fun _ _ _ h => h) (Or.inl ⟨by rfl, fun w' hw' => by go_simp⟩) hS ?_
              simp only [Act.put, List.setIfInBounds_toArray, List.set_cons_zero, List.set_cons_succ]
              refine take_at (i := 21) 127 (v := .bool false) rfl rfl (by kernel_rfl) (by kernel_rfl) (by kernel_rfl) (fun _ _ _ h => h) (Or.inl ⟨by rfl, fun w' hw' => by go_simp⟩) hS ?_
              simp only [Act.put, List.setIfInBounds_toArray, List.set_cons_zero, List.set_cons_succ]
              refine wpAnyH_done (by kernel_rfl) ?_ _
              have HP4 : Hid (Off (fun _ => False) wr v4) := HO3.out.trans hS (fun _ _ h => h)
              clear hS HCQ HRT hsh1 dl dl' HO3
              have HS4 : Hid _ := HS2.out.free HP4.out
              have HCQ : Hid _ := HCQ0.out.off HP4.out (fun h => h)
              have HXL : Hid ((x :: xs).length ≤ 64) := HS4.out.few
              go_upto_region 27 with fail
              refine wp_region_held_drew (S := fun w' => Off (fun _ => False) v4 w') (by kernel_rfl) ((Off.refl _ v4).drew) (fun hS => ?_)
              generalize hdr : v4.drew = v5 at hS ⊢
              clear hdr
              refine take_at (i := 0) 128 (v := .pointer (some ⟨p, 0, none⟩)) rfl rfl (by kernel_rfl) (by kernel_rfl) (by kernel_rfl) (fun _ _ _ h => h) (Or.inl ⟨by rfl, fun w' hw' => by go_simp⟩) hS ?_
              simp only [Act.put, List.setIfInBounds_toArray, List.set_cons_zero, List.set_cons_succ]
              refine take_at (i := 2) 130 (v := .pointer (some ⟨q, 0, none⟩)) rfl rfl (by kernel_rfl) (by kernel_rfl) (by kernel_rfl) (fun _ _ _ h => h) (Or.inl ⟨by rfl, fun w' hw' => by go_simp⟩) hS ?_
              simp only [Act.put, List.setIfInBounds_toArray, List.set_cons_zero, List.set_cons_succ]
              refine take_at (i := 3) 131 (v := .pointer (some ⟨q, 0, none⟩)) rfl rfl (by kernel_rfl) (by kernel_rfl) (by kernel_rfl) (fun _ _ _ h => h) (Or.inl ⟨by rfl, fun w' hw' => by go_simp⟩) hS ?_
              simp only [Act.put, List.setIfInBounds_toArray, List.set_cons_zero, List.set_cons_succ]
              refine take_at (i := 4) 132 (v := .pointer (some ⟨q, 0, none⟩)) rfl rfl (by kernel_rfl) (by kernel_rfl) (by kernel_rfl) (fun _ _ _ h => h) (Or.inl ⟨by rfl, fun w' hw' => by go_simp⟩) hS ?_
              simp only [Act.put, List.setIfInBounds_toArray, List.set_cons_zero, List.set_cons_succ]
              refine take_at (i := 5) 133 (v := .slice aq ys.length kq) rfl rfl (by kernel_rfl) (by kernel_rfl) (by kernel_rfl) (fun _ _ _ h => h) (Or.inl ⟨by rfl, fun w' hw' => by have e := (HCQ.out.off hw' (fun h => h)).cell 0; simp only [List.getElem?_toArray, List.getElem?_cons_zero] at e; go_simp⟩) hS ?_
              simp only [Act.put, List.setIfInBounds_toArray, List.set_cons_zero, List.set_cons_succ]
              refine wpAnyH_ready (rs := [1]) (by kernel_rfl) (by simp) ?_
              refine AllReadyH.cons rfl (fun K' hK' => ?_) AllReadyH.nil
              go_simp
              refine (hall_any D p (x :: xs) v5 (HS4.out.free hS)).mono ?_
              rintro e v6 ⟨a6, c6, zs, rfl, hzs, own6, row6, ter6, new6, o6⟩
              have HZS : Hid _ := hzs
              have HOW6 : Hid _ := own6
              have HRZ : Hid _ := row6
              refine hK'.out _ _ (hS.trans o6 (fun _ _ h => h)) (fun hS => ?_)
              clear hK' K' hzs own6 row6 ter6 new6 o6
              refine wpAnyH_ready (rs := [6]) (by kernel_rfl) (by simp) ?_
              refine AllReadyH.cons rfl (fun K' hK' => ?_) AllReadyH.nil
              go_simp
              refine (samehints_any a6 aq c6 kq zs (ys) v6 HOW6.out.hns HRZ.out ((HOQ0.out.off HP4.out (fun _ _ _ h => h)).off hS (fun _ _ _ h => h)).hns (fun e he => ((HR2.out.row e he).off HP4.out).off hS) (by rw [HZS.out, HEQ.out]) (by have h1 := congrArg List.length HZS.out; rw [absH_len, absH_len] at h1; have := HXL.out; omega)).mono ?_
              rintro e v7 ⟨rfl, o7⟩
              refine hK'.out _ _ (hS.trans o7 (fun _ _ h => h)) (fun hS => ?_)
              clear hK' K' o7
              refine take_at (i := 7) 135 (v := .bool true) rfl rfl (by kernel_rfl) (by kernel_rfl) (by kernel_rfl) (fun _ _ _ h => h) (Or.inl ⟨by rfl, fun w' hw' => by go_simp⟩) hS ?_
              simp only [Act.put, List.setIfInBounds_toArray, List.set_cons_zero, List.set_cons_succ]
              refine take_at (i := 8) 136 (v := .pointer (some ⟨p, 0, none⟩)) rfl rfl (by kernel_rfl) (by kernel_rfl) (by kernel_rfl) (fun _ _ _ h => h) (Or.inl ⟨by rfl, fun w' hw' => by go_simp⟩) hS ?_
              simp only [Act.put, List.setIfInBounds_toArray, List.set_cons_zero, List.set_cons_succ]
              refine take_at (i := 10) 138 (v := .pointer (some ⟨q, 0, none⟩)) rfl rfl (by kernel_rfl) (by kernel_rfl) (by kernel_rfl) (fun _ _ _ h => h) (Or.inl ⟨by rfl, fun w' hw' => by go_simp⟩) hS ?_
              simp only [Act.put, List.setIfInBounds_toArray, List.set_cons_zero, List.set_cons_succ]
              refine take_at (i := 11) 139 (v := .pointer (some ⟨q, 0, none⟩)) rfl rfl (by kernel_rfl) (by kernel_rfl) (by kernel_rfl) (fun _ _ _ h => h) (Or.inl ⟨by rfl, fun w' hw' => by go_simp⟩) hS ?_
              simp only [Act.put, List.setIfInBounds_toArray, List.set_cons_zero, List.set_cons_succ]
              refine take_at (i := 12) 140 (v := .pointer (some ⟨q, 0, none⟩)) rfl rfl (by kernel_rfl) (by kernel_rfl) (by kernel_rfl) (fun _ _ _ h => h) (Or.inl ⟨by rfl, fun w' hw' => by go_simp⟩) hS ?_
              simp only [Act.put, List.setIfInBounds_toArray, List.set_cons_zero, List.set_cons_succ]
              refine take_at (i := 13) 141 (v := .slice aq ys.length kq) rfl rfl (by kernel_rfl) (by kernel_rfl) (by kernel_rfl) (fun _ _ _ h => h) (Or.inl ⟨by rfl, fun w' hw' => by have e := (HCQ.out.off hw' (fun h => h)).cell 0; simp only [List.getElem?_toArray, List.getElem?_cons_zero] at e; go_simp⟩) hS ?_
              simp only [Act.put, List.setIfInBounds_toArray, List.set_cons_zero, List.set_cons_succ]
              refine take_at (i := 14) 142 (v := .int .i64 (ys.length : Int)) rfl rfl (by kernel_rfl) (by kernel_rfl) (by kernel_rfl) (fun _ _ _ h => h) (Or.inl ⟨by rfl, fun w' hw' => by go_simp⟩) hS ?_
              simp only [Act.put, List.setIfInBounds_toArray, List.set_cons_zero, List.set_cons_succ]
              refine wpAnyH_ready (rs := [9]) (by kernel_rfl) (by simp) ?_
              refine AllReadyH.cons rfl (fun K' hK' => ?_) AllReadyH.nil
              go_simp
              refine (hlen_any D p (x :: xs) v7 (HS4.out.free hS)).mono ?_
              rw [show (((x :: xs).length : Nat) : Int) = (ys.length : Int) from by have e := congrArg List.length HEQ.out; rw [absH_len, absH_len] at e; rw [e]]
              rintro e v8 ⟨rfl, rfl⟩
              refine hK'.out _ _ hS (fun hS => ?_)
              clear hK' K'
              refine take_at (i := 15) 143 (v := .bool true) rfl rfl (by kernel_rfl) (by kernel_rfl) (by kernel_rfl) (fun _ _ _ h => h) (Or.inl ⟨by rfl, fun w' hw' => by go_simp⟩) hS ?_
              simp only [Act.put, List.setIfInBounds_toArray, List.set_cons_zero, List.set_cons_succ]
              refine take_at (i := 16) 144 (v := .bool true) rfl rfl (by kernel_rfl) (by kernel_rfl) (by kernel_rfl) (fun _ _ _ h => h) (Or.inl ⟨by rfl, fun w' hw' => by go_simp⟩) hS ?_
              simp only [Act.put, List.setIfInBounds_toArray, List.set_cons_zero, List.set_cons_succ]
              refine take_at (i := 17) 145 (v := .bool true) rfl rfl (by kernel_rfl) (by kernel_rfl) (by kernel_rfl) (fun _ _ _ h => h) (Or.inl ⟨by rfl, fun w' hw' => by go_simp⟩) hS ?_
              simp only [Act.put, List.setIfInBounds_toArray, List.set_cons_zero, List.set_cons_succ]
              refine take_at (i := 18) 146 (v := .pointer (some ⟨p, 0, none⟩)) rfl rfl (by kernel_rfl) (by kernel_rfl) (by kernel_rfl) (fun _ _ _ h => h) (Or.inl ⟨by rfl, fun w' hw' => by go_simp⟩) hS ?_
              simp only [Act.put, List.setIfInBounds_toArray, List.set_cons_zero, List.set_cons_succ]
              refine take_at (i := 19) 147 (v := .int .i64 node) rfl rfl (by kernel_rfl) (by kernel_rfl) (by kernel_rfl) (fun _ _ _ h => h) (Or.inl ⟨by rfl, fun w' hw' => by go_simp⟩) hS ?_
              simp only [Act.put, List.setIfInBounds_toArray, List.set_cons_zero, List.set_cons_succ]
              refine take_at (i := 21) 149 (v := .slice to es.length co) rfl rfl (by kernel_rfl) (by kernel_rfl) (by kernel_rfl) (fun _ _ _ h => h) (Or.inl ⟨by rfl, fun w' hw' => by go_simp⟩) hS ?_
              simp only [Act.put, List.setIfInBounds_toArray, List.set_cons_zero, List.set_cons_succ]
              refine wpAnyH_ready (rs := [20]) (by kernel_rfl) (by simp) ?_
              refine AllReadyH.cons rfl (fun K' hK' => ?_) AllReadyH.nil
              go_simp
              refine (hfor_any D p (x :: xs) node v8 (HS4.out.free hS)).mono ?_
              rintro e v9 ⟨a9, c9, fs, rfl, hfs, own9, row9, ter9, new9, o9⟩
              have HFS : Hid _ := hfs
              have HOW9 : Hid _ := own9
              have HRF : Hid _ := row9
              refine hK'.out _ _ (hS.trans o9 (fun _ _ h => h)) (fun hS => ?_)
              clear hK' K' hfs own9 row9 ter9 new9 o9
              refine wpAnyH_ready (rs := [22]) (by kernel_rfl) (by simp) ?_
              refine AllReadyH.cons rfl (fun K' hK' => ?_) AllReadyH.nil
              go_simp
              have HEF : Hid (absE fs = absE es) := by show _ = _; rw [HFS.out, HWANT.out, HEQ.out]
              refine (sameents_any a9 to c9 co fs es v9 HOW9.out.ent HRF.out ((HOG.out.off HP4.out (fun _ _ _ h => h)).off hS (fun _ _ _ h => h)).ent (fun e he => ((HWR.out e he).off HP4.out).off hS) HEF.out (by have h1 := congrArg List.length HEF.out; rw [absE_len, absE_len] at h1; have := HEL.out; omega)).mono ?_
              rintro e v10 ⟨rfl, o10⟩
              refine hK'.out _ _ (hS.trans o10 (fun _ _ h => h)) (fun hS => ?_)
              clear hK' K' o10
              refine take_at (i := 23) 151 (v := .bool true) rfl rfl (by kernel_rfl) (by kernel_rfl) (by kernel_rfl) (fun _ _ _ h => h) (Or.inl ⟨by rfl, fun w' hw' => by go_simp⟩) hS ?_
              simp only [Act.put, List.setIfInBounds_toArray, List.set_cons_zero, List.set_cons_succ]
              refine take_at (i := 24) 152 (v := .bool true) rfl rfl (by kernel_rfl) (by kernel_rfl) (by kernel_rfl) (fun _ _ _ h => h) (Or.inl ⟨by rfl, fun w' hw' => by go_simp⟩) hS ?_
              simp only [Act.put, List.setIfInBounds_toArray, List.set_cons_zero, List.set_cons_succ]
              refine wpAnyH_ready (rs := [25]) (by kernel_rfl) (by simp) ?_
              refine AllReadyH.cons rfl (fun K' hK' => ?_) AllReadyH.nil
              go_simp
              refine (awake_any _).mono ?_
              rintro e va ⟨rfl, oa⟩
              refine hK'.out _ _ (hS.trans oa (fun _ _ h => h)) (fun hS => ?_)
              clear hK' K' oa
              refine take_at (i := 26) 154 (v := .bool true) rfl rfl (by kernel_rfl) (by kernel_rfl) (by kernel_rfl) (fun _ _ _ h => h) (Or.inl ⟨by rfl, fun w' hw' => by go_simp⟩) hS ?_
              simp only [Act.put, List.setIfInBounds_toArray, List.set_cons_zero, List.set_cons_succ]
              refine take_at (i := 27) 4 (v := .bool true) rfl rfl (by kernel_rfl) (by kernel_rfl) (by kernel_rfl) (fun _ _ _ h => h) (Or.inl ⟨by rfl, fun w' hw' => by go_simp⟩) hS ?_
              simp only [Act.put, List.setIfInBounds_toArray, List.set_cons_zero, List.set_cons_succ]
              refine wpAnyH_done (by kernel_rfl) ?_ _
              have HOZ : Hid _ := (HO2.out.trans HP4.out (fun _ _ h => h)).trans hS (fun _ _ h => h)
              clear hS
              go_wp2_with fail
              go_ret
              exact ⟨rfl, HOZ.out⟩
end Go.Proofs.Ytfhacfedklaaiaa
