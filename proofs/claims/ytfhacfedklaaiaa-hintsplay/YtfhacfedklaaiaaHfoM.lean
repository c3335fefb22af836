/- Several texts in one. -/
import Derived.Test.YtfhacfedklaaiaaHptM
import Derived.Test.YtfhacfedklaaiaaLeq5
/- Drop of a set. -/
namespace Go.Proofs.Ytfhacfedklaaiaa
open Go.RowKit

set_option maxRecDepth 100000 in
set_option maxHeartbeats 4000000 in
theorem hdrop_any (D : Nat → Prop) (p : Nat) (xs : List H) (node : Int) (key : ByteArray) (f : Nat → Int) (sa : Option Addr) (sc : Nat) (l : List V) (w : World) (S : HSt D p xs w) (hr : Row w sa sc l) :
    Calls Try.prog 14 #[.pointer (some ⟨p, 0, none⟩), .int .i64 node, .string key, .agg #[.int .i64 (f 0), .int .i64 (f 1), .int .i64 (f 2), .int .i64 (f 3), .int .i64 (f 4), .int .i64 (f 5), .int .i64 (f 6), .int .i64 (f 7), .slice sa l.length sc]] w fun e w' => e = .returned (.bool (drpB (absH xs) (node, key) f (cont l))) ∧ ∃ xs', HSt D p xs' w' ∧ absH xs' = drpT (absH xs) (node, key) f (cont l) ∧ Off D w w' := by
  have hq := eql_set
  have hnot := not_any
  have C := Cel.new w 35 #[.int .i64 (f 0), .int .i64 (f 1), .int .i64 (f 2), .int .i64 (f 3), .int .i64 (f 4), .int .i64 (f 5), .int .i64 (f 6), .int .i64 (f 7), .slice sa l.length sc]
  have O : Off (fun _ => False) w (w.alloc (.cells #[.int .i64 (f 0), .int .i64 (f 1), .int .i64 (f 2), .int .i64 (f 3), .int .i64 (f 4), .int .i64 (f 5), .int .i64 (f 6), .int .i64 (f 7), .slice sa l.length sc] 35)) := (Off.refl _ w).alloc _
  have HST : Hid _ := S
  have hfew := S.few
  go_enter Try.func14, Try.ntmps14
  go_upto_region 1 with fail
  generalize hv : w.alloc (.cells #[.int .i64 (f 0), .int .i64 (f 1), .int .i64 (f 2), .int .i64 (f 3), .int .i64 (f 4), .int .i64 (f 5), .int .i64 (f 6), .int .i64 (f 7), .slice sa l.length sc] 35) = V at C O ⊢
  have HC : Hid _ := C
  have HO : Hid _ := O
  have HR : Hid _ := hr.off O
  clear hv C O hr S
  go_wp2_with fail
  refine (hfind_any D p xs node key V (HST.out.free HO.out)).mono ?_
  rintro e w2 ⟨n, rfl, hfn, o2⟩
  have HO2 : Hid _ := HO.out.trans o2 (fun _ _ h => h)
  have HC2 : Hid _ := HC.out.off o2 (fun h => h)
  have HR2 : Hid _ := HR.out.off o2
  have HFN : Hid _ := hfn
  clear o2 hfn HC HR HO
  obtain ⟨a, cap, hcp, how, hgd, hgt⟩ := (HST.out.free HO2.out).is
  have c0 : w2.cell? ⟨p, 0, none⟩ = some (.slice a xs.length cap) := hcp.cell 0
  have HCP : Hid _ := hcp
  have HOW2 : Hid _ := how
  have HGD : Hid _ := hgd
  have HGT : Hid _ := hgt
  clear hcp how hgd hgt
  cases hia : isAt xs (node, key) n
  · have HNF : Hid (fndG HK.nk (node, key) (absH xs) = none) := by show _ = none; rw [← absH_fnd, fnd_no HST.out.sor HFN.out hia]; rfl
    clear hia
    go_upto_region 4 with fail
    refine wp_region_held_drew (S := fun w' => Off (fun _ => False) w2 w') (by kernel_rfl) ((Off.refl _ w2).drew) (fun hS => ?_)
    refine take_at (i := 0) 20 (v := .bool false) rfl rfl (by kernel_rfl) (by kernel_rfl) (by kernel_rfl) (fun _ _ _ h => h) (Or.inl ⟨by rfl, fun w' hw' => by go_simp⟩) hS ?_
    simp only [Act.put, List.setIfInBounds_toArray, List.set_cons_zero, List.set_cons_succ]
    refine take_at (i := 1) 21 (v := .bool true) rfl rfl (by kernel_rfl) (by kernel_rfl) (by kernel_rfl) (fun _ _ _ h => h) (Or.inl ⟨by rfl, fun w' hw' => by go_simp⟩) hS ?_
    simp only [Act.put, List.setIfInBounds_toArray, List.set_cons_zero, List.set_cons_succ]
    refine take_at (i := 2) 22 (v := .bool true) rfl rfl (by kernel_rfl) (by kernel_rfl) (by kernel_rfl) (fun _ _ _ h => h) (Or.inl ⟨by rfl, fun w' hw' => by go_simp⟩) hS ?_
    simp only [Act.put, List.setIfInBounds_toArray, List.set_cons_zero, List.set_cons_succ]
    refine take_at (i := 3) 23 (v := undef) rfl rfl (by kernel_rfl) (by kernel_rfl) (by kernel_rfl) (fun _ _ _ h => h) (Or.inr ⟨by rfl, rfl⟩) hS ?_
    simp only [Act.put, List.setIfInBounds_toArray, List.set_cons_zero, List.set_cons_succ]
    refine take_at (i := 4) 24 (v := undef) rfl rfl (by kernel_rfl) (by kernel_rfl) (by kernel_rfl) (fun _ _ _ h => h) (Or.inr ⟨by rfl, rfl⟩) hS ?_
    simp only [Act.put, List.setIfInBounds_toArray, List.set_cons_zero, List.set_cons_succ]
    refine take_at (i := 5) 25 (v := undef) rfl rfl (by kernel_rfl) (by kernel_rfl) (by kernel_rfl) (fun _ _ _ h => h) (Or.inr ⟨by rfl, rfl⟩) hS ?_
    simp only [Act.put, List.setIfInBounds_toArray, List.set_cons_zero, List.set_cons_succ]
    refine take_at (i := 6) 26 (v := undef) rfl rfl (by kernel_rfl) (by kernel_rfl) (by kernel_rfl) (fun _ _ _ h => h) (Or.inr ⟨by rfl, rfl⟩) hS ?_
    simp only [Act.put, List.setIfInBounds_toArray, List.set_cons_zero, List.set_cons_succ]
    refine take_at (i := 7) 27 (v := undef) rfl rfl (by kernel_rfl) (by kernel_rfl) (by kernel_rfl) (fun _ _ _ h => h) (Or.inr ⟨by rfl, rfl⟩) hS ?_
    simp only [Act.put, List.setIfInBounds_toArray, List.set_cons_zero, List.set_cons_succ]
    refine take_at (i := 8) 28 (v := undef) rfl rfl (by kernel_rfl) (by kernel_rfl) (by kernel_rfl) (fun _ _ _ h => h) (Or.inr ⟨by rfl, rfl⟩) hS ?_
    simp only [Act.put, List.setIfInBounds_toArray, List.set_cons_zero, List.set_cons_succ]
    refine take_at (i := 9) 29 (v := undef) rfl rfl (by kernel_rfl) (by kernel_rfl) (by kernel_rfl) (fun _ _ _ h => h) (Or.inr ⟨by rfl, rfl⟩) hS ?_
    simp only [Act.put, List.setIfInBounds_toArray, List.set_cons_zero, List.set_cons_succ]
    refine take_at (i := 10) 30 (v := undef) rfl rfl (by kernel_rfl) (by kernel_rfl) (by kernel_rfl) (fun _ _ _ h => h) (Or.inr ⟨by rfl, rfl⟩) hS ?_
    simp only [Act.put, List.setIfInBounds_toArray, List.set_cons_zero, List.set_cons_succ]
    refine take_at (i := 11) 31 (v := undef) rfl rfl (by kernel_rfl) (by kernel_rfl) (by kernel_rfl) (fun _ _ _ h => h) (Or.inr ⟨by rfl, rfl⟩) hS ?_
    simp only [Act.put, List.setIfInBounds_toArray, List.set_cons_zero, List.set_cons_succ]
    refine take_at (i := 12) 32 (v := undef) rfl rfl (by kernel_rfl) (by kernel_rfl) (by kernel_rfl) (fun _ _ _ h => h) (Or.inr ⟨by rfl, rfl⟩) hS ?_
    simp only [Act.put, List.setIfInBounds_toArray, List.set_cons_zero, List.set_cons_succ]
    refine take_at (i := 13) 33 (v := undef) rfl rfl (by kernel_rfl) (by kernel_rfl) (by kernel_rfl) (fun _ _ _ h => h) (Or.inr ⟨by rfl, rfl⟩) hS ?_
    simp only [Act.put, List.setIfInBounds_toArray, List.set_cons_zero, List.set_cons_succ]
    refine take_at (i := 14) 34 (v := undef) rfl rfl (by kernel_rfl) (by kernel_rfl) (by kernel_rfl) (fun _ _ _ h => h) (Or.inr ⟨by rfl, rfl⟩) hS ?_
    simp only [Act.put, List.setIfInBounds_toArray, List.set_cons_zero, List.set_cons_succ]
    refine take_at (i := 15) 35 (v := .bool true) rfl rfl (by kernel_rfl) (by kernel_rfl) (by kernel_rfl) (fun _ _ _ h => h) (Or.inl ⟨by rfl, fun w' hw' => by go_simp⟩) hS ?_
    simp only [Act.put, List.setIfInBounds_toArray, List.set_cons_zero, List.set_cons_succ]
    refine wpAnyH_done (by kernel_rfl) ?_ _
    have HO3 : Hid _ := HO2.out.trans hS (fun _ _ h => h)
    clear hS
    go_wp2_with fail
    go_ret
    have hB : drpB (absH xs) (node, key) f (cont l) = false := by unfold drpB; rw [HNF.out]
    exact ⟨by rw [hB]; rfl, xs, HST.out.free HO3.out, by unfold drpT; rw [hB]; rfl, HO3.out.mono (fun _ _ h => h.elim)⟩
  · obtain ⟨x, hx, hxk, hfx⟩ := fnd_yes HST.out.sor hia
    have HFX : Hid (fndG HK.nk (node, key) (absH xs) = some x.abs) := by show _ = _; rw [← absH_fnd, hfx]; rfl
    have HX : Hid _ := hx
    have HXK : Hid _ := hxk
    have HRX : Hid _ := (HST.out.row x (List.mem_of_getElem? hx)).off HO2.out
    obtain ⟨hlt, -⟩ := List.getElem?_eq_some_iff.1 hx
    obtain ⟨g, rfl, hat⟩ := HOW2.out.atH hx
    have HAT : Hid _ := hat
    clear hx hxk hfx hat hia
    go_upto_region 4 with fail
    clear c0
    refine wp_region_held_drew (S := fun w' => Off (fun _ => False) w2 w') (by kernel_rfl) ((Off.refl _ w2).drew) (fun hS => ?_)
    refine take_at (i := 0) 20 (v := .bool true) rfl rfl (by kernel_rfl) (by kernel_rfl) (by kernel_rfl) (fun _ _ _ h => h) (Or.inl ⟨by rfl, fun w' hw' => by go_simp⟩) hS ?_
    simp only [Act.put, List.setIfInBounds_toArray, List.set_cons_zero, List.set_cons_succ]
    refine take_at (i := 1) 21 (v := .bool false) rfl rfl (by kernel_rfl) (by kernel_rfl) (by kernel_rfl) (fun _ _ _ h => h) (Or.inl ⟨by rfl, fun w' hw' => by go_simp⟩) hS ?_
    simp only [Act.put, List.setIfInBounds_toArray, List.set_cons_zero, List.set_cons_succ]
    refine take_at (i := 2) 22 (v := .bool false) rfl rfl (by kernel_rfl) (by kernel_rfl) (by kernel_rfl) (fun _ _ _ h => h) (Or.inl ⟨by rfl, fun w' hw' => by go_simp⟩) hS ?_
    simp only [Act.put, List.setIfInBounds_toArray, List.set_cons_zero, List.set_cons_succ]
    refine take_at (i := 3) 23 (v := .pointer (some ⟨p, 0, none⟩)) rfl rfl (by kernel_rfl) (by kernel_rfl) (by kernel_rfl) (fun _ _ _ h => h) (Or.inl ⟨by rfl, fun w' hw' => by go_simp⟩) hS ?_
    simp only [Act.put, List.setIfInBounds_toArray, List.set_cons_zero, List.set_cons_succ]
    refine take_at (i := 4) 24 (v := .pointer (some ⟨p, 0, none⟩)) rfl rfl (by kernel_rfl) (by kernel_rfl) (by kernel_rfl) (fun _ _ _ h => h) (Or.inl ⟨by rfl, fun w' hw' => by go_simp⟩) hS ?_
    simp only [Act.put, List.setIfInBounds_toArray, List.set_cons_zero, List.set_cons_succ]
    refine take_at (i := 5) 25 (v := .pointer (some ⟨p, 0, none⟩)) rfl rfl (by kernel_rfl) (by kernel_rfl) (by kernel_rfl) (fun _ _ _ h => h) (Or.inl ⟨by rfl, fun w' hw' => by go_simp⟩) hS ?_
    simp only [Act.put, List.setIfInBounds_toArray, List.set_cons_zero, List.set_cons_succ]
    refine take_at (i := 6) 26 (v := .slice (some ⟨g, 0, none⟩) xs.length cap) rfl rfl (by kernel_rfl) (by kernel_rfl) (by kernel_rfl) (fun _ _ _ h => h) (Or.inl ⟨by rfl, fun w' hw' => by have e := (HCP.out.off hw' (fun h => h)).cell 0; simp only [List.getElem?_toArray, List.getElem?_cons_zero] at e; go_simp⟩) hS ?_
    simp only [Act.put, List.setIfInBounds_toArray, List.set_cons_zero, List.set_cons_succ]
    refine take_at (i := 7) 27 (v := .int .i64 (n : Int)) rfl rfl (by kernel_rfl) (by kernel_rfl) (by kernel_rfl) (fun _ _ _ h => h) (Or.inl ⟨by rfl, fun w' hw' => by go_simp⟩) hS ?_
    simp only [Act.put, List.setIfInBounds_toArray, List.set_cons_zero, List.set_cons_succ]
    refine take_at (i := 8) 28 (v := .pointer (some ⟨g, n * 11, none⟩)) rfl rfl (by kernel_rfl) (by kernel_rfl) (by kernel_rfl) (fun _ _ _ h => h) (Or.inl ⟨by rfl, fun w' hw' => exec_idx10 rfl (idx_hin hlt cap g w')⟩) hS ?_
    simp only [Act.put, List.setIfInBounds_toArray, List.set_cons_zero, List.set_cons_succ]
    refine take_at (i := 9) 29 (v := .pointer (some ⟨g, n * 11 + 1, none⟩)) rfl rfl (by kernel_rfl) (by kernel_rfl) (by kernel_rfl) (fun _ _ _ h => h) (Or.inl ⟨by rfl, fun w' hw' => by go_simp⟩) hS ?_
    simp only [Act.put, List.setIfInBounds_toArray, List.set_cons_zero, List.set_cons_succ]
    refine take_at (i := 10) 30 (v := .pointer (some ⟨g, n * 11 + 2, none⟩)) rfl rfl (by kernel_rfl) (by kernel_rfl) (by kernel_rfl) (fun _ _ _ h => h) (Or.inl ⟨by rfl, fun w' hw' => by go_simp⟩) hS ?_
    simp only [Act.put, List.setIfInBounds_toArray, List.set_cons_zero, List.set_cons_succ]
    refine take_at (i := 11) 31 (v := .agg #[.int .i64 (x.e.f 0), .int .i64 (x.e.f 1), .int .i64 (x.e.f 2), .int .i64 (x.e.f 3), .int .i64 (x.e.f 4), .int .i64 (x.e.f 5), .int .i64 (x.e.f 6), .int .i64 (x.e.f 7), .slice x.e.a x.e.l.length x.e.cap]) rfl rfl (by kernel_rfl) (by kernel_rfl) (by kernel_rfl) (fun _ _ _ h => h) (Or.inl ⟨by rfl, fun w' hw' => by obtain ⟨x0, x1, x2, x3, x4, x5, x6, x7, x8, x9, x10⟩ := (HAT.out.off hw' (fun _ h => h)).cells; go_simp⟩) hS ?_
    simp only [Act.put, List.setIfInBounds_toArray, List.set_cons_zero, List.set_cons_succ]
    refine take_at (i := 12) 32 (v := .agg #[.int .i64 (f 0), .int .i64 (f 1), .int .i64 (f 2), .int .i64 (f 3), .int .i64 (f 4), .int .i64 (f 5), .int .i64 (f 6), .int .i64 (f 7), .slice sa l.length sc]) rfl rfl (by kernel_rfl) (by kernel_rfl) (by kernel_rfl) (fun _ _ _ h => h) (Or.inl ⟨by rfl, fun w' hw' => by obtain ⟨x0, x1, x2, x3, x4, x5, x6, x7, x8⟩ := cel9 (HC2.out.off hw' (fun h => h)); go_simp⟩) hS ?_
    simp only [Act.put, List.setIfInBounds_toArray, List.set_cons_zero, List.set_cons_succ]
    refine wpAnyH_ready (rs := [13]) (by kernel_rfl) (by simp) ?_
    refine AllReadyH.cons rfl (fun K' hK' => ?_) AllReadyH.nil
    go_simp
    refine (sleq_any x.e.f f x.e.a sa x.e.cap sc x.e.l l _ (HRX.out.off hS) (HR2.out.off hS)).mono ?_
    have HLQ : Hid (drpB (absH xs) (node, key) f (cont l) = leqS x.e.f f (cont x.e.l) (cont l)) := by show _ = _; unfold drpB; rw [HFX.out]; rfl
    generalize leqS x.e.f f (cont x.e.l) (cont l) = lq at HLQ
    rintro e v3 ⟨rfl, o3⟩
    refine hK'.out _ _ (hS.trans o3 (fun _ _ h => h)) (fun hS => ?_)
    clear hK' K'
    refine take_at (i := 14) 34 (v := .bool (!lq)) rfl rfl (by kernel_rfl) (by kernel_rfl) (by kernel_rfl) (fun _ _ _ h => h) (Or.inl ⟨by rfl, fun w' hw' => by go_simp⟩) hS ?_
    simp only [Act.put, List.setIfInBounds_toArray, List.set_cons_zero, List.set_cons_succ]
    refine take_at (i := 15) 35 (v := .bool (!lq)) rfl rfl (by kernel_rfl) (by kernel_rfl) (by kernel_rfl) (fun _ _ _ h => h) (Or.inl ⟨by rfl, fun w' hw' => by go_simp⟩) hS ?_
    simp only [Act.put, List.setIfInBounds_toArray, List.set_cons_zero, List.set_cons_succ]
    refine wpAnyH_done (by kernel_rfl) ?_ _
    have HP3 : Hid (Off (fun _ => False) w2 v3) := hS
    clear hS o3
    have HO3 : Hid _ := HO2.out.trans HP3.out (fun _ _ h => h)
    cases lq
    · go_wp2_with fail
      go_ret
      exact ⟨by rw [HLQ.out]; rfl, xs, HST.out.free HO3.out, by unfold drpT; rw [HLQ.out]; rfl, HO3.out.mono (fun _ _ h => h.elim)⟩
    · have c0 : v3.cell? ⟨p, 0, none⟩ = some (.slice (some ⟨g, 0, none⟩) xs.length cap) := (HCP.out.off HP3.out (fun h => h)).cell 0
      have b1 : (n : Int) + 1 ≤ 65 := by omega
      go_wp2_with fail
      clear c0
      refine (hdel_any (some ⟨g, 0, none⟩) cap xs n v3 (HOW2.out.off HP3.out (fun _ _ _ h => h)) hlt (by omega) _ rfl).mono ?_
      rintro e v4 ⟨m, rfl, hm, own4, o4⟩
      have HM4 : Hid _ := hm
      have HOWN : Hid _ := own4
      have HO4 : Hid (Off (fun c => c = g) v3 v4) := o4.mono (fun i _ e => by simp [blk] at e; exact e.symm)
      clear hm own4 o4
      have hcp4 : Cel p 63 #[.slice (some ⟨g, 0, none⟩) xs.length cap] v4 := (HCP.out.off HP3.out (fun h => h)).off HO4.out (fun e => (HGD.out g rfl).2 e.symm)
      have c0 : v4.cell? ⟨p, 0, none⟩ = some (.slice (some ⟨g, 0, none⟩) xs.length cap) := hcp4.cell 0
      have fr := hcp4.free
      have HCP4 : Hid _ := hcp4.set 0 (.slice (some ⟨g, 0, none⟩) m cap)
      clear hcp4
      go_wp2_with fail
      go_ret
      have hdl : xs.take n ++ xs.drop (n + 1) = delG H.nk x.nk xs := erase_del H.nk HST.out.sor HX.out
      rw [hdl] at HM4 HOWN
      have OP : Off (fun c => c = p) v4 (v4.setCell ⟨p, 0, none⟩ (.slice (some ⟨g, 0, none⟩) m cap)) := (Off.refl (fun c => c = p) v4).setCell (p := ⟨p, 0, none⟩) (.inl rfl) _
      have hgd := HGD.out g rfl
      have OD : Off D w (v4.setCell ⟨p, 0, none⟩ (.slice (some ⟨g, 0, none⟩) m cap)) := ((HO3.out.mono (fun _ _ h => h.elim)).trans HO4.out (fun i _ e => by rw [e]; exact hgd.1)).trans OP (fun i _ e => by rw [e]; exact HST.out.dp)
      have hab : absH (delG H.nk x.nk xs) = delG HK.nk (node, key) (absH xs) := by rw [absH_del, HXK.out]
      have memX : ∀ z ∈ delG H.nk x.nk xs, z ∈ xs := fun z hz => ((mem_delG H.nk).1 hz).1
      refine ⟨by rw [HLQ.out]; rfl, delG H.nk x.nk xs, ⟨HST.out.dp, fun c hc => Nat.lt_of_lt_of_le (HST.out.dlt c hc) OD.size, ⟨some ⟨g, 0, none⟩, cap, by rw [← HM4.out]; exact HCP4.out, HOWN.out.off OP (fun c _ hc e => by simp [blk] at hc; exact hgd.2 (hc.trans e)), fun c hc => HGD.out c hc, fun z hz => HGT.out z (memX z hz)⟩, fun z hz => ?_, fun z hz => HST.out.ter z (memX z hz), ?_⟩, ?_, OD⟩
      · exact (((HST.out.row z (memX z hz)).off HO3.out).offT (HGT.out z (memX z hz)) HO4.out (fun c _ hd e => hd (by rw [e]; rfl))).offT (HST.out.ter z (memX z hz)) OP (fun c _ hd e => hd.2 e)
      · rw [hab]
        exact HST.out.ok.del _
      · rw [hab]
        unfold drpT
        rw [HLQ.out]
        rfl
end Go.Proofs.Ytfhacfedklaaiaa

/- All, First, For of a set. -/
namespace Go.Proofs.Ytfhacfedklaaiaa
open Go.RowKit

theorem hns_one {w : World} {b : Nat} {y : H} (h : Cel b 39 #[.int .i64 y.node, .string y.e.key, .int .i64 (y.e.f 0), .int .i64 (y.e.f 1), .int .i64 (y.e.f 2), .int .i64 (y.e.f 3), .int .i64 (y.e.f 4), .int .i64 (y.e.f 5), .int .i64 (y.e.f 6), .int .i64 (y.e.f 7), .slice y.e.a y.e.l.length y.e.cap] w) : Hns w (some ⟨b, 0, none⟩) 1 [y] := ⟨by simp, by omega, fun j v hj => by
    match j, hj with
    | 0, hj =>
      simp at hj
      subst hj
      exact ⟨b, 0, rfl, ⟨fun r x hr => by simp only [Nat.zero_mul, Nat.zero_add]; rw [h.cell, ← hr, List.getElem?_toArray]; rfl⟩⟩⟩
theorem absH_snoc (es : List H) (x : H) : absH (es ++ [x]) = absH es ++ [x.abs] := by simp [absH]
theorem absH_take_succ {xs : List H} {n : Nat} {x : H} (hx : xs[n]? = some x) : absH (xs.take (n + 1)) = absH (xs.take n) ++ [x.abs] := by
  rw [List.take_add_one, hx]
  simp [absH]
set_option maxRecDepth 100000 in
set_option maxHeartbeats 2000000 in
theorem hall_any (D : Nat → Prop) (p : Nat) (xs : List H) (w : World) (S : HSt D p xs w) :
    Calls Try.prog 18 #[.pointer (some ⟨p, 0, none⟩)] w fun e w' => ∃ (a : Option Addr) (c : Nat) (ys : List H), e = .returned (.slice a ys.length c) ∧ absH ys = absH xs ∧ OwnG 39 11 hcs w' a c ys ∧ (∀ y ∈ ys, Row w' y.e.a y.e.cap y.e.l) ∧ (∀ y ∈ ys, Ter (fun c => w.heap.size ≤ c) y.e.a y.e.l) ∧ (∀ c, blk a = some c → w.heap.size ≤ c) ∧ Off (fun _ => False) w w' := by
  have hq := eql_set
  have HST : Hid _ := S
  have hfew := S.few
  obtain ⟨a, cap, hcp, how, -, -⟩ := S.is
  have c0 : w.cell? ⟨p, 0, none⟩ = some (.slice a xs.length cap) := hcp.cell 0
  have HOW : Hid _ := how
  clear hcp how S
  go_enter Try.func18, Try.ntmps18
  go_wp2_with fail
  clear c0
  go_loopw [3, 13] (fun y z wr => ∃ (n : Nat) (to : Option Addr) (co : Nat) (ys : List H), y = .slice to ys.length co ∧ z = .int .i64 (n : Int) ∧ n ≤ xs.length ∧ absH ys = absH (xs.take n) ∧ OwnG 39 11 hcs wr to co ys ∧ (∀ z ∈ ys, Row wr z.e.a z.e.cap z.e.l) ∧ (∀ z ∈ ys, Ter (fun c => w.heap.size ≤ c) z.e.a z.e.l) ∧ (∀ z ∈ ys, Ter (fun c => blk to ≠ some c) z.e.a z.e.l) ∧ (∀ c, blk to = some c → w.heap.size ≤ c) ∧ Off (fun _ => False) w wr) (fun _ z _ => (xs.length - intOf z).toNat)
  case atStart => exact ⟨0, none, 0, [], rfl, rfl, by omega, rfl, OwnG.nil _ _ _ _, fun z hz => by simp at hz, fun z hz => by simp at hz, fun z hz => by simp at hz, fun c hc => by simp [blk] at hc, Off.refl _ w⟩
  case round =>
    obtain ⟨n, to, co, ys, rfl, rfl, hn, hys, hog, hrw, htr, hap, hnw, O⟩ := hrel
    have HYS : Hid _ := hys
    have HYL : Hid (ys.length ≤ 64) := by have := congrArg List.length hys; rw [absH_len, absH_len, List.length_take] at this; show _ ≤ _; omega
    have HOG : Hid _ := hog
    have HRW : Hid _ := hrw
    have HTR : Hid _ := htr
    have HAP : Hid _ := hap
    have HNW : Hid _ := hnw
    have HO : Hid _ := O
    clear hys hog hrw htr hap hnw O
    by_cases hlt : n < xs.length
    · have e1 : decide ((n : Int) < (xs.length : Int)) = true := decide_eq_true (by omega)
      have e2 : decide (n < xs.length) = true := decide_eq_true hlt
      obtain ⟨x, hx⟩ : ∃ x, xs[n]? = some x := ⟨_, List.getElem?_eq_getElem hlt⟩
      have hxm := List.mem_of_getElem? hx
      obtain ⟨g, rfl, hat⟩ := (HOW.out.off HO.out (fun _ _ _ h => h)).atH hx
      obtain ⟨k0, k1, k2, k3, k4, k5, k6, k7, k8, k9, k10⟩ := hat.cells
      have hix := idx_hin hlt
      have HRX : Hid _ := (HST.out.row x hxm).off HO.out
      have HXL : Hid (x.e.l.length ≤ 1000) := by have := HST.out.ok.len16 x hxm; show _ ≤ _; omega
      clear hat hxm
      go_upto_region 7 with fail
      have Cq5 := Cel.new wr 39 #[.int .i64 x.node, .string x.e.key, .int .i64 (x.e.f 0), .int .i64 (x.e.f 1), .int .i64 (x.e.f 2), .int .i64 (x.e.f 3), .int .i64 (x.e.f 4), .int .i64 (x.e.f 5), .int .i64 (x.e.f 6), .int .i64 (x.e.f 7), .slice x.e.a x.e.l.length x.e.cap]
      have OA : Off (fun _ => False) wr (wr.alloc (.cells #[.int .i64 x.node, .string x.e.key, .int .i64 (x.e.f 0), .int .i64 (x.e.f 1), .int .i64 (x.e.f 2), .int .i64 (x.e.f 3), .int .i64 (x.e.f 4), .int .i64 (x.e.f 5), .int .i64 (x.e.f 6), .int .i64 (x.e.f 7), .slice x.e.a x.e.l.length x.e.cap] 39)) := (Off.refl _ wr).alloc _
      generalize hq : wr.heap.size = q5 at Cq5 ⊢
      generalize hv : wr.alloc (.cells #[.int .i64 x.node, .string x.e.key, .int .i64 (x.e.f 0), .int .i64 (x.e.f 1), .int .i64 (x.e.f 2), .int .i64 (x.e.f 3), .int .i64 (x.e.f 4), .int .i64 (x.e.f 5), .int .i64 (x.e.f 6), .int .i64 (x.e.f 7), .slice x.e.a x.e.l.length x.e.cap] 39) = V5 at Cq5 OA ⊢
      clear hq hv
      clear k0 k1 k2 k3 k4 k5 k6 k7 k8 k9 k10 hix
      obtain ⟨x0, x1, x2, x3, x4, x5, x6, x7, x8, x9, x10⟩ := cel11 Cq5
      have HO5 : Hid _ := HO.out.trans OA (fun _ _ h => h)
      have HR5 : Hid _ := HRX.out.off OA
      have HOA : Hid _ := OA
      clear OA Cq5
      go_wp2_with fail
      clear x0 x1 x2 x3 x4 x5 x6 x7 x8 x9 x10
      refine (chint_any x V5 HR5.out HXL.out).mono ?_
      rintro e v6 ⟨y, rfl, hy, ry, ty, o6⟩
      have CB := Cel.new v6 39 #[.int .i64 y.node, .string y.e.key, .int .i64 (y.e.f 0), .int .i64 (y.e.f 1), .int .i64 (y.e.f 2), .int .i64 (y.e.f 3), .int .i64 (y.e.f 4), .int .i64 (y.e.f 5), .int .i64 (y.e.f 6), .int .i64 (y.e.f 7), .slice y.e.a y.e.l.length y.e.cap]
      have OB : Off (fun _ => False) v6 (v6.alloc (.cells #[.int .i64 y.node, .string y.e.key, .int .i64 (y.e.f 0), .int .i64 (y.e.f 1), .int .i64 (y.e.f 2), .int .i64 (y.e.f 3), .int .i64 (y.e.f 4), .int .i64 (y.e.f 5), .int .i64 (y.e.f 6), .int .i64 (y.e.f 7), .slice y.e.a y.e.l.length y.e.cap] 39)) := (Off.refl _ v6).alloc _
      have hB : Hns (v6.alloc (.cells #[.int .i64 y.node, .string y.e.key, .int .i64 (y.e.f 0), .int .i64 (y.e.f 1), .int .i64 (y.e.f 2), .int .i64 (y.e.f 3), .int .i64 (y.e.f 4), .int .i64 (y.e.f 5), .int .i64 (y.e.f 6), .int .i64 (y.e.f 7), .slice y.e.a y.e.l.length y.e.cap] 39)) (some ⟨v6.heap.size, 0, none⟩) 1 [y] := hns_one CB
      have O6 := (HOA.out.trans o6 (fun _ _ h => h)).trans OB (fun _ _ h => h)
      have own6 := HOG.out.off O6 (fun _ _ _ h => h)
      have HY : Hid _ := hy
      have HRY : Hid _ := ry.off OB
      have HTY : Hid _ := ty
      have HO6 : Hid _ := O6
      have HYV : Hid (v6.heap.size < (v6.alloc (.cells #[.int .i64 y.node, .string y.e.key, .int .i64 (y.e.f 0), .int .i64 (y.e.f 1), .int .i64 (y.e.f 2), .int .i64 (y.e.f 3), .int .i64 (y.e.f 4), .int .i64 (y.e.f 5), .int .i64 (y.e.f 6), .int .i64 (y.e.f 7), .slice y.e.a y.e.l.length y.e.cap] 39)).heap.size) := CB.lt
      have HV6 : Hid (V5.heap.size ≤ v6.heap.size ∧ wr.heap.size ≤ V5.heap.size) := ⟨o6.size, HOA.out.size⟩
      have HRB : Hid _ := ry.below
      have hyl := HYL.out
      clear hy ry ty o6 OB O6 CB
      go_wp2_with (at_builtin; refine wpList_appH rfl (.tmp 17) (.tmp 20) rfl to co ys rfl own6 _ 1 [y] rfl hB (fun h => by cases h) (by simp; omega) ?_; intro t' c' w7 zs hzs own' off' at')
      have hzs' := hzs.out
      generalize hv6 : v6.alloc (.cells #[.int .i64 y.node, .string y.e.key, .int .i64 (y.e.f 0), .int .i64 (y.e.f 1), .int .i64 (y.e.f 2), .int .i64 (y.e.f 3), .int .i64 (y.e.f 4), .int .i64 (y.e.f 5), .int .i64 (y.e.f 6), .int .i64 (y.e.f 7), .slice y.e.a y.e.l.length y.e.cap] 39) = v7 at HRY HO6 HYV hB own6 off' at'
      have hsz := HO6.out.size
      have rows : ∀ z ∈ zs, Row w7 z.e.a z.e.cap z.e.l := fun z hz => by
          rw [hzs', List.mem_append] at hz
          rcases hz with hz | hz
          · exact ((HRW.out z hz).off HO6.out).offT (HAP.out z hz) off' (fun c _ hd e => hd e)
          · simp at hz
            subst hz
            refine HRY.out.offT HTY.out off' (fun c hc hd e => ?_)
            have := HOG.out.lt c e
            have := HV6.out
            omega
      have HLT : Hid (∀ c, blk to = some c → c < wr.heap.size) := fun c e => HOG.out.lt c e
      go_roundw
      case rel =>
        refine ⟨n + 1, t', c', zs, rfl, by go_num, by omega, ?_, own', rows, fun z hz => ?_, fun z hz => ?_, fun c hc => ?_, (HO.out.trans HO6.out (fun _ _ h => h)).trans off' (fun i hi e => ?_)⟩
        · rw [hzs', absH_snoc, HYS.out, HY.out, ← absH_take_succ hx]
        · rw [hzs', List.mem_append] at hz
          rcases hz with hz | hz
          · exact HTR.out z hz
          · simp at hz
            subst hz
            exact HTY.out.mono (fun c hc => by have := HV6.out; have := HO.out.size; omega)
        · rw [hzs', List.mem_append] at hz
          rcases hz with hz | hz
          · refine ((HAP.out z hz).and (HRW.out z hz).below).mono (fun c hc e => ?_)
            rcases at' with k | k
            · rw [k] at e
              exact hc.1 e
            · rw [k] at e
              simp at e
              have := HV6.out
              omega
          · simp at hz
            subst hz
            refine (HTY.out.and HRB.out).mono (fun c hc e => ?_)
            have := HV6.out
            rcases at' with k | k
            · rw [k] at e
              have := HLT.out c e
              omega
            · rw [k] at e
              simp at e
              have := HYV.out
              omega
        · rcases at' with k | k
          · rw [k] at hc
            exact HNW.out c hc
          · rw [k] at hc
            simp at hc
            have := HO.out.size
            omega
        · have := HNW.out i e
          omega
      case measure => simp [intOf]; omega
    · obtain rfl : n = xs.length := by omega
      have e1 : decide ((xs.length : Int) < (xs.length : Int)) = false := decide_eq_false (by omega)
      have e2 : decide (xs.length < xs.length) = false := decide_eq_false (by omega)
      go_wp2_with fail
      go_ret
      refine ⟨to, co, ys, rfl, ?_, HOG.out, HRW.out, HTR.out, HNW.out, HO.out⟩
      rw [HYS.out, List.take_length]
end Go.Proofs.Ytfhacfedklaaiaa

/- First, For of a set. -/
namespace Go.Proofs.Ytfhacfedklaaiaa
open Go.RowKit

theorem results_hint2 {fn : Func} {p u : Tmp} (h : fn.results = #[.cell p 39, .tmp u]) {tmps : Array Value} {w : World} {b : Nat} {x : H} (hp : tmps.getD p undef = .pointer (some ⟨b, 0, none⟩)) {v : Value} (hu : tmps.getD u undef = v) (hc : Cel b 39 #[.int .i64 x.node, .string x.e.key, .int .i64 (x.e.f 0), .int .i64 (x.e.f 1), .int .i64 (x.e.f 2), .int .i64 (x.e.f 3), .int .i64 (x.e.f 4), .int .i64 (x.e.f 5), .int .i64 (x.e.f 6), .int .i64 (x.e.f 7), .slice x.e.a x.e.l.length x.e.cap] w) :
    (results fn tmps).run Try.prog w = .ok (.tuple #[(.agg #[.int .i64 x.node, .string x.e.key, .int .i64 (x.e.f 0), .int .i64 (x.e.f 1), .int .i64 (x.e.f 2), .int .i64 (x.e.f 3), .int .i64 (x.e.f 4), .int .i64 (x.e.f 5), .int .i64 (x.e.f 6), .int .i64 (x.e.f 7), .slice x.e.a x.e.l.length x.e.cap]), v]) w := by
  rw [results_cell_tmp h]
  have ha : (asAddr (.pointer (some ⟨b, 0, none⟩))).run Try.prog w = .ok ⟨b, 0, none⟩ w := rfl
  rw [hp, hu, ha]
  obtain ⟨d, hd⟩ : ∃ d, Try.prog.underlying 39 = some (.struct d) := ⟨_, Try.underlying39⟩
  have hv := run_loadVar_row (P := Try.prog) w b 39 39 _ (0, 0) (.struct d) hc.is hd rfl (by kernel_rfl)
  simp only [Result.andThen, hv]
def zHt : H := ⟨0, ⟨⟨#[]⟩, zer, none, 0, []⟩⟩
set_option maxRecDepth 100000 in
set_option maxHeartbeats 2000000 in
/-- First, there being one. -/
theorem hfirst_any (D : Nat → Prop) (p : Nat) (x : H) (xs : List H) (w : World) (S : HSt D p (x :: xs) w) :
    Calls Try.prog 16 #[.pointer (some ⟨p, 0, none⟩)] w fun e w' => ∃ y : H, e = .returned (.tuple #[(.agg #[.int .i64 y.node, .string y.e.key, .int .i64 (y.e.f 0), .int .i64 (y.e.f 1), .int .i64 (y.e.f 2), .int .i64 (y.e.f 3), .int .i64 (y.e.f 4), .int .i64 (y.e.f 5), .int .i64 (y.e.f 6), .int .i64 (y.e.f 7), .slice y.e.a y.e.l.length y.e.cap]), .bool true]) ∧ y.abs = x.abs ∧ Row w' y.e.a y.e.cap y.e.l ∧ Ter (fun c => w.heap.size ≤ c) y.e.a y.e.l ∧ Off (fun _ => False) w w' := by
  have C := Cel.new w 39 #[.int .i64 0, .string ⟨#[]⟩, .int .i64 0, .int .i64 0, .int .i64 0, .int .i64 0, .int .i64 0, .int .i64 0, .int .i64 0, .int .i64 0, .slice none 0 0]
  have O : Off (fun _ => False) w (w.alloc (.cells #[.int .i64 0, .string ⟨#[]⟩, .int .i64 0, .int .i64 0, .int .i64 0, .int .i64 0, .int .i64 0, .int .i64 0, .int .i64 0, .int .i64 0, .slice none 0 0] 39)) := (Off.refl _ w).alloc _
  have HST : Hid _ := S
  have HXL : Hid (x.e.l.length ≤ 1000) := by have := S.ok.len16 x (List.mem_cons_self ..); show _ ≤ _; omega
  go_enter Try.func16, Try.ntmps16
  go_upto_region 1 with fail
  generalize hv : w.alloc (.cells #[.int .i64 0, .string ⟨#[]⟩, .int .i64 0, .int .i64 0, .int .i64 0, .int .i64 0, .int .i64 0, .int .i64 0, .int .i64 0, .int .i64 0, .slice none 0 0] 39) = V at C O ⊢
  have HC : Hid _ := C
  have HO : Hid _ := O
  have HRX : Hid _ := (S.row x (List.mem_cons_self ..)).off O
  clear hv C O S
  go_wp2_with fail
  refine (hlen_any D p (x :: xs) V (HST.out.free HO.out)).mono ?_
  rintro e w' ⟨rfl, hw⟩
  rw [hw]
  clear hw w'
  obtain ⟨a, cap, hcp, how, -, -⟩ := (HST.out.free HO.out).is
  have c0 : V.cell? ⟨p, 0, none⟩ = some (.slice a (x :: xs).length cap) := hcp.cell 0
  obtain ⟨g, rfl, hat⟩ := how.atH (i := 0) (x := x) rfl
  obtain ⟨x0, x1, x2, x3, x4, x5, x6, x7, x8, x9, x10⟩ := hat.cells
  simp only [Nat.zero_mul, Nat.zero_add] at x0 x1 x2 x3 x4 x5 x6 x7 x8 x9 x10
  have d1 : (((x :: xs).length : Int) == 0) = false := by rw [beq_eq_false_iff_ne]; simp; omega
  have hl : 0 < (x :: xs).length := by simp
  have hix := fun c => idx_hin hl c g
  simp only [Nat.zero_mul] at hix
  generalize hll : (x :: xs).length = n at c0 d1 hl hix ⊢
  clear hll hcp how hat
  go_wp2_with fail
  clear x0 x1 x2 x3 x4 x5 x6 x7 x8 x9 x10 hix c0
  refine (chint_any x V HRX.out HXL.out).mono ?_
  rintro e w1 ⟨y, rfl, hy, ry, ty, o1⟩
  have D1 := HC.out.off o1 (fun h => h)
  obtain ⟨z0, z1, z2, z3, z4, z5, z6, z7, z8, z9, z10⟩ := cel11 D1
  have fr := D1.free
  have HD : Hid _ := D1
  have HN : Hid (w.heap.size < V.heap.size) := HC.out.lt
  have HY : Hid _ := hy
  have HRY : Hid _ := ry
  have HTY : Hid _ := ty
  have HO1 : Hid _ := HO.out.trans o1 (fun _ _ h => h)
  clear D1 hy ry ty o1
  go_wp2_with fail
  refine bodyPost_ret (results_hint2 (x := y) rfl rfl rfl (HD.out.st11 y)) rfl ?_
  have OZ := (Off.refl (fun c => c = w.heap.size) w1).st11 (b := w.heap.size) (.inl rfl) y
  have hN := HN.out
  exact ⟨y, rfl, HY.out, HRY.out.offT HTY.out OZ (fun c hc hd e => by omega), HTY.out.mono (fun c hc => by omega), HO1.out.trans OZ (fun i hi e => by omega)⟩
set_option maxRecDepth 100000 in
set_option maxHeartbeats 2000000 in
/-- First of none. -/
theorem hfirst_none (D : Nat → Prop) (p : Nat) (w : World) (S : HSt D p [] w) :
    Calls Try.prog 16 #[.pointer (some ⟨p, 0, none⟩)] w fun e w' => e = .returned (.tuple #[(.agg #[.int .i64 zHt.node, .string zHt.e.key, .int .i64 (zHt.e.f 0), .int .i64 (zHt.e.f 1), .int .i64 (zHt.e.f 2), .int .i64 (zHt.e.f 3), .int .i64 (zHt.e.f 4), .int .i64 (zHt.e.f 5), .int .i64 (zHt.e.f 6), .int .i64 (zHt.e.f 7), .slice zHt.e.a zHt.e.l.length zHt.e.cap]), .bool false]) ∧ Off (fun _ => False) w w' := by
  have C := Cel.new w 39 #[.int .i64 0, .string ⟨#[]⟩, .int .i64 0, .int .i64 0, .int .i64 0, .int .i64 0, .int .i64 0, .int .i64 0, .int .i64 0, .int .i64 0, .slice none 0 0]
  have O : Off (fun _ => False) w (w.alloc (.cells #[.int .i64 0, .string ⟨#[]⟩, .int .i64 0, .int .i64 0, .int .i64 0, .int .i64 0, .int .i64 0, .int .i64 0, .int .i64 0, .int .i64 0, .slice none 0 0] 39)) := (Off.refl _ w).alloc _
  have HST : Hid _ := S
  go_enter Try.func16, Try.ntmps16
  go_upto_region 1 with fail
  generalize hv : w.alloc (.cells #[.int .i64 0, .string ⟨#[]⟩, .int .i64 0, .int .i64 0, .int .i64 0, .int .i64 0, .int .i64 0, .int .i64 0, .int .i64 0, .int .i64 0, .slice none 0 0] 39) = V at C O ⊢
  obtain ⟨z0, z1, z2, z3, z4, z5, z6, z7, z8, z9, z10⟩ := cel11 C
  have fr := C.free
  have HC : Hid _ := C
  have HO : Hid _ := O
  clear hv C O S
  go_wp2_with fail
  refine (hlen_any D p [] V (HST.out.free HO.out)).mono ?_
  rintro e w' ⟨rfl, hw⟩
  rw [hw]
  clear hw w'
  go_wp2_with fail
  refine bodyPost_ret (results_hint2 (x := zHt) rfl rfl rfl (HC.out.st11 zHt)) rfl ?_
  exact ⟨rfl, HO.out.st11 (b := w.heap.size) (.inr (Nat.le_refl _)) zHt⟩
theorem ent_one {w : World} {b : Nat} {y : E} (h : Cel b 37 #[.string y.key, .int .i64 (y.f 0), .int .i64 (y.f 1), .int .i64 (y.f 2), .int .i64 (y.f 3), .int .i64 (y.f 4), .int .i64 (y.f 5), .int .i64 (y.f 6), .int .i64 (y.f 7), .slice y.a y.l.length y.cap] w) : Ent w (some ⟨b, 0, none⟩) 1 [y] := ⟨by simp, by omega, fun j v hj => by
    match j, hj with
    | 0, hj =>
      simp at hj
      subst hj
      exact ⟨b, 0, rfl, fun r x hr => by simp only [Nat.zero_mul, Nat.zero_add]; rw [h.cell, ← hr, List.getElem?_toArray]; rfl⟩⟩
theorem HP_snoc (es : List E) (x : E) : absE (es ++ [x]) = absE es ++ [x.abs] := by simp [absE]
/-- The entries of a piece of a row of hints. -/
def segE (xs : List H) (n m : Nat) : List K := ((xs.drop n).take m).map fun h => h.e.abs
theorem seg_succ {xs : List H} {n m : Nat} {x : H} (hx : xs[n + m]? = some x) : segE xs n (m + 1) = segE xs n m ++ [x.e.abs] := by
  unfold segE
  rw [List.take_add_one, List.getElem?_drop, hx]
  simp
/-- What is kept for a node. -/
def forK (X : List HK) (node : Int) : List K := (X.filter fun h => decide (h.node = node)).map HK.k
theorem for_seg {xs : List H} (hs : Sor H.nk xs) {node : Int} {n m : Nat} (hf : Fnd xs (node, ⟨#[]⟩) n) (hd : ∀ i z, n ≤ i → i < n + m → xs[i]? = some z → z.node = node) (he : ∀ z, xs[n + m]? = some z → z.node ≠ node) : segE xs n m = forK (absH xs) node := by
  have h1 : ∀ z ∈ xs.take n, (decide (z.node = node)) = false := fun z hz => by
    obtain ⟨i, hi⟩ := List.getElem?_of_mem hz
    obtain ⟨hl, -⟩ := List.getElem?_eq_some_iff.1 hi
    rw [List.length_take] at hl
    rw [List.getElem?_take_of_lt (by omega)] at hi
    have := hf.lo i z (by omega) hi
    rw [plt_iff] at this
    rcases this with h | ⟨-, h⟩
    · have h : z.node < node := h
      exact decide_eq_false (by omega)
    · have e : blt z.e.key ⟨#[]⟩ = false := by
        unfold blt
        show bytesBefore _ [] = false
        cases kb z.e.key <;> rfl
      have h : blt z.e.key ⟨#[]⟩ = true := h
      rw [e] at h
      cases h
  have h2 : ∀ z ∈ (xs.drop n).take m, decide (z.node = node) = true := fun z hz => by
    obtain ⟨i, hi⟩ := List.getElem?_of_mem hz
    obtain ⟨hl, -⟩ := List.getElem?_eq_some_iff.1 hi
    rw [List.length_take] at hl
    rw [List.getElem?_take_of_lt (by omega), List.getElem?_drop] at hi
    exact decide_eq_true (hd (n + i) z (by omega) (by omega) hi)
  have h3 : ∀ z ∈ (xs.drop n).drop m, decide (z.node = node) = false := fun z hz => by
    obtain ⟨i, hi⟩ := List.getElem?_of_mem hz
    rw [List.getElem?_drop, List.getElem?_drop] at hi
    obtain ⟨hl, ez⟩ := List.getElem?_eq_some_iff.1 hi
    have hy : xs[n + m]? = some (xs[n + m]'(by omega)) := List.getElem?_eq_getElem _
    have g1 := hf.hi (n + m) _ (by omega) hy
    have g2 := he _ hy
    have g3 : node < (xs[n + m]'(by omega)).node := by
      rw [← Bool.not_eq_true, plt_iff] at g1
      have : ¬ (xs[n + m]'(by omega)).node < node := fun h => g1 (.inl h)
      omega
    have g4 : (xs[n + m]'(by omega)).node ≤ z.node := by
      by_cases e : i = 0
      · subst e
        rw [← ez]
        exact Int.le_refl _
      · have := List.pairwise_iff_getElem.1 hs (n + m) (n + (m + i)) (by omega) hl (by omega)
        rw [ez, plt_iff] at this
        rcases this with h | ⟨h, -⟩
        · have h : (xs[n + m]'(by omega)).node < z.node := h
          omega
        · have h : (xs[n + m]'(by omega)).node = z.node := h
          omega
    exact decide_eq_false (by omega)
  have hsp : xs = xs.take n ++ ((xs.drop n).take m ++ (xs.drop n).drop m) := by rw [List.take_append_drop, List.take_append_drop]
  unfold forK segE absH
  rw [List.filter_map, List.map_map]
  have : xs.filter ((fun h : HK => decide (h.node = node)) ∘ H.abs) = (xs.drop n).take m := by
    conv => lhs; rw [hsp]
    rw [List.filter_append, List.filter_append]
    have f1 : (xs.take n).filter ((fun h : HK => decide (h.node = node)) ∘ H.abs) = [] := List.filter_eq_nil_iff.2 (fun z hz e => by rw [show ((fun h : HK => decide (h.node = node)) ∘ H.abs) z = decide (z.node = node) from rfl, h1 z hz] at e; cases e)
    have f2 : ((xs.drop n).take m).filter ((fun h : HK => decide (h.node = node)) ∘ H.abs) = (xs.drop n).take m := List.filter_eq_self.2 (fun z hz => h2 z hz)
    have f3 : ((xs.drop n).drop m).filter ((fun h : HK => decide (h.node = node)) ∘ H.abs) = [] := List.filter_eq_nil_iff.2 (fun z hz e => by rw [show ((fun h : HK => decide (h.node = node)) ∘ H.abs) z = decide (z.node = node) from rfl, h3 z hz] at e; cases e)
    rw [f1, f2, f3]
    simp
  rw [this]
  rfl
set_option maxRecDepth 100000 in
set_option maxHeartbeats 2000000 in
theorem hfor_any (D : Nat → Prop) (p : Nat) (xs : List H) (node : Int) (w : World) (S : HSt D p xs w) :
    Calls Try.prog 21 #[.pointer (some ⟨p, 0, none⟩), .int .i64 node] w fun e w' => ∃ (a : Option Addr) (c : Nat) (ys : List E), e = .returned (.slice a ys.length c) ∧ absE ys = forK (absH xs) node ∧ OwnG 37 10 ecs w' a c ys ∧ (∀ y ∈ ys, Row w' y.a y.cap y.l) ∧ (∀ y ∈ ys, Ter (fun c => w.heap.size ≤ c) y.a y.l) ∧ (∀ c, blk a = some c → w.heap.size ≤ c) ∧ Off (fun _ => False) w w' := by
  have hq := eql_set
  have HST : Hid _ := S
  have hfew := S.few
  clear S
  go_enter Try.func21, Try.ntmps21
  go_wp2_with fail
  refine (hfind_any D p xs node ⟨#[]⟩ w HST.out).mono ?_
  rintro e w2 ⟨n, rfl, hfn, o2⟩
  generalize isAt xs (node, ⟨#[]⟩) n = b
  have HO2 : Hid _ := o2
  have hnl := hfn.le
  have HFN : Hid _ := hfn
  obtain ⟨a, cap, hcp, how, -, -⟩ := HST.out.is
  have c0 : w2.cell? ⟨p, 0, none⟩ = some (.slice a xs.length cap) := (hcp.off o2 (fun h => h)).cell 0
  have hlc := how.hns.len
  have HOW : Hid _ := how
  clear hfn o2
  obtain ⟨k, hk⟩ : ∃ k, k = xs.length - n := ⟨_, rfl⟩
  have HK : Hid (n + k = xs.length) := by show _ = _; omega
  obtain ⟨a2, o, hsl, hso⟩ : ∃ a2 o, (∀ W, (Instr.slice 28 (.slice a xs.length cap) (some (.int .i64 (n : Int))) none none).run Try.prog W = .ok (.slice a2 k (cap - n)) W) ∧ ∀ g, a = some ⟨g, 0, none⟩ → 0 < k → a2 = some ⟨g, o, none⟩ ∧ o = n * 11 := by
    cases a with
    | none =>
      have h0 := how.nn rfl
      have h1 := how.zero rfl
      subst h1
      refine ⟨none, 0, fun W => ?_, fun g hg => by cases hg⟩
      rw [h0] at hnl hk ⊢
      simp at hnl
      subst hnl
      rw [hk]
      go_simp
    | some ad =>
      obtain ⟨g, cur, eg, -⟩ := how.cel (by simp)
      simp only [Option.some.injEq] at eg
      subst eg
      obtain ⟨o, h1, h2⟩ := sll g xs.length cap n (n : Int) rfl hnl
      rw [← hk] at h1
      exact ⟨some ⟨g, o, none⟩, o, h1, fun g' hg' hk0 => by simp at hg'; subst hg'; exact ⟨rfl, h2 (by omega)⟩⟩
  have HSO : Hid _ := hso
  clear hso hcp how hk
  go_wp2_with fail
  clear c0 hsl
  go_loopw [7, 25] (fun y z wr => ∃ (m : Nat) (to : Option Addr) (co : Nat) (ys : List E), y = .slice to ys.length co ∧ z = .int .i64 (m : Int) ∧ m ≤ k ∧ absE ys = segE xs n m ∧ (∀ i z, n ≤ i → i < n + m → xs[i]? = some z → z.node = node) ∧ OwnG 37 10 ecs wr to co ys ∧ (∀ z ∈ ys, Row wr z.a z.cap z.l) ∧ (∀ z ∈ ys, Ter (fun c => w.heap.size ≤ c) z.a z.l) ∧ (∀ z ∈ ys, Ter (fun c => blk to ≠ some c) z.a z.l) ∧ (∀ c, blk to = some c → w.heap.size ≤ c) ∧ Off (fun _ => False) w wr) (fun _ z _ => (k - intOf z).toNat)
  case atStart => exact ⟨0, none, 0, [], rfl, rfl, by omega, rfl, fun i z h1 h2 => by omega, OwnG.nil _ _ _ _, fun z hz => by simp at hz, fun z hz => by simp at hz, fun z hz => by simp at hz, fun c hc => by simp [blk] at hc, HO2.out⟩
  case round =>
    obtain ⟨m, to, co, ys, rfl, rfl, hm, hys, hnd, hog, hrw, htr, hap, hnw, O⟩ := hrel
    have HYS : Hid _ := hys
    have HYL : Hid (ys.length ≤ 64) := by have := congrArg List.length hys; simp [absE, segE] at this; show _ ≤ _; omega
    have HND : Hid _ := hnd
    have HOG : Hid _ := hog
    have HRW : Hid _ := hrw
    have HTR : Hid _ := htr
    have HAP : Hid _ := hap
    have HNW : Hid _ := hnw
    have HO : Hid _ := O
    clear hys hnd hog hrw htr hap hnw O
    by_cases hlt : m < k
    · have e1 : decide ((m : Int) < (k : Int)) = true := decide_eq_true (by omega)
      have e2 : decide (m < k) = true := decide_eq_true hlt
      have hlx : n + m < xs.length := by have := HK.out; omega
      obtain ⟨x, hx⟩ : ∃ x, xs[n + m]? = some x := ⟨_, List.getElem?_eq_getElem hlx⟩
      have hxm := List.mem_of_getElem? hx
      obtain ⟨g, eg, hat⟩ := (HOW.out.off HO.out (fun _ _ _ h => h)).atH hx
      have hat2 : AtH wr g (o + m * 11) x := by rw [(HSO.out g eg (by omega)).2, show n * 11 + m * 11 = (n + m) * 11 by omega]; exact hat
      have hao := (HSO.out g eg (by omega)).1
      subst hao
      obtain ⟨k0, k1, k2, k3, k4, k5, k6, k7, k8, k9, k10⟩ := hat2.cells
      have hix := idx_hins hlt
      have HRX : Hid _ := (HST.out.row x hxm).off HO.out
      have HXL : Hid (x.e.l.length ≤ 1000) := by have := HST.out.ok.len16 x hxm; show _ ≤ _; omega
      clear hat hat2 hxm eg
      go_upto_region 8 with fail
      have Cq5 := Cel.new wr 39 #[.int .i64 x.node, .string x.e.key, .int .i64 (x.e.f 0), .int .i64 (x.e.f 1), .int .i64 (x.e.f 2), .int .i64 (x.e.f 3), .int .i64 (x.e.f 4), .int .i64 (x.e.f 5), .int .i64 (x.e.f 6), .int .i64 (x.e.f 7), .slice x.e.a x.e.l.length x.e.cap]
      have OA : Off (fun _ => False) wr (wr.alloc (.cells #[.int .i64 x.node, .string x.e.key, .int .i64 (x.e.f 0), .int .i64 (x.e.f 1), .int .i64 (x.e.f 2), .int .i64 (x.e.f 3), .int .i64 (x.e.f 4), .int .i64 (x.e.f 5), .int .i64 (x.e.f 6), .int .i64 (x.e.f 7), .slice x.e.a x.e.l.length x.e.cap] 39)) := (Off.refl _ wr).alloc _
      generalize hq : wr.heap.size = q5 at Cq5 ⊢
      generalize hv : wr.alloc (.cells #[.int .i64 x.node, .string x.e.key, .int .i64 (x.e.f 0), .int .i64 (x.e.f 1), .int .i64 (x.e.f 2), .int .i64 (x.e.f 3), .int .i64 (x.e.f 4), .int .i64 (x.e.f 5), .int .i64 (x.e.f 6), .int .i64 (x.e.f 7), .slice x.e.a x.e.l.length x.e.cap] 39) = V5 at Cq5 OA ⊢
      clear hq hv
      clear k0 k1 k2 k3 k4 k5 k6 k7 k8 k9 k10 hix
      obtain ⟨x0, x1, x2, x3, x4, x5, x6, x7, x8, x9, x10⟩ := cel11 Cq5
      have HO5 : Hid _ := HO.out.trans OA (fun _ _ h => h)
      have HR5 : Hid _ := HRX.out.off OA
      have HOA : Hid _ := OA
      have HX : Hid _ := hx
      clear OA Cq5 hx
      by_cases hnn : x.node = node
      · have d1 : (x.node != node) = false := by rw [hnn]; simp
        have HNN : Hid _ := hnn
        clear hnn
        go_wp2_with fail
        clear x0 x1 x2 x3 x4 x5 x6 x7 x8 x9 x10
        refine (centry_any x.e.key x.e.f x.e.a x.e.cap x.e.l V5 HR5.out HXL.out).mono ?_
        rintro e v6 ⟨ya, yc, yl, rfl, hy, ry, ty, o6⟩
        obtain ⟨y, hye⟩ : ∃ y : E, y = ⟨x.e.key, x.e.f, ya, yc, yl⟩ := ⟨_, rfl⟩
        have CB := Cel.new v6 37 #[.string x.e.key, .int .i64 (x.e.f 0), .int .i64 (x.e.f 1), .int .i64 (x.e.f 2), .int .i64 (x.e.f 3), .int .i64 (x.e.f 4), .int .i64 (x.e.f 5), .int .i64 (x.e.f 6), .int .i64 (x.e.f 7), .slice ya yl.length yc]
        have OB : Off (fun _ => False) v6 (v6.alloc (.cells #[.string x.e.key, .int .i64 (x.e.f 0), .int .i64 (x.e.f 1), .int .i64 (x.e.f 2), .int .i64 (x.e.f 3), .int .i64 (x.e.f 4), .int .i64 (x.e.f 5), .int .i64 (x.e.f 6), .int .i64 (x.e.f 7), .slice ya yl.length yc] 37)) := (Off.refl _ v6).alloc _
        have hB := ent_one (y := ⟨x.e.key, x.e.f, ya, yc, yl⟩) CB
        rw [← hye] at hB
        have O6 := (HOA.out.trans o6 (fun _ _ h => h)).trans OB (fun _ _ h => h)
        have own6 := HOG.out.off O6 (fun _ _ _ h => h)
        have HY : Hid (y.abs = x.e.abs) := by show _ = _; rw [hye]; show (⟨x.e.key, x.e.f, cont yl⟩ : K) = _; rw [hy]; rfl
        have HRY : Hid (Row (v6.alloc (.cells #[.string x.e.key, .int .i64 (x.e.f 0), .int .i64 (x.e.f 1), .int .i64 (x.e.f 2), .int .i64 (x.e.f 3), .int .i64 (x.e.f 4), .int .i64 (x.e.f 5), .int .i64 (x.e.f 6), .int .i64 (x.e.f 7), .slice ya yl.length yc] 37)) y.a y.cap y.l) := by rw [hye]; exact ry.off OB
        have HTY : Hid (Ter (fun c => V5.heap.size ≤ c) y.a y.l) := by rw [hye]; exact ty
        have HO6 : Hid _ := O6
        have HYV : Hid _ := CB.lt
        have HV6 : Hid (V5.heap.size ≤ v6.heap.size ∧ wr.heap.size ≤ V5.heap.size) := ⟨o6.size, HOA.out.size⟩
        have HRB : Hid (Ter (fun c => c < v6.heap.size) y.a y.l) := by rw [hye]; exact ry.below
        have hyl := HYL.out
        clear hy ry ty o6 OB O6 CB hye
        go_wp2_with (at_builtin; refine wpList_appE rfl (.tmp 33) (.tmp 37) rfl to co ys rfl own6 _ 1 [y] rfl hB (fun h => by cases h) (by simp; omega) ?_; intro t' c' w7 zs hzs own' off' at')
        have hzs' := hzs.out
        generalize hv6 : v6.alloc (.cells #[.string x.e.key, .int .i64 (x.e.f 0), .int .i64 (x.e.f 1), .int .i64 (x.e.f 2), .int .i64 (x.e.f 3), .int .i64 (x.e.f 4), .int .i64 (x.e.f 5), .int .i64 (x.e.f 6), .int .i64 (x.e.f 7), .slice ya yl.length yc] 37) = v7 at HRY HO6 HYV hB own6 off' at'
        have hsz := HO6.out.size
        have rows : ∀ z ∈ zs, Row w7 z.a z.cap z.l := fun z hz => by
            rw [hzs', List.mem_append] at hz
            rcases hz with hz | hz
            · exact ((HRW.out z hz).off HO6.out).offT (HAP.out z hz) off' (fun c _ hd e => hd e)
            · simp at hz
              subst hz
              refine HRY.out.offT HTY.out off' (fun c hc hd e => ?_)
              have := HOG.out.lt c e
              have := HV6.out
              omega
        have HLT : Hid (∀ c, blk to = some c → c < wr.heap.size) := fun c e => HOG.out.lt c e
        go_roundw
        case rel =>
          refine ⟨m + 1, t', c', zs, rfl, by go_num, by omega, ?_, fun i z h1 h2 hz => ?_, own', rows, fun z hz => ?_, fun z hz => ?_, fun c hc => ?_, (HO.out.trans HO6.out (fun _ _ h => h)).trans off' (fun i hi e => ?_)⟩
          · rw [hzs', HP_snoc, HYS.out, HY.out, seg_succ HX.out]
          · by_cases e : i = n + m
            · subst e
              rw [HX.out] at hz
              cases hz
              exact HNN.out
            · exact HND.out i z h1 (by omega) hz
          · rw [hzs', List.mem_append] at hz
            rcases hz with hz | hz
            · exact HTR.out z hz
            · simp at hz
              subst hz
              exact HTY.out.mono (fun c hc => by have := HV6.out; have := HO.out.size; omega)
          · rw [hzs', List.mem_append] at hz
            rcases hz with hz | hz
            · refine ((HAP.out z hz).and (HRW.out z hz).below).mono (fun c hc e => ?_)
              rcases at' with k | k
              · rw [k] at e
                exact hc.1 e
              · rw [k] at e
                simp at e
                have := HV6.out
                omega
            · simp at hz
              subst hz
              refine (HTY.out.and HRB.out).mono (fun c hc e => ?_)
              have := HV6.out
              rcases at' with k | k
              · rw [k] at e
                have := HLT.out c e
                omega
              · rw [k] at e
                simp at e
                have := HYV.out
                omega
          · rcases at' with k | k
            · rw [k] at hc
              exact HNW.out c hc
            · rw [k] at hc
              simp at hc
              have := HO.out.size
              omega
          · have := HNW.out i e
            omega
        case measure => simp [intOf]; omega
      · have d1 : (x.node != node) = true := by simp [hnn]
        have HNN : Hid _ := hnn
        clear hnn
        go_wp2_with fail
        go_ret
        refine ⟨to, co, ys, rfl, ?_, HOG.out.off HOA.out (fun _ _ _ h => h), fun y hy => (HRW.out y hy).off HOA.out, HTR.out, HNW.out, HO5.out⟩
        rw [HYS.out]
        exact for_seg HST.out.sor HFN.out HND.out (fun z hz => by rw [HX.out] at hz; cases hz; exact HNN.out)
    · obtain rfl : m = k := by omega
      have e1 : decide ((m : Int) < (m : Int)) = false := decide_eq_false (by omega)
      have e2 : decide (m < m) = false := decide_eq_false (by omega)
      go_wp2_with fail
      go_ret
      refine ⟨to, co, ys, rfl, ?_, HOG.out, HRW.out, HTR.out, HNW.out, HO.out⟩
      rw [HYS.out]
      exact for_seg HST.out.sor HFN.out HND.out (fun z hz => by have := HK.out; rw [List.getElem?_eq_none (by omega)] at hz; cases hz)
end Go.Proofs.Ytfhacfedklaaiaa
