/- Items of several texts. -/
import Derived.Deep.CutRange
import Derived.Test.YtpnnpdfmoldiiaaQArg13
import Derived.Test.YtpnnpdfmoldiiaaQTbs
import Derived.Test.YtpnnpdfmoldiiaaQGlk
import Derived.Test.YtpnnpdfmoldiiaaQGsn
import Derived.Test.YtpnnpdfmoldiiaaQSms
import Derived.Test.YtpnnpdfmoldiiaaQLaw13
namespace Go.Proofs.Ytpnnpdfmoldiiaa
open Go.RowKit
structure OkU (x : E) : Prop where
 few : x.l.length ≤ 20
 key : x.key.size ≤ 100
 rng : ∀ j, j < 8 → -9223372036854775808 ≤ x.f j ∧ x.f j ≤ 9223372036854775807
 num : ∀ v ∈ x.l, -9223372036854775808 ≤ v.num ∧ v.num ≤ 9223372036854775807
 dat : ∀ v ∈ x.l, v.data.length ≤ 1048576
theorem OkU.vsum {x : E} (h : OkU x) : vsum (cont x.l) ≤ 20972140 := by
 unfold Go.Proofs.Ytpnnpdfmoldiiaa.vsum
 have h1 := sum_le ((cont x.l).map fun x => 31 + x.data.length) 1048607 (fun y hy => by
  obtain ⟨v, hv, rfl⟩ := List.mem_map.1 hy
  obtain ⟨u, hu, rfl⟩ := List.mem_map.1 hv
  have : u.abs.data.length ≤ 1048576 := h.dat u hu
  omega)
 rw [List.length_map, cont_len] at h1
 have h2 := Nat.mul_le_mul_right 1048607 h.few
 omega
theorem OkU.okN {x : E} (h : OkU x) : OkN x := by
 have h1 := h.vsum
 have h2 := h.few
 have h3 := h.key
 exact ⟨by omega, by omega, h.rng, by omega⟩
end Go.Proofs.Ytpnnpdfmoldiiaa

namespace Go.Proofs.Ytpnnpdfmoldiiaa
set_option maxRecDepth 100000
open Go.RowKit
theorem ens_row {w : World} {a : Option Addr} {cap : Nat} {es : List E} (h : Ens w a cap es) {x : E} (hx : x ∈ es) : Row w x.a x.cap x.l := by
 obtain ⟨i, hi⟩ := List.getElem?_of_mem hx
 obtain ⟨_, _, _, _, r⟩ := h.at_ i x hi
 exact r
set_option maxHeartbeats 4000000 in
theorem lacks_walk (a : Option Addr) (cap : Nat) (es : List E) (tg : Option Addr) (cg : Nat) (gs : List G) (most : Int) (w : World) (hE : Ens w a cap es) (hR : ∀ e ∈ es, (∀ j, j < 8 → -9223372036854775808 ≤ e.f j ∧ e.f j ≤ 9223372036854775807) ∧ ∀ v ∈ e.l, v.data.length ≤ 1048576) (hG : Dgs w tg cg gs) (hm : -9223372036854775808 ≤ most ∧ most ≤ 9223372036854775807) :
  Calls Try.prog 4 #[.slice a es.length cap, .slice tg gs.length cg, .int .i64 most] w fun e w' => e = .returned (.bool true) ∧ Off (fun _ => False) w w' := by
 have HE : Hid _ := hE
 have HG : Hid _ := hG
 have HR : Hid _ := hR
 have hnot := not_any
 clear hE hG hR
 go_enter Try.func4, Try.ntmps4
 go_wp2_with fail
 refine (light_any a cap es _ HE.out).mono ?_
 rintro e w1 ⟨rfl, o1⟩
 have H1 : Hid _ := o1
 clear o1
 cases hlt : light13 es
 ·go_wp2_with fail
  refine (awake_any _).mono ?_
  rintro e ua ⟨rfl, oa⟩
  go_wp2_with fail
  go_ret
  exact ⟨rfl, H1.out.trans oa (fun _ _ h => h)⟩
 have HLT : Hid _ := light13_iff.1 hlt
 have hel : es.length ≤ 40 := HLT.out.1
 clear hlt
 go_wp2_with fail
 refine (thin_any tg cg gs _ (HG.out.off H1.out)).mono ?_
 rintro e w3 ⟨rfl, o2⟩
 have H3 : Hid _ := H1.out.trans o2 (fun _ _ h => h)
 clear o2
 cases htn : thinG gs
 ·go_wp2_with fail
  refine (awake_any _).mono ?_
  rintro e ua ⟨rfl, oa⟩
  go_wp2_with fail
  go_ret
  exact ⟨rfl, H3.out.trans oa (fun _ _ h => h)⟩
 have HTN : Hid _ := thin_iff.1 htn
 clear htn
 have HU : Hid (∀ x ∈ es, OkU x) := fun x hx => by
  have hr := ens_row HE.out hx
  exact ⟨(HLT.out.2 x hx).1, (HLT.out.2 x hx).2, (HR.out x hx).1, fun v hv => ⟨(hr.ok v hv).m0, (hr.ok v hv).m1⟩, (HR.out x hx).2⟩
 have HOKN : Hid (∀ x ∈ es, OkN x) := fun x hx => (HU.out x hx).okN
 have HSML : Hid (∀ x ∈ es, 120 + x.key.size + vsum (cont x.l) ≤ 1073741824) := fun x hx => by
  have h1 := (HU.out x hx).vsum
  have h2 := (HU.out x hx).key
  omega
 clear HU HR HLT H1
 go_wp2_with fail
 go_loopw [20] (fun y wr => ∃ n : Nat, y = .int .i64 (n : Int) ∧ n ≤ es.length ∧ Off (fun _ => False) w wr) (fun y _ => (es.length - intOf y).toNat)
 case atStart => exact ⟨0, rfl, by omega, H3.out⟩
 case round =>
  obtain ⟨n, rfl, hn, O⟩ := hrel
  have HO : Hid _ := O
  clear O H3
  by_cases hlt2 : n < es.length
  ·have e1 : decide ((n : Int) < (es.length : Int)) = true := decide_eq_true (by omega)
   have e2 : decide (n < es.length) = true := decide_eq_true hlt2
   obtain ⟨x, hx⟩ : ∃ x, es[n]? = some x := ⟨_, List.getElem?_eq_getElem hlt2⟩
   obtain ⟨bx, ox, rfl, kx, rx⟩ := (HE.out.off HO.out).at_ n x hx
   obtain ⟨k0, k1, k2, k3, k4, k5, k6, k7, k8, k9⟩ := ent10 kx
   have hix := idx_ents hlt2
   have HON : Hid _ := HOKN.out x (List.mem_of_getElem? hx)
   have HSM : Hid (120 + x.key.size + vsum (cont x.l) ≤ 1073741824) := HSML.out x (List.mem_of_getElem? hx)
   have HFX : Hid (x.l.length ≤ 1000) := HON.out.few
   clear kx hx
   go_upto_region 6 with fail
   have C8 := Cel.new wr 40 #[.string x.key, .int .i64 (x.f 0), .int .i64 (x.f 1), .int .i64 (x.f 2), .int .i64 (x.f 3), .int .i64 (x.f 4), .int .i64 (x.f 5), .int .i64 (x.f 6), .int .i64 (x.f 7), .slice x.a x.l.length x.cap]
   have OA : Off (fun _ => False) wr (wr.alloc (.cells #[.string x.key, .int .i64 (x.f 0), .int .i64 (x.f 1), .int .i64 (x.f 2), .int .i64 (x.f 3), .int .i64 (x.f 4), .int .i64 (x.f 5), .int .i64 (x.f 6), .int .i64 (x.f 7), .slice x.a x.l.length x.cap] 40)) := (Off.refl _ wr).alloc _
   generalize hq : wr.heap.size = q8 at C8 ⊢
   generalize hv : wr.alloc (.cells #[.string x.key, .int .i64 (x.f 0), .int .i64 (x.f 1), .int .i64 (x.f 2), .int .i64 (x.f 3), .int .i64 (x.f 4), .int .i64 (x.f 5), .int .i64 (x.f 6), .int .i64 (x.f 7), .slice x.a x.l.length x.cap] 40) = V5 at C8 OA ⊢
   clear hq hv k0 k1 k2 k3 k4 k5 k6 k7 k8 k9 hix
   have HO5 : Hid _ := HO.out.trans OA (fun _ _ h => h)
   have HRX : Hid _ := rx.off OA
   have HC8 : Hid _ := C8
   obtain ⟨sz, hsz⟩ : ∃ sz, sizE x.key x.f (cont x.l) = sz := ⟨_, rfl⟩
   have HSZ : Hid _ := hsz
   clear OA rx C8 hsz
   refine wp_region_held_drew (S := Off (fun _ => False) V5) (by kernel_rfl) ((Off.refl _ V5).drew) (fun hS => ?_)
   refine take_at (i := 0) 25 (v := .agg #[.string x.key, .int .i64 (x.f 0), .int .i64 (x.f 1), .int .i64 (x.f 2), .int .i64 (x.f 3), .int .i64 (x.f 4), .int .i64 (x.f 5), .int .i64 (x.f 6), .int .i64 (x.f 7), .slice x.a x.l.length x.cap]) rfl rfl (by kernel_rfl) (by kernel_rfl) (by kernel_rfl) (fun _ _ _ h => h) (Or.inl ⟨by rfl, fun w' hw' => by obtain ⟨y0, y1, y2, y3, y4, y5, y6, y7, y8, y9⟩ := cel10 (HC8.out.off hw' (fun h => h)); go_simp⟩) hS ?_
   simp only [Act.put, lsA, lsZ, lsS]
   refine take_at (i := 2) 27 (v := .agg #[.string x.key, .int .i64 (x.f 0), .int .i64 (x.f 1), .int .i64 (x.f 2), .int .i64 (x.f 3), .int .i64 (x.f 4), .int .i64 (x.f 5), .int .i64 (x.f 6), .int .i64 (x.f 7), .slice x.a x.l.length x.cap]) rfl rfl (by kernel_rfl) (by kernel_rfl) (by kernel_rfl) (fun _ _ _ h => h) (Or.inl ⟨by rfl, fun w' hw' => by obtain ⟨y0, y1, y2, y3, y4, y5, y6, y7, y8, y9⟩ := cel10 (HC8.out.off hw' (fun h => h)); go_simp⟩) hS ?_
   simp only [Act.put, lsA, lsZ, lsS]
   refine wpAnyH_ready (rs := [1]) (by kernel_rfl) (by simp) ?_
   refine AllReadyH.cons rfl (fun K' hK' => ?_) AllReadyH.nil
   go_simp
   have hc9 := size_any x.key HON.out.key x.f HON.out.rng x.a x.cap x.l _ (HRX.out.off hS) HON.out.sum
   rw [HSZ.out] at hc9
   refine hc9.mono ?_
   rintro e v ⟨rfl, o1⟩
   have hS1 := hS.trans o1 (fun _ _ h => h)
   refine hK'.out _ _ hS1 (fun hS => ?_)
   clear hK' K' hS1 o1 hc9
   refine wpAnyH_ready (rs := [3]) (by kernel_rfl) (by simp) ?_
   refine AllReadyH.cons rfl (fun K' hK' => ?_) AllReadyH.nil
   go_simp
   have hc9 := gsize_any x.key HON.out.key x.f HON.out.rng x.a x.cap x.l _ (HRX.out.off hS) HSM.out
   rw [HSZ.out] at hc9
   refine hc9.mono ?_
   rintro e V6 ⟨rfl, o1⟩
   have hS1 := hS.trans o1 (fun _ _ h => h)
   refine hK'.out _ _ hS1 (fun hS => ?_)
   clear hK' K' hS1 o1 hc9
   refine take_at (i := 4) 29 (v := .bool false) rfl rfl (by kernel_rfl) (by kernel_rfl) (by kernel_rfl) (fun _ _ _ h => h) (Or.inl ⟨by rfl, fun w' hw' => by go_simp⟩) hS ?_
   simp only [Act.put, lsA, lsZ, lsS]
   refine wpAnyH_done (by kernel_rfl) ?_ _
   have HO6a : Hid _ := HO5.out.trans hS (fun _ _ h => h)
   have HC8b : Hid _ := HC8.out.off hS (fun h => h)
   have HRX2a : Hid _ := HRX.out.off hS
   clear hS
   go_upto_region 8 with fail
   clear HC8
   have HC8 : Hid _ := HC8b.out
   have HRX2 : Hid _ := HRX2a.out
   have HO6 : Hid _ := HO6a.out
   have HG6 : Hid _ := HG.out.off HO6.out
   clear HC8b HRX2a HO6a
   go_cut [48] from 30 to 48 (fun b wc => b = .bool false ∧ Off (fun _ => False) V6 wc)
   case first =>
    by_cases hng : n < gs.length
    ·obtain ⟨g, hg⟩ : ∃ g, gs[n]? = some g := ⟨_, List.getElem?_eq_getElem hng⟩
     obtain ⟨bg, og, rfl, kg, rg⟩ := HG6.out.at_ n g hg
     have HKG : Hid (∀ w', Off (fun _ => False) V6 w' → ∀ j u, (gcs g)[j]? = some u → w'.cell? ⟨bg, og + n * 10 + j, none⟩ = some u) := fun w' o j u hj => by
      have h := kg j u hj
      rw [← h]
      exact World.cell?_of_block (a := ⟨bg, og + n * 10 + j, none⟩) (o.block bg (cell_lt h) (fun h => h))
     have HRG : Hid _ := rg
     obtain ⟨lb, hlb⟩ : ∃ lb, lacksB x.key x.f (cont x.l) g.abs = lb := ⟨_, rfl⟩
     have HLB : Hid _ := hlb
     clear kg rg hg hlb
     refine wp_region_held_drew (S := Off (fun _ => False) V6) (by kernel_rfl) ((Off.refl _ V6).drew) (fun hS => ?_)
     refine take_at (i := 0) 30 (v := .int .i64 (n : Int)) rfl rfl (by kernel_rfl) (by kernel_rfl) (by kernel_rfl) (fun _ _ _ h => h) (Or.inl ⟨by rfl, fun w' hw' => by go_simp⟩) hS ?_
     simp only [Act.put, lsA, lsZ, lsS]
     refine take_at (i := 1) 31 (v := .slice (some ⟨bg, og, none⟩) gs.length cg) rfl rfl (by kernel_rfl) (by kernel_rfl) (by kernel_rfl) (fun _ _ _ h => h) (Or.inl ⟨by rfl, fun w' hw' => by go_simp⟩) hS ?_
     simp only [Act.put, lsA, lsZ, lsS]
     refine take_at (i := 2) 32 (v := .int .i64 (gs.length : Int)) rfl rfl (by kernel_rfl) (by kernel_rfl) (by kernel_rfl) (fun _ _ _ h => h) (Or.inl ⟨by rfl, fun w' hw' => by go_simp⟩) hS ?_
     simp only [Act.put, lsA, lsZ, lsS]
     refine take_at (i := 3) 33 (v := .bool true) rfl rfl (by kernel_rfl) (by kernel_rfl) (by kernel_rfl) (fun _ _ _ h => h) (Or.inl ⟨by rfl, fun w' hw' => by go_simp⟩) hS ?_
     simp only [Act.put, lsA, lsZ, lsS]
     refine take_at (i := 4) 34 (v := .bool true) rfl rfl (by kernel_rfl) (by kernel_rfl) (by kernel_rfl) (fun _ _ _ h => h) (Or.inl ⟨by rfl, fun w' hw' => by go_simp⟩) hS ?_
     simp only [Act.put, lsA, lsZ, lsS]
     refine take_at (i := 5) 35 (v := .agg #[.string x.key, .int .i64 (x.f 0), .int .i64 (x.f 1), .int .i64 (x.f 2), .int .i64 (x.f 3), .int .i64 (x.f 4), .int .i64 (x.f 5), .int .i64 (x.f 6), .int .i64 (x.f 7), .slice x.a x.l.length x.cap]) rfl rfl (by kernel_rfl) (by kernel_rfl) (by kernel_rfl) (fun _ _ _ h => h) (Or.inl ⟨by rfl, fun w' hw' => by obtain ⟨y0, y1, y2, y3, y4, y5, y6, y7, y8, y9⟩ := cel10 (HC8.out.off hw' (fun h => h)); go_simp⟩) hS ?_
     simp only [Act.put, lsA, lsZ, lsS]
     refine take_at (i := 6) 36 (v := .slice (some ⟨bg, og, none⟩) gs.length cg) rfl rfl (by kernel_rfl) (by kernel_rfl) (by kernel_rfl) (fun _ _ _ h => h) (Or.inl ⟨by rfl, fun w' hw' => by go_simp⟩) hS ?_
     simp only [Act.put, lsA, lsZ, lsS]
     refine take_at (i := 7) 37 (v := .int .i64 (n : Int)) rfl rfl (by kernel_rfl) (by kernel_rfl) (by kernel_rfl) (fun _ _ _ h => h) (Or.inl ⟨by rfl, fun w' hw' => by go_simp⟩) hS ?_
     simp only [Act.put, lsA, lsZ, lsS]
     refine take_at (i := 8) 38 (v := .pointer (some ⟨bg, og + n * 10, none⟩)) rfl rfl (by kernel_rfl) (by kernel_rfl) (by kernel_rfl) (fun _ _ _ h => h) (Or.inl ⟨by rfl, fun w' hw' => exec_idx10 rfl (idx_dgs hng cg bg og w')⟩) hS ?_
     simp only [Act.put, lsA, lsZ, lsS]
     refine take_at (i := 9) 39 (v := .agg #[.string g.key, .int .i64 (g.f 0), .int .i64 (g.f 1), .int .i64 (g.f 2), .int .i64 (g.f 3), .int .i64 (g.f 4), .int .i64 (g.f 5), .int .i64 (g.f 6), .int .i64 (g.f 7), .slice g.a g.ds.length g.cap]) rfl rfl (by kernel_rfl) (by kernel_rfl) (by kernel_rfl) (fun _ _ _ h => h) (Or.inl ⟨by rfl, fun w' hw' => by obtain ⟨y0, y1, y2, y3, y4, y5, y6, y7, y8, y9⟩ := dg10 (HKG.out w' hw'); go_simp⟩) hS ?_
     simp only [Act.put, lsA, lsZ, lsS]
     refine take_at (i := 11) 41 (v := .agg #[.string x.key, .int .i64 (x.f 0), .int .i64 (x.f 1), .int .i64 (x.f 2), .int .i64 (x.f 3), .int .i64 (x.f 4), .int .i64 (x.f 5), .int .i64 (x.f 6), .int .i64 (x.f 7), .slice x.a x.l.length x.cap]) rfl rfl (by kernel_rfl) (by kernel_rfl) (by kernel_rfl) (fun _ _ _ h => h) (Or.inl ⟨by rfl, fun w' hw' => by obtain ⟨y0, y1, y2, y3, y4, y5, y6, y7, y8, y9⟩ := cel10 (HC8.out.off hw' (fun h => h)); go_simp⟩) hS ?_
     simp only [Act.put, lsA, lsZ, lsS]
     refine take_at (i := 12) 42 (v := .slice (some ⟨bg, og, none⟩) gs.length cg) rfl rfl (by kernel_rfl) (by kernel_rfl) (by kernel_rfl) (fun _ _ _ h => h) (Or.inl ⟨by rfl, fun w' hw' => by go_simp⟩) hS ?_
     simp only [Act.put, lsA, lsZ, lsS]
     refine take_at (i := 13) 43 (v := .int .i64 (n : Int)) rfl rfl (by kernel_rfl) (by kernel_rfl) (by kernel_rfl) (fun _ _ _ h => h) (Or.inl ⟨by rfl, fun w' hw' => by go_simp⟩) hS ?_
     simp only [Act.put, lsA, lsZ, lsS]
     refine take_at (i := 14) 44 (v := .pointer (some ⟨bg, og + n * 10, none⟩)) rfl rfl (by kernel_rfl) (by kernel_rfl) (by kernel_rfl) (fun _ _ _ h => h) (Or.inl ⟨by rfl, fun w' hw' => exec_idx10 rfl (idx_dgs hng cg bg og w')⟩) hS ?_
     simp only [Act.put, lsA, lsZ, lsS]
     refine take_at (i := 15) 45 (v := .agg #[.string g.key, .int .i64 (g.f 0), .int .i64 (g.f 1), .int .i64 (g.f 2), .int .i64 (g.f 3), .int .i64 (g.f 4), .int .i64 (g.f 5), .int .i64 (g.f 6), .int .i64 (g.f 7), .slice g.a g.ds.length g.cap]) rfl rfl (by kernel_rfl) (by kernel_rfl) (by kernel_rfl) (fun _ _ _ h => h) (Or.inl ⟨by rfl, fun w' hw' => by obtain ⟨y0, y1, y2, y3, y4, y5, y6, y7, y8, y9⟩ := dg10 (HKG.out w' hw'); go_simp⟩) hS ?_
     simp only [Act.put, lsA, lsZ, lsS]
     refine wpAnyH_ready (rs := [10]) (by kernel_rfl) (by simp) ?_
     refine AllReadyH.cons rfl (fun K' hK' => ?_) AllReadyH.nil
     go_simp
     have hc9 := lacks_any x g _ (HRX2.out.off hS) HFX.out (HRG.out.off hS)
     rw [HLB.out] at hc9
     refine hc9.mono ?_
     rintro e v ⟨rfl, o1⟩
     have hS1 := hS.trans o1 (fun _ _ h => h)
     refine hK'.out _ _ hS1 (fun hS => ?_)
     clear hK' K' hS1 o1 hc9
     refine wpAnyH_ready (rs := [16]) (by kernel_rfl) (by simp) ?_
     refine AllReadyH.cons rfl (fun K' hK' => ?_) AllReadyH.nil
     go_simp
     have hc9 := glacks_any x g _ (HRX2.out.off hS) (HRG.out.off hS)
     rw [HLB.out] at hc9
     refine hc9.mono ?_
     rintro e v ⟨rfl, o1⟩
     have hS1 := hS.trans o1 (fun _ _ h => h)
     refine hK'.out _ _ hS1 (fun hS => ?_)
     clear hK' K' hS1 o1 hc9
     refine take_at (i := 17) 47 (v := .bool false) rfl rfl (by kernel_rfl) (by kernel_rfl) (by kernel_rfl) (fun _ _ _ h => h) (Or.inl ⟨by rfl, fun w' hw' => by go_simp⟩) hS ?_
     simp only [Act.put, lsA, lsZ, lsS]
     refine take_at (i := 18) 48 (v := .bool false) rfl rfl (by kernel_rfl) (by kernel_rfl) (by kernel_rfl) (fun _ _ _ h => h) (Or.inl ⟨by rfl, fun w' hw' => by go_simp⟩) hS ?_
     simp only [Act.put, lsA, lsZ, lsS]
     refine wpAnyH_done (by kernel_rfl) ?_ _
     go_wp2_with fail
     go_meet
     case rel => exact ⟨rfl, hS⟩
    ·refine wp_region_held_drew (S := Off (fun _ => False) V6) (by kernel_rfl) ((Off.refl _ V6).drew) (fun hS => ?_)
     refine take_at (i := 0) 30 (v := .int .i64 (n : Int)) rfl rfl (by kernel_rfl) (by kernel_rfl) (by kernel_rfl) (fun _ _ _ h => h) (Or.inl ⟨by rfl, fun w' hw' => by go_simp⟩) hS ?_
     simp only [Act.put, lsA, lsZ, lsS]
     refine take_at (i := 1) 31 (v := .slice tg gs.length cg) rfl rfl (by kernel_rfl) (by kernel_rfl) (by kernel_rfl) (fun _ _ _ h => h) (Or.inl ⟨by rfl, fun w' hw' => by go_simp⟩) hS ?_
     simp only [Act.put, lsA, lsZ, lsS]
     refine take_at (i := 2) 32 (v := .int .i64 (gs.length : Int)) rfl rfl (by kernel_rfl) (by kernel_rfl) (by kernel_rfl) (fun _ _ _ h => h) (Or.inl ⟨by rfl, fun w' hw' => by go_simp⟩) hS ?_
     simp only [Act.put, lsA, lsZ, lsS]
     refine take_at (i := 3) 33 (v := .bool false) rfl rfl (by kernel_rfl) (by kernel_rfl) (by kernel_rfl) (fun _ _ _ h => h) (Or.inl ⟨by rfl, fun w' hw' => by go_simp⟩) hS ?_
     simp only [Act.put, lsA, lsZ, lsS]
     refine take_at (i := 4) 34 (v := .bool false) rfl rfl (by kernel_rfl) (by kernel_rfl) (by kernel_rfl) (fun _ _ _ h => h) (Or.inl ⟨by rfl, fun w' hw' => by go_simp⟩) hS ?_
     simp only [Act.put, lsA, lsZ, lsS]
     refine take_at (i := 5) 35 (v := undef) rfl rfl (by kernel_rfl) (by kernel_rfl) (by kernel_rfl) (fun _ _ _ h => h) (Or.inr ⟨by rfl, rfl⟩) hS ?_
     simp only [Act.put, lsA, lsZ, lsS]
     refine take_at (i := 6) 36 (v := undef) rfl rfl (by kernel_rfl) (by kernel_rfl) (by kernel_rfl) (fun _ _ _ h => h) (Or.inr ⟨by rfl, rfl⟩) hS ?_
     simp only [Act.put, lsA, lsZ, lsS]
     refine take_at (i := 7) 37 (v := undef) rfl rfl (by kernel_rfl) (by kernel_rfl) (by kernel_rfl) (fun _ _ _ h => h) (Or.inr ⟨by rfl, rfl⟩) hS ?_
     simp only [Act.put, lsA, lsZ, lsS]
     refine take_at (i := 8) 38 (v := undef) rfl rfl (by kernel_rfl) (by kernel_rfl) (by kernel_rfl) (fun _ _ _ h => h) (Or.inr ⟨by rfl, rfl⟩) hS ?_
     simp only [Act.put, lsA, lsZ, lsS]
     refine take_at (i := 9) 39 (v := undef) rfl rfl (by kernel_rfl) (by kernel_rfl) (by kernel_rfl) (fun _ _ _ h => h) (Or.inr ⟨by rfl, rfl⟩) hS ?_
     simp only [Act.put, lsA, lsZ, lsS]
     refine take_at (i := 10) 40 (v := undef) rfl rfl (by kernel_rfl) (by kernel_rfl) (by kernel_rfl) (fun _ _ _ h => h) (Or.inr ⟨by rfl, rfl⟩) hS ?_
     simp only [Act.put, lsA, lsZ, lsS]
     refine take_at (i := 11) 41 (v := undef) rfl rfl (by kernel_rfl) (by kernel_rfl) (by kernel_rfl) (fun _ _ _ h => h) (Or.inr ⟨by rfl, rfl⟩) hS ?_
     simp only [Act.put, lsA, lsZ, lsS]
     refine take_at (i := 12) 42 (v := undef) rfl rfl (by kernel_rfl) (by kernel_rfl) (by kernel_rfl) (fun _ _ _ h => h) (Or.inr ⟨by rfl, rfl⟩) hS ?_
     simp only [Act.put, lsA, lsZ, lsS]
     refine take_at (i := 13) 43 (v := undef) rfl rfl (by kernel_rfl) (by kernel_rfl) (by kernel_rfl) (fun _ _ _ h => h) (Or.inr ⟨by rfl, rfl⟩) hS ?_
     simp only [Act.put, lsA, lsZ, lsS]
     refine take_at (i := 14) 44 (v := undef) rfl rfl (by kernel_rfl) (by kernel_rfl) (by kernel_rfl) (fun _ _ _ h => h) (Or.inr ⟨by rfl, rfl⟩) hS ?_
     simp only [Act.put, lsA, lsZ, lsS]
     refine take_at (i := 15) 45 (v := undef) rfl rfl (by kernel_rfl) (by kernel_rfl) (by kernel_rfl) (fun _ _ _ h => h) (Or.inr ⟨by rfl, rfl⟩) hS ?_
     simp only [Act.put, lsA, lsZ, lsS]
     refine take_at (i := 16) 46 (v := undef) rfl rfl (by kernel_rfl) (by kernel_rfl) (by kernel_rfl) (fun _ _ _ h => h) (Or.inr ⟨by rfl, rfl⟩) hS ?_
     simp only [Act.put, lsA, lsZ, lsS]
     refine take_at (i := 17) 47 (v := undef) rfl rfl (by kernel_rfl) (by kernel_rfl) (by kernel_rfl) (fun _ _ _ h => h) (Or.inr ⟨by rfl, rfl⟩) hS ?_
     simp only [Act.put, lsA, lsZ, lsS]
     refine take_at (i := 18) 48 (v := .bool false) rfl rfl (by kernel_rfl) (by kernel_rfl) (by kernel_rfl) (fun _ _ _ h => h) (Or.inl ⟨by rfl, fun w' hw' => by go_simp⟩) hS ?_
     simp only [Act.put, lsA, lsZ, lsS]
     refine wpAnyH_done (by kernel_rfl) ?_ _
     go_wp2_with fail
     go_meet
     case rel => exact ⟨rfl, hS⟩
   case rest =>
    obtain ⟨rfl, o8⟩ := hcut
    have HO8 : Hid _ := HO6.out.trans o8 (fun _ _ h => h)
    clear o8
    go_wp2_with fail
    go_roundw
    case rel => exact ⟨n + 1, by go_num, by omega, HO8.out⟩
    case measure => simp [intOf]; omega
  ·obtain rfl : n = es.length := by omega
   have e1 : decide ((es.length : Int) < (es.length : Int)) = false := decide_eq_false (by omega)
   have e2 : decide (es.length < es.length) = false := decide_eq_false (by omega)
   go_wp2_with fail
   refine (send_any a tg cap cg es gs most hm _ (HE.out.off HO.out) (HG.out.off HO.out) (by have := HTN.out.1; omega) (by omega) HOKN.out).mono ?_
   rintro e v1 ⟨t1, c1, os1, rfl, hos1, own1, rows1, -, o1⟩
   have HE1 : Hid (Ens v1 t1 c1 os1) := own1.ens (fun e he => (rows1 e he).1)
   have HA1 : Hid _ := hos1
   have HO1 : Hid _ := HO.out.trans o1 (fun _ _ h => h)
   clear hos1 own1 rows1 o1
   go_wp2_with fail
   refine (gsend_any a tg cap cg es gs most hm _ (HE.out.off HO1.out) (HG.out.off HO1.out) (by have := HTN.out.1; omega) (by omega) HOKN.out HSML.out).mono ?_
   rintro e v2 ⟨t2, c2, os2, rfl, hos2, own2, rows2, -, o2⟩
   have HO2 : Hid _ := HO1.out.trans o2 (fun _ _ h => h)
   have HE2 : Hid (Ens v2 t2 c2 os2) := own2.ens (fun e he => ens_row (HE.out.off HO2.out) (rows2 e he))
   have HE1b : Hid _ := HE1.out.off o2
   have HAB : Hid (absE os1 = absE os2) := HA1.out.trans hos2.symm
   have HL1 : Hid (os1.length ≤ 1000) := by
    have h := congrArg List.length HA1.out
    rw [absE_len, absE_len] at h
    have h2 := (sndF_sub gs es (max most 0) false).length_le
    show _ ≤ _
    omega
   clear hos2 own2 rows2 o2
   go_wp2_with fail
   refine (sameents_any t1 t2 c1 c2 os1 os2 _ HE1b.out HE2.out HAB.out HL1.out).mono ?_
   rintro e v3 ⟨rfl, o3⟩
   have HO3 : Hid _ := HO2.out.trans o3 (fun _ _ h => h)
   clear o3
   go_wp2_with fail
   refine (awake_any _).mono ?_
   rintro e ua ⟨rfl, oa⟩
   go_wp2_with fail
   go_ret
   exact ⟨rfl, HO3.out.trans oa (fun _ _ h => h)⟩
end Go.Proofs.Ytpnnpdfmoldiiaa
