/- Items of several texts. -/
import Derived.Deep.RegionHeld
import Derived.Deep.Cut
import Derived.Test.YtpnnpdfmoldiiaaQGMay
import Derived.Test.YtpnnpdfmoldiiaaQDot5
import Derived.Test.YtpnnpdfmoldiiaaQDg0
import Derived.Test.YtpnnpdfmoldiiaaQBks
namespace Go.Proofs.Ytpnnpdfmoldiiaa
open Go.RowKit
theorem own_apart {α β : Type} {e1 e2 : TypeId} {s1 s2 : Nat} {c1 : α → List Value} {c2 : β → List Value} {w : World} {a b : Option Addr} {ca cb : Nat} {l : List α} {m : List β} (h1 : OwnG e1 s1 c1 w a ca l) (h2 : OwnG e2 s2 c2 w b cb m) (hne : e1 ≠ e2) : ∀ k, blk a = some k → ¬ blk b = some k := by
 intro k ha hb
 rcases h1.row.2 with ⟨hv, -⟩ | ⟨g, c, cur, hv, -, hh, -⟩
 ·simp only [Value.slice.injEq] at hv
  rw [hv.1] at ha
  simp [blk] at ha
 ·rcases h2.row.2 with ⟨hv2, -⟩ | ⟨g2, c2, cur2, hv2, -, hh2, -⟩
  ·simp only [Value.slice.injEq] at hv2
   rw [hv2.1] at hb
   simp [blk] at hb
  ·simp only [Value.slice.injEq] at hv hv2
   rw [hv.1] at ha
   rw [hv2.1] at hb
   simp only [blk, Option.map_some, Option.some.injEq] at ha hb
   subst ha hb
   rw [hh] at hh2
   simp only [Option.some.injEq, Obj.cells.injEq] at hh2
   exact hne hh2.2.1
theorem app_one {α : Type} {t e : TypeId} {size bytes : Nat} {z : Value} {cs : α → List Value}
  (hu : Try.prog.underlying t = some (.slice e)) (hinfo : (Try.prog.info? e).map (fun i => (i.zero, i.size, i.bytes)) = some (some z, size, bytes)) (hz : z.cells.size = size) (hsz : 0 < size) (hby : bytes ≤ 1000) (hcs : ∀ x, (cs x).length = size) (h1 : ∀ x, ∀ u ∈ cs x, u.oneCell' = true)
  {w : World} {tad : Option Addr} {cap : Nat} {l : List α} (own : OwnG e size cs w tad cap l) {g xc : Nat} {x : α} (src : ∀ j u, (cs x)[j]? = some u → w.cell? ⟨g, j, none⟩ = some u) (hb : l.length ≤ 1000000) (ty : TypeId) :
  ∃ t' c' w', (Builtin.append_ #[t, t] ty #[.slice tad l.length cap, .slice (some ⟨g, 0, none⟩) 1 xc]).run Try.prog w = .ok (.slice t' (l ++ [x]).length c') w' ∧ OwnG e size cs w' t' c' (l ++ [x]) ∧ Off (fun c => blk tad = some c) w w' ∧ (blk t' = blk tad ∨ blk t' = some w.heap.size) := by
 obtain ⟨i0, hi, hz0, hz1, hz2⟩ := info_parts hinfo
 have fl : ([x].flatMap cs) = cs x := by simp
 have hbm : (l.length + 1) * bytes ≤ 140737488355328 := Nat.le_trans (Nat.mul_le_mul_left _ hby) (by omega)
 obtain ⟨v', w', hr, own', grow', -, hat⟩ := run_append_own_at (P := Try.prog) w 0 t ty e i0 z size bytes hu hi hz0 hz1 hz2 hz hsz _ _ _ own.row ⟨g, 0, none⟩ 1 xc ([x].flatMap cs) (by rw [fl, hcs, Nat.one_mul]) (fun j u hj => by
  rw [fl] at hj
  rw [add_lit, Nat.zero_add]
  exact src j u hj) (fun u hu => by
   rw [fl] at hu
   exact h1 x u hu) (by unfold maxLen; omega) hbm (Nat.zero_le _)
 rw [← List.flatMap_append] at own'
 have el : l.length + 1 = (l ++ [x]).length := by simp
 rw [el] at own'
 obtain ⟨t', c', rfl⟩ : ∃ t' c', v' = .slice t' (l ++ [x]).length c' := by
  rcases own'.2 with ⟨rfl, h0⟩ | ⟨g, c, cur, hv, -⟩
  ·exact ⟨none, 0, by rw [h0]⟩
  ·exact ⟨_, _, hv⟩
 rw [blk_own, blk_own] at hat
 rw [blk_own] at grow'
 exact ⟨t', c', w', hr, ⟨own'⟩, (Off.refl _ w).grown grow' (fun k hk => .inl hk), hat⟩
def ofE (x : E) : GK := ⟨x.key, x.f, if mayS x.f (cont x.l) = true then (cont x.l).map dotA else []⟩
set_option maxRecDepth 100000 in
set_option maxHeartbeats 4000000 in
theorem dof_any (a : Option Addr) (cap : Nat) (es : List E) (w : World) (hE : Ens w a cap es) (hl : es.length ≤ 1000) :
  Calls Try.prog 16 #[.slice a es.length cap] w fun e w' => ∃ (t : Option Addr) (c : Nat) (gs : List G), e = .returned (.slice t gs.length c) ∧ OwnG 27 10 gcs w' t c gs ∧ (∀ g ∈ gs, OwnG 81 2 dcs w' g.a g.cap g.ds) ∧ gs.map G.abs = es.map ofE ∧ Off (fun _ => False) w w' := by
 have HE : Hid _ := hE
 clear hE
 go_enter Try.func16, Try.ntmps16
 go_wp2_with fail
 go_loopw [3, 8] (fun x y wr => ∃ (n : Nat) (t : Option Addr) (c : Nat) (gs : List G), x = .slice t gs.length c ∧ y = .int .i64 (n : Int) ∧ n ≤ es.length ∧ gs.length = n ∧ OwnG 27 10 gcs wr t c gs ∧ (∀ g ∈ gs, OwnG 81 2 dcs wr g.a g.cap g.ds) ∧ (∀ k, blk t = some k → w.heap.size ≤ k) ∧ gs.map G.abs = (es.take n).map ofE ∧ Off (fun _ => False) w wr) (fun _ y _ => (es.length - intOf y).toNat)
 case atStart => exact ⟨0, none, 0, [], rfl, rfl, by omega, rfl, OwnG.nil _ _ _ _, fun g hg => by simp at hg, fun k hk => by simp [blk] at hk, by simp, Off.refl _ w⟩
 case round =>
  obtain ⟨n, t, c, gs, rfl, rfl, hn, hgn, own, hds, hnw, hdat, O⟩ := hrel
  have HOWN : Hid _ := own
  have HDS : Hid (∀ g ∈ gs, OwnG 81 2 dcs wr g.a g.cap g.ds) := hds
  have HNW : Hid (∀ k, blk t = some k → w.heap.size ≤ k) := hnw
  have HDA : Hid _ := hdat
  have HGN : Hid _ := hgn
  have HO : Hid _ := O
  clear own hds hnw hdat hgn O
  by_cases hlt : n < es.length
  ·have e1 : decide ((n : Int) < (es.length : Int)) = true := decide_eq_true (by omega)
   have e2 : decide (n < es.length) = true := decide_eq_true hlt
   obtain ⟨x, hx⟩ : ∃ x, es[n]? = some x := ⟨_, List.getElem?_eq_getElem hlt⟩
   obtain ⟨bx, ox, rfl, kx, rx⟩ := (HE.out.off HO.out).at_ n x hx
   obtain ⟨k0, k1, k2, k3, k4, k5, k6, k7, k8, k9⟩ := ent10 kx
   have hix := idx_ents hlt
   have HX : Hid _ := hx
   have CE := Cel.new wr 40 #[.string x.key, .int .i64 (x.f 0), .int .i64 (x.f 1), .int .i64 (x.f 2), .int .i64 (x.f 3), .int .i64 (x.f 4), .int .i64 (x.f 5), .int .i64 (x.f 6), .int .i64 (x.f 7), .slice x.a x.l.length x.cap]
   have OV : Off (fun _ => False) wr (wr.alloc (.cells #[.string x.key, .int .i64 (x.f 0), .int .i64 (x.f 1), .int .i64 (x.f 2), .int .i64 (x.f 3), .int .i64 (x.f 4), .int .i64 (x.f 5), .int .i64 (x.f 6), .int .i64 (x.f 7), .slice x.a x.l.length x.cap] 40)) := (Off.refl _ wr).alloc _
   clear kx hx
   go_upto_region 5 with fail
   have HNE0 : Hid (∀ k, blk t = some k → k < wr.heap.size) := HOWN.out.lt
   have HNE : Hid (¬ blk t = some wr.heap.size) := fun e => by have := HNE0.out _ e; omega
   generalize hqe : wr.heap.size = qe at CE HNE ⊢
   generalize hve : wr.alloc (.cells #[.string x.key, .int .i64 (x.f 0), .int .i64 (x.f 1), .int .i64 (x.f 2), .int .i64 (x.f 3), .int .i64 (x.f 4), .int .i64 (x.f 5), .int .i64 (x.f 6), .int .i64 (x.f 7), .slice x.a x.l.length x.cap] 40) = V1 at CE OV ⊢
   clear hqe hve k0 k1 k2 k3 k4 k5 k6 k7 k8 k9 hix HNE0
   have HCE : Hid _ := CE
   have HOV : Hid _ := OV
   have HRX : Hid _ := rx.off OV
   clear CE OV rx
   refine wp_region_held_drew (S := Off (fun k => blk t = some k) V1) (by kernel_rfl) ((Off.refl _ V1).drew) (fun hS => ?_)
   refine take_at (i := 0) 12 (v := .slice t gs.length c) rfl rfl (by kernel_rfl) (by kernel_rfl) (by kernel_rfl) (fun _ _ _ h => h) (Or.inl ⟨by rfl, fun w' hw' => by go_simp⟩) hS ?_
   simp only [Act.put, lsA, lsZ, lsS]
   refine take_at (i := 1) 13 (v := .pointer (some ⟨qe, 0, none⟩)) rfl rfl (by kernel_rfl) (by kernel_rfl) (by kernel_rfl) (fun _ _ _ h => h) (Or.inl ⟨by rfl, fun w' hw' => by go_simp⟩) hS ?_
   simp only [Act.put, lsA, lsZ, lsS]
   refine take_at (i := 2) 14 (v := .string x.key) rfl rfl (by kernel_rfl) (by kernel_rfl) (by kernel_rfl) (fun _ _ _ h => h) (Or.inl ⟨by rfl, fun w' hw' => by obtain ⟨y0, y1, y2, y3, y4, y5, y6, y7, y8, y9⟩ := cel10 (HCE.out.off hw' HNE.out); go_simp⟩) hS ?_
   simp only [Act.put, lsA, lsZ, lsS]
   refine take_at (i := 3) 15 (v := .pointer (some ⟨qe, 1, none⟩)) rfl rfl (by kernel_rfl) (by kernel_rfl) (by kernel_rfl) (fun _ _ _ h => h) (Or.inl ⟨by rfl, fun w' hw' => by go_simp⟩) hS ?_
   simp only [Act.put, lsA, lsZ, lsS]
   refine take_at (i := 4) 16 (v := .pointer (some ⟨qe, 1, none⟩)) rfl rfl (by kernel_rfl) (by kernel_rfl) (by kernel_rfl) (fun _ _ _ h => h) (Or.inl ⟨by rfl, fun w' hw' => by go_simp⟩) hS ?_
   simp only [Act.put, lsA, lsZ, lsS]
   refine take_at (i := 5) 17 (v := .agg #[.int .i64 (x.f 0), .int .i64 (x.f 1), .int .i64 (x.f 2), .int .i64 (x.f 3), .int .i64 (x.f 4), .int .i64 (x.f 5), .int .i64 (x.f 6), .int .i64 (x.f 7)]) rfl rfl (by kernel_rfl) (by kernel_rfl) (by kernel_rfl) (fun _ _ _ h => h) (Or.inl ⟨by rfl, fun w' hw' => by obtain ⟨y0, y1, y2, y3, y4, y5, y6, y7, y8, y9⟩ := cel10 (HCE.out.off hw' HNE.out); go_simp⟩) hS ?_
   simp only [Act.put, lsA, lsZ, lsS]
   refine take_at (i := 6) 18 (v := .pointer (some ⟨qe, 1, none⟩)) rfl rfl (by kernel_rfl) (by kernel_rfl) (by kernel_rfl) (fun _ _ _ h => h) (Or.inl ⟨by rfl, fun w' hw' => by go_simp⟩) hS ?_
   simp only [Act.put, lsA, lsZ, lsS]
   refine take_at (i := 7) 19 (v := .agg #[.int .i64 (x.f 0), .int .i64 (x.f 1), .int .i64 (x.f 2), .int .i64 (x.f 3), .int .i64 (x.f 4), .int .i64 (x.f 5), .int .i64 (x.f 6), .int .i64 (x.f 7), .slice x.a x.l.length x.cap]) rfl rfl (by kernel_rfl) (by kernel_rfl) (by kernel_rfl) (fun _ _ _ h => h) (Or.inl ⟨by rfl, fun w' hw' => by obtain ⟨y0, y1, y2, y3, y4, y5, y6, y7, y8, y9⟩ := cel10 (HCE.out.off hw' HNE.out); go_simp⟩) hS ?_
   simp only [Act.put, lsA, lsZ, lsS]
   refine wpAnyH_ready (rs := [8]) (by kernel_rfl) (by simp) ?_
   refine AllReadyH.cons rfl (fun K' hK' => ?_) AllReadyH.nil
   go_simp
   refine (sdots_any x.f x.a x.cap x.l _ (HRX.out.off ((Off.refl _ V1).drew))).mono ?_
   rintro e v1 ⟨ta, ca, dd, rfl, hdo, hdd, o1⟩
   have HDO : Hid _ := hdo
   have HDD : Hid _ := hdd
   have HO1 : Hid (Off (fun _ => False) V1 v1) := (Off.refl _ V1).drew.trans o1 (fun _ _ h => h)
   have hS1 := hS.trans o1 (fun _ _ h => h.elim)
   refine hK'.out _ _ hS1 (fun hS => ?_)
   clear hK' K' hS1 hdo hdd o1
   refine take_at (i := 9) 21 (v := .agg #[.string x.key, .int .i64 (x.f 0), .int .i64 (x.f 1), .int .i64 (x.f 2), .int .i64 (x.f 3), .int .i64 (x.f 4), .int .i64 (x.f 5), .int .i64 (x.f 6), .int .i64 (x.f 7), .slice ta dd.length ca]) rfl rfl (by kernel_rfl) (by kernel_rfl) (by kernel_rfl) (fun _ _ _ h => h) (Or.inl ⟨by rfl, fun w' hw' => by go_simp⟩) hS ?_
   simp only [Act.put, lsA, lsZ, lsS]
   refine wpAnyH_ready (rs := [10]) (by kernel_rfl) (by simp) ?_
   refine AllReadyH.cons rfl (fun K' hK' => ?_) AllReadyH.nil
   go_simp
   have CB := Cel.new v1 27 #[.string x.key, .int .i64 (x.f 0), .int .i64 (x.f 1), .int .i64 (x.f 2), .int .i64 (x.f 3), .int .i64 (x.f 4), .int .i64 (x.f 5), .int .i64 (x.f 6), .int .i64 (x.f 7), .slice ta dd.length ca]
   have OB : Off (fun _ => False) v1 (v1.alloc (.cells #[.string x.key, .int .i64 (x.f 0), .int .i64 (x.f 1), .int .i64 (x.f 2), .int .i64 (x.f 3), .int .i64 (x.f 4), .int .i64 (x.f 5), .int .i64 (x.f 6), .int .i64 (x.f 7), .slice ta dd.length ca] 27)) := (Off.refl _ v1).alloc _
   have hS1 := hS.trans OB (fun _ _ h => h.elim)
   refine hK'.out _ _ hS1 (fun hS => ?_)
   clear hK' K' hS1
   have HSZ : Hid (w.heap.size ≤ v1.heap.size) := by show _ ≤ _; have := (HO.out.trans HOV.out (fun _ _ h => h)).trans HO1.out (fun _ _ h => h); exact this.size
   generalize hqb : v1.heap.size = qb at CB HSZ ⊢
   generalize hvb : v1.alloc (.cells #[.string x.key, .int .i64 (x.f 0), .int .i64 (x.f 1), .int .i64 (x.f 2), .int .i64 (x.f 3), .int .i64 (x.f 4), .int .i64 (x.f 5), .int .i64 (x.f 6), .int .i64 (x.f 7), .slice ta dd.length ca] 27) = v2 at CB OB hS ⊢
   clear hqb hvb
   have HO2 : Hid _ := HO1.out.trans OB (fun _ _ h => h)
   have own2 := HOWN.out.off (HOV.out.trans HO2.out (fun _ _ h => h)) (fun _ _ _ h => h)
   have src2 : ∀ j u, (gcs ⟨x.key, x.f, ta, ca, dd⟩)[j]? = some u → v2.cell? ⟨qb, j, none⟩ = some u := fun j u hj => by
    rw [CB.cell j, ← hj, List.getElem?_toArray]
    rfl
   obtain ⟨t', c', v3, hr, own3, o3, at3⟩ := app_one Try.underlying30 Try.infoG rfl (by decide) (by decide) gcs_len gcs_one own2 src2 (by have := HGN.out; omega) (xc := 1) 30
   refine wpAnyH_ready (rs := [11]) (by kernel_rfl) (by simp) ?_
   refine AllReadyH.cons rfl (fun K' hK' => ?_) AllReadyH.nil
   refine wp_append_if rfl (.tmp 12) (.tmp 22) rfl rfl rfl hr 23 rfl ?_
   simp only [Act.put, lsA, lsZ, lsS]
   have hS1 := hS.trans o3 (fun _ _ h => h)
   refine hK'.out _ _ hS1 (fun hS => ?_)
   clear hK' K' hS1 hr
   have hdn := HDO.out.off OB (fun _ _ _ h => h)
   have HAP : Hid (∀ k, blk ta = some k → ¬ blk t = some k) := fun k h1 h2 => own_apart hdn own2 (by decide) k h1 h2
   have HDO3 : Hid _ := hdn.off o3 (fun k _ h1 h2 => HAP.out k h1 h2)
   have HDS3 : Hid (∀ g ∈ gs, OwnG 81 2 dcs v3 g.a g.cap g.ds) := fun g hg => by
    have h1 := (HDS.out g hg).off (HOV.out.trans HO2.out (fun _ _ h => h)) (fun _ _ _ h => h)
    exact h1.off o3 (fun k _ e1 e2 => own_apart h1 own2 (by decide) k e1 e2)
   have HO3 : Hid (Off (fun _ => False) w v3) := ((HO.out.trans HOV.out (fun _ _ h => h)).trans HO2.out (fun _ _ h => h)).trans o3 (fun i hi e => by have := HNW.out i e; omega)
   have HNW3 : Hid (∀ k, blk t' = some k → w.heap.size ≤ k) := fun k hk => by
    rcases at3 with e | e
    ·exact HNW.out k (e ▸ hk)
    ·rw [e] at hk
     have h1 := HO2.out.size
     have h2 := (HO.out.trans HOV.out (fun _ _ h => h)).size
     simp at hk
     omega
   have HOW3 : Hid _ := own3
   generalize hys : gs ++ [(⟨x.key, x.f, ta, ca, dd⟩ : G)] = ys at HOW3 ⊢
   have HYS : Hid _ := hys
   clear own2 src2 own3 o3 at3 hdn OB CB hys
   refine take_at (i := 12) 3 (v := .slice t' ys.length c') rfl rfl (by kernel_rfl) (by kernel_rfl) (by kernel_rfl) (fun _ _ _ h => h) (Or.inl ⟨by rfl, fun w' hw' => by go_simp⟩) hS ?_
   simp only [Act.put, lsA, lsZ, lsS]
   refine wpAnyH_done (by kernel_rfl) ?_ _
   go_wp2_with fail
   go_roundw
   case rel =>
    refine ⟨n + 1, t', c', ys, rfl, by go_num, by omega, ?_, HOW3.out, fun g hg => ?_, HNW3.out, ?_, HO3.out⟩
    ·rw [← HYS.out, List.length_append, HGN.out]; rfl
    ·rw [← HYS.out, List.mem_append, List.mem_singleton] at hg
     rcases hg with hg | rfl
     ·exact HDS3.out g hg
     ·exact HDO3.out
    ·have ht : es.take (n + 1) = es.take n ++ [x] := by rw [List.take_add_one, HX.out]; rfl
     rw [← HYS.out, ht, List.map_append, List.map_append, HDA.out]
     simp only [List.map_cons, List.map_nil, G.abs, ofE, HDD.out]
   case measure => simp [intOf]; omega
  ·obtain rfl : n = es.length := by omega
   have e1 : decide ((es.length : Int) < (es.length : Int)) = false := decide_eq_false (by omega)
   have e2 : decide (es.length < es.length) = false := decide_eq_false (by omega)
   go_wp2_with fail
   go_ret
   exact ⟨t, c, gs, rfl, HOWN.out, HDS.out, by rw [HDA.out, List.take_length], HO.out⟩
end Go.Proofs.Ytpnnpdfmoldiiaa
