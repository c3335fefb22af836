/- Items of several texts. -/
import Derived.Deep.RegionHeld
import Derived.Test.YtpnnpdfmoldiiaaQArg13
import Derived.Test.YtpnnpdfmoldiiaaQSms
import Derived.Test.YtpnnpdfmoldiiaaQLaw13
import Derived.Test.YtpnnpdfmoldiiaaQGrP
import Derived.Test.YtpnnpdfmoldiiaaQRefJ
import Derived.Test.YtpnnpdfmoldiiaaQAgr
namespace Go.Proofs.Ytpnnpdfmoldiiaa
set_option maxRecDepth 100000
open Go.RowKit
theorem ens_none (w : World) : Ens w none 0 [] := ⟨by simp, by omega, fun i e h => by simp at h⟩
def cntE (es : List E) : Nat := (es.map fun e => e.l.length).sum
theorem cntE_step {es : List E} {n : Nat} {x : E} (h : es[n]? = some x) : cntE (es.take (n + 1)) = cntE (es.take n) + x.l.length := by
 unfold cntE
 rw [List.take_add_one, h]
 simp
theorem cntE_take (es : List E) (n : Nat) : cntE (es.take n) ≤ cntE es := by
 have : cntE es = cntE (es.take n) + cntE (es.drop n) := by
  unfold cntE
  rw [← List.sum_append, ← List.map_append, List.take_append_drop]
 omega
theorem cntE_le {es : List E} (h : light13 es = true) : cntE es ≤ 800 := by
 obtain ⟨h1, h2⟩ := light13_iff.1 h
 have h3 := sum_le (es.map fun e => e.l.length) 20 (fun y hy => by
  obtain ⟨x, hx, rfl⟩ := List.mem_map.1 hy
  exact (h2 x hx).1)
 rw [List.length_map] at h3
 unfold cntE
 omega
theorem cntE_flat (es : List E) : (es.flatMap fun e => cont e.l).length = cntE es := by
 unfold cntE
 rw [List.length_flatMap]
 congr 1
 exact List.map_congr_left (fun e _ => cont_len e.l)
theorem agr_none {ys : List E} {k : ByteArray} {z : E} (h : getE ys k = z) (hf : (fndG E.key k ys).isSome = false) {l : List A} : Agr l (cont z.l) := by
 have : fndG E.key k ys = none := by simpa using hf
 unfold getE at h
 rw [this] at h
 rw [← h]
 exact ⟨fun x _ y hy => by simp [zE, cont] at hy⟩
theorem agr_step {xs ys : List E} {n : Nat} (h : ∀ i x, i < n → xs[i]? = some x → Agr (cont x.l) (cont (getE ys x.key).l)) {x : E} (hx : xs[n]? = some x) (ha : Agr (cont x.l) (cont (getE ys x.key).l)) : ∀ i x, i < n + 1 → xs[i]? = some x → Agr (cont x.l) (cont (getE ys x.key).l) := by
 intro i y hi hy
 by_cases e : i = n
 ·subst e
  rw [hx] at hy
  obtain rfl := Option.some.inj hy
  exact ha
 ·exact h i y (by omega) hy
structure GoodE (es : List E) : Prop where
 nrm : ∀ e ∈ es, Nrm e.f
 may : mayEs es = true
 len : es.length ≤ 40
theorem good_gd {U : List A} (hU : U.length ≤ 16) {es : List E} (h : GoodE es) (hin : ∀ e ∈ es, ∀ v ∈ cont e.l, v ∈ U) : Gd U (joins [] es) ∧ (joins [] es).length ≤ 40 := by
 rw [joins_k]
 have := gd_kjos hU (absE es) [] ⟨List.Pairwise.nil, okT_nil, fun x hx => by simp at hx⟩ (fun s hs => by
  obtain ⟨e, he, rfl⟩ := List.mem_map.1 hs
  have hm := List.all_eq_true.1 h.may e he
  unfold mayE at hm
  rw [Bool.and_eq_true] at hm
  exact ⟨okv_of (may_iff.1 hm.2) hm.1, ⟨may_iff.1 hm.2, h.nrm e he, hin e he⟩⟩) (by rw [absE_len]; have := h.len; simp; omega)
 refine ⟨this.1, ?_⟩
 have h2 := this.2
 rw [absE_len] at h2
 have := h.len
 simp at h2
 omega
theorem grow_end {ea eb xs ys : List E} (ga : GoodE ea) (gb : GoodE eb) (_ : ea.length ≤ 40) (_ : eb.length ≤ 40) (hn : cntE ea + cntE eb ≤ 16) (hx : absE xs = joins [] ea) (hy : absE ys = joins [] eb) (ha : ∀ (i : Nat) (x : E), xs[i]? = some x → Agr (cont x.l) (cont (getE ys x.key).l)) :
  (((((absE xs).filter (lkK (absE ys))).foldl kjo (absE ys)).filter (lkK (absE xs))).foldl kjo (absE xs)) = ((absE xs).filter (lkK (absE ys))).foldl kjo (absE ys) := by
 obtain ⟨U, hUd⟩ : ∃ U, U = (ea.flatMap fun e => cont e.l) ++ (eb.flatMap fun e => cont e.l) := ⟨_, rfl⟩
 have hU : U.length ≤ 16 := by rw [hUd, List.length_append, cntE_flat, cntE_flat]; exact hn
 obtain ⟨g1, l1⟩ := good_gd hU ga (fun e he v hv => by rw [hUd]; exact List.mem_append_left _ (List.mem_flatMap.2 ⟨e, he, hv⟩))
 obtain ⟨g2, l2⟩ := good_gd hU gb (fun e he v hv => by rw [hUd]; exact List.mem_append_right _ (List.mem_flatMap.2 ⟨e, he, hv⟩))
 rw [← hx] at g1 l1
 rw [← hy] at g2 l2
 refine both_ways hU g1 g2 (fun k => ?_) (by omega) (by omega)
 cases hf : fndG K.key k (absE xs) with
 | none => rw [getK_none hf]; exact ⟨fun x hx => by simp at hx⟩
 | some z =>
  obtain ⟨hz, hk⟩ := fnd_mem K.key hf
  obtain ⟨x, hxm, rfl⟩ := List.mem_map.1 hz
  obtain ⟨i, hi⟩ := List.getElem?_of_mem hxm
  have h := ha i x hi
  have hk' : x.key = k := hk
  rw [getK_some hf, ← getE_abs]
  rw [hk'] at h
  exact h
set_option maxHeartbeats 8000000 in
theorem grows_nrm (aa : Option Addr) (ca : Nat) (ea : List E) (ab : Option Addr) (cb : Nat) (eb : List E) (w : World) (hA : Ens w aa ca ea) (hB : Ens w ab cb eb) (hna : ∀ e ∈ ea, Nrm e.f) (hnb : ∀ e ∈ eb, Nrm e.f) :
  Calls Try.prog 7 #[.slice aa ea.length ca, .slice ab eb.length cb] w fun e w' => e = .returned (.bool true) ∧ Off (fun _ => False) w w' := by
 have HA : Hid _ := hA
 have HB : Hid _ := hB
 have HNA : Hid _ := hna
 have HNB : Hid _ := hnb
 have hnot := not_any
 clear hA hB hna hnb
 go_enter Try.func7, Try.ntmps7
 go_wp2_with fail
 refine (light_any aa ca ea _ HA.out).mono ?_
 rintro e w1 ⟨rfl, o1⟩
 have Hw1 : Hid _ := o1
 clear o1
 cases hg : light13 ea
 ·go_wp2_with fail
  refine (awake_any _).mono ?_
  rintro e ua ⟨rfl, oa⟩
  go_wp2_with fail
  go_ret
  exact ⟨rfl, Hw1.out.trans oa (fun _ _ h => h)⟩
 have HCea : Hid (cntE ea ≤ 800) := cntE_le hg
 have HLA : Hid (ea.length ≤ 40) := (light13_iff.1 hg).1
 clear hg
 go_wp2_with fail
 refine (light_any ab cb eb _ (HB.out.off Hw1.out)).mono ?_
 rintro e w2 ⟨rfl, o1⟩
 have Hw2 : Hid _ := Hw1.out.trans o1 (fun _ _ h => h)
 clear o1
 cases hg : light13 eb
 ·go_wp2_with fail
  refine (awake_any _).mono ?_
  rintro e ua ⟨rfl, oa⟩
  go_wp2_with fail
  go_ret
  exact ⟨rfl, Hw2.out.trans oa (fun _ _ h => h)⟩
 have HCeb : Hid (cntE eb ≤ 800) := cntE_le hg
 have HLB : Hid (eb.length ≤ 40) := (light13_iff.1 hg).1
 clear hg
 go_wp2_with fail
 refine (lmay_any aa ca ea _ (HA.out.off Hw2.out)).mono ?_
 rintro e w3 ⟨rfl, o1⟩
 have Hw3 : Hid _ := Hw2.out.trans o1 (fun _ _ h => h)
 clear o1
 cases hg : mayEs ea
 ·go_wp2_with fail
  refine (awake_any _).mono ?_
  rintro e ua ⟨rfl, oa⟩
  go_wp2_with fail
  go_ret
  exact ⟨rfl, Hw3.out.trans oa (fun _ _ h => h)⟩
 have HGA : Hid (GoodE ea) := ⟨HNA.out, hg, HLA.out⟩
 clear hg
 go_wp2_with fail
 refine (lmay_any ab cb eb _ (HB.out.off Hw3.out)).mono ?_
 rintro e w4 ⟨rfl, o1⟩
 have Hw4 : Hid _ := Hw3.out.trans o1 (fun _ _ h => h)
 clear o1
 cases hg : mayEs eb
 ·go_wp2_with fail
  refine (awake_any _).mono ?_
  rintro e ua ⟨rfl, oa⟩
  go_wp2_with fail
  go_ret
  exact ⟨rfl, Hw4.out.trans oa (fun _ _ h => h)⟩
 have HGB : Hid (GoodE eb) := ⟨HNB.out, hg, HLB.out⟩
 clear hg
 have hla : ea.length ≤ 40 := HLA.out
 have hlb : eb.length ≤ 40 := HLB.out
 go_upto_region 4 with fail
 have CT5 := (Cel.new w4 73 #[.slice none 0 0]).alloc (.cells #[.slice none 0 0] 73)
 have CT6 := Cel.new1 w4 (.cells #[.slice none 0 0] 73) 73 #[.slice none 0 0]
 have OT : Off (fun _ => False) w4 ((w4.alloc (.cells #[.slice none 0 0] 73)).alloc (.cells #[.slice none 0 0] 73)) := ((Off.refl _ w4).alloc _).alloc _
 have HQ5 : Hid (w.heap.size ≤ w4.heap.size) := Hw4.out.size
 have HQ6 : Hid (w.heap.size ≤ w4.heap.size + 1) := Nat.le_succ_of_le Hw4.out.size
 have HNE : Hid (w4.heap.size ≠ w4.heap.size + 1) := by show _ ≠ _; omega
 generalize hv : (w4.alloc (.cells #[.slice none 0 0] 73)).alloc (.cells #[.slice none 0 0] 73) = V at CT5 CT6 OT ⊢
 generalize hq6 : w4.heap.size + 1 = q6 at CT6 HQ6 HNE ⊢
 generalize hq5 : w4.heap.size = q5 at CT5 HQ5 HNE ⊢
 clear hv hq5 hq6
 have HT50 : Hid (RTab q5 [] V) := ⟨⟨none, 0, CT5, ens_none V, fun _ => rfl⟩, List.Pairwise.nil, by simp⟩
 have HT60 : Hid (RTab q6 [] V) := ⟨⟨none, 0, CT6, ens_none V, fun _ => rfl⟩, List.Pairwise.nil, by simp⟩
 have HO0 : Hid _ := Hw4.out.trans OT (fun _ _ h => h)
 clear CT5 CT6 OT Hw1 Hw2 Hw3 Hw4 HNA HNB
 go_wp2_with fail
 go_loopw [7, 45] (fun s7 y wr => ∃ (n : Nat) (xs : List E), s7 = .int .i64 (cntE (ea.take n) : Nat) ∧ y = .int .i64 (n : Int) ∧ n ≤ ea.length ∧ RTab q5 xs wr ∧ RTab q6 [] wr ∧ absE xs = joins [] (ea.take n) ∧ Off (fun _ => False) w wr) (fun _ y _ => (ea.length - intOf y).toNat)
 case atStart => exact ⟨0, [], rfl, rfl, by omega, HT50.out, HT60.out, rfl, HO0.out⟩
 case round =>
  obtain ⟨n, xs, rfl, rfl, hn, t5, t6, hxs, O⟩ := hrel
  have HT5 : Hid _ := t5
  have HT6 : Hid _ := t6
  have HXS : Hid _ := hxs
  have HO : Hid _ := O
  have hcn : cntE (ea.take n) ≤ 800 := Nat.le_trans (cntE_take _ _) HCea.out
  clear t5 t6 hxs O HT50 HT60 HO0
  by_cases hlt : n < ea.length
  ·have e1 : decide ((n : Int) < (ea.length : Int)) = true := decide_eq_true (by omega)
   have e2 : decide (n < ea.length) = true := decide_eq_true hlt
   obtain ⟨x, hx⟩ : ∃ x, ea[n]? = some x := ⟨_, List.getElem?_eq_getElem hlt⟩
   obtain ⟨bx, ox, e9, kx, rx⟩ := (HA.out.off HO.out).at_ n x hx
   subst e9
   have HBQ : Hid (wr.heap.size ≠ q5) := by
    have := HT5.out.lt
    show _ ≠ _
    omega
   obtain ⟨k0, k1, k2, k3, k4, k5, k6, k7, k8, k9⟩ := ent10 kx
   have hix := idx_ents hlt
   clear kx
   go_upto_region 8 with fail
   have C9 := Cel.new wr 40 #[.string x.key, .int .i64 (x.f 0), .int .i64 (x.f 1), .int .i64 (x.f 2), .int .i64 (x.f 3), .int .i64 (x.f 4), .int .i64 (x.f 5), .int .i64 (x.f 6), .int .i64 (x.f 7), .slice x.a x.l.length x.cap]
   have OA : Off (fun _ => False) wr (wr.alloc (.cells #[.string x.key, .int .i64 (x.f 0), .int .i64 (x.f 1), .int .i64 (x.f 2), .int .i64 (x.f 3), .int .i64 (x.f 4), .int .i64 (x.f 5), .int .i64 (x.f 6), .int .i64 (x.f 7), .slice x.a x.l.length x.cap] 40)) := (Off.refl _ wr).alloc _
   generalize hq : wr.heap.size = q9 at C9 HBQ ⊢
   generalize hv : wr.alloc (.cells #[.string x.key, .int .i64 (x.f 0), .int .i64 (x.f 1), .int .i64 (x.f 2), .int .i64 (x.f 3), .int .i64 (x.f 4), .int .i64 (x.f 5), .int .i64 (x.f 6), .int .i64 (x.f 7), .slice x.a x.l.length x.cap] 40) = V4 at C9 OA ⊢
   clear hq hv k0 k1 k2 k3 k4 k5 k6 k7 k8 k9 hix
   have HC9 : Hid _ := C9
   obtain ⟨y0, y1, y2, y3, y4, y5, y6, y7, y8, y9⟩ := cel10 C9
   clear C9
   have HOA : Hid _ := HO.out.trans OA (fun _ _ h => h)
   have HRX : Hid _ := rx.off OA
   have HT5a : Hid _ := HT5.out.free OA
   have HT6a : Hid _ := HT6.out.free OA
   have HOA2 : Hid _ := OA
   clear OA rx
   go_wp2_with fail
   clear y0 y1 y2 y3 y4 y5 y6 y7 y8 y9
   refine (rjoin_any q5 xs x.key x.f x.a x.cap x.l _ HT5a.out HRX.out).mono ?_
   rintro e w1 ⟨g9, a9, c9, l9, sm, er, xs', rfl, hj, -, ht', o1⟩
   have HTm : Hid _ := ht'
   have HTo : Hid _ := HT6a.out.off o1 HNE.out.symm HT5a.out.noI
   have HXn : Hid (absE xs' = joins [] (ea.take (n + 1))) := by
    show _ = _
    rw [joins_step [] hx, ← HXS.out]
    unfold jo
    rw [hj]
   have HO1 : Hid (Off (fun _ => False) w w1) := HOA.out.trans o1 (fun k hk e => absurd hk (by have := HQ5.out; omega))
   have HC91 : Hid _ := HC9.out.off o1 HBQ.out
   have HW1 : Hid (Off (fun c => c = q5) wr w1) := (HOA2.out.mono (fun _ _ h => h.elim)).trans o1 (fun _ _ h => h)
   clear ht' hj o1
   have HCN : Hid (cntE (ea.take (n + 1)) = cntE (ea.take n) + x.l.length) := cntE_step hx
   have hc1 : cntE (ea.take (n + 1)) ≤ 800 := Nat.le_trans (cntE_take _ _) HCea.out
   rw [HCN.out] at hc1
   have c9 : w1.cell? ⟨q9, 9, none⟩ = some (.slice x.a x.l.length x.cap) := HC91.out.cell 9
   have hxl : x.l.length ≤ 800 := by omega
   clear hx
   go_wp2_with fail
   go_roundw
   case rel => exact ⟨n + 1, xs', by rw [HCN.out]; go_num, by go_num, by omega, HTm.out, HTo.out, HXn.out, HO1.out⟩
   case measure => simp [intOf]; omega
  ·obtain rfl : n = ea.length := by omega
   have e1 : decide ((ea.length : Int) < (ea.length : Int)) = false := decide_eq_false (by omega)
   have e2 : decide (ea.length < ea.length) = false := decide_eq_false (by omega)
   clear hlt
   rw [List.take_length]
   rw [joins_all] at HXS
   have HXX : Hid _ := HXS.out
   clear HXS
   go_wp2_with fail
   go_loopw [7, 61] (fun s7 y wr => ∃ (n : Nat) (ys : List E), s7 = .int .i64 (cntE ea + cntE (eb.take n) : Nat) ∧ y = .int .i64 (n : Int) ∧ n ≤ eb.length ∧ RTab q5 xs wr ∧ RTab q6 ys wr ∧ absE ys = joins [] (eb.take n) ∧ Off (fun _ => False) w wr) (fun _ y _ => (eb.length - intOf y).toNat)
   case atStart => exact ⟨0, [], rfl, rfl, by omega, HT5.out, HT6.out, rfl, HO.out⟩
   case round =>
    obtain ⟨n, ys, rfl, rfl, hn, t5, t6, hxs, O⟩ := hrel
    have HT5 : Hid _ := t5
    have HT6 : Hid _ := t6
    have HXS : Hid _ := hxs
    have HO : Hid _ := O
    have hcn : cntE (eb.take n) ≤ 800 := Nat.le_trans (cntE_take _ _) HCeb.out
    have hca : cntE ea ≤ 800 := HCea.out
    clear t5 t6 hxs O
    by_cases hlt : n < eb.length
    ·have e1 : decide ((n : Int) < (eb.length : Int)) = true := decide_eq_true (by omega)
     have e2 : decide (n < eb.length) = true := decide_eq_true hlt
     obtain ⟨x, hx⟩ : ∃ x, eb[n]? = some x := ⟨_, List.getElem?_eq_getElem hlt⟩
     obtain ⟨bx, ox, e9, kx, rx⟩ := (HB.out.off HO.out).at_ n x hx
     subst e9
     have HBQ : Hid (wr.heap.size ≠ q6) := by
      have := HT6.out.lt
      show _ ≠ _
      omega
     obtain ⟨k0, k1, k2, k3, k4, k5, k6, k7, k8, k9⟩ := ent10 kx
     have hix := idx_ents hlt
     clear kx
     go_upto_region 14 with fail
     have C9 := Cel.new wr 40 #[.string x.key, .int .i64 (x.f 0), .int .i64 (x.f 1), .int .i64 (x.f 2), .int .i64 (x.f 3), .int .i64 (x.f 4), .int .i64 (x.f 5), .int .i64 (x.f 6), .int .i64 (x.f 7), .slice x.a x.l.length x.cap]
     have OA : Off (fun _ => False) wr (wr.alloc (.cells #[.string x.key, .int .i64 (x.f 0), .int .i64 (x.f 1), .int .i64 (x.f 2), .int .i64 (x.f 3), .int .i64 (x.f 4), .int .i64 (x.f 5), .int .i64 (x.f 6), .int .i64 (x.f 7), .slice x.a x.l.length x.cap] 40)) := (Off.refl _ wr).alloc _
     generalize hq : wr.heap.size = q9 at C9 HBQ ⊢
     generalize hv : wr.alloc (.cells #[.string x.key, .int .i64 (x.f 0), .int .i64 (x.f 1), .int .i64 (x.f 2), .int .i64 (x.f 3), .int .i64 (x.f 4), .int .i64 (x.f 5), .int .i64 (x.f 6), .int .i64 (x.f 7), .slice x.a x.l.length x.cap] 40) = V4 at C9 OA ⊢
     clear hq hv k0 k1 k2 k3 k4 k5 k6 k7 k8 k9 hix
     have HC9 : Hid _ := C9
     obtain ⟨y0, y1, y2, y3, y4, y5, y6, y7, y8, y9⟩ := cel10 C9
     clear C9
     have HOA : Hid _ := HO.out.trans OA (fun _ _ h => h)
     have HRX : Hid _ := rx.off OA
     have HT5a : Hid _ := HT5.out.free OA
     have HT6a : Hid _ := HT6.out.free OA
     have HOA2 : Hid _ := OA
     clear OA rx
     go_wp2_with fail
     clear y0 y1 y2 y3 y4 y5 y6 y7 y8 y9
     refine (rjoin_any q6 ys x.key x.f x.a x.cap x.l _ HT6a.out HRX.out).mono ?_
     rintro e w1 ⟨g9, a9, c9, l9, sm, er, xs', rfl, hj, -, ht', o1⟩
     have HTm : Hid _ := ht'
     have HTo : Hid _ := HT5a.out.off o1 HNE.out HT6a.out.noI
     have HXn : Hid (absE xs' = joins [] (eb.take (n + 1))) := by
      show _ = _
      rw [joins_step [] hx, ← HXS.out]
      unfold jo
      rw [hj]
     have HO1 : Hid (Off (fun _ => False) w w1) := HOA.out.trans o1 (fun k hk e => absurd hk (by have := HQ6.out; omega))
     have HC91 : Hid _ := HC9.out.off o1 HBQ.out
     have HW1 : Hid (Off (fun c => c = q6) wr w1) := (HOA2.out.mono (fun _ _ h => h.elim)).trans o1 (fun _ _ h => h)
     clear ht' hj o1
     have HCN : Hid (cntE (eb.take (n + 1)) = cntE (eb.take n) + x.l.length) := cntE_step hx
     have hc1 : cntE (eb.take (n + 1)) ≤ 800 := Nat.le_trans (cntE_take _ _) HCeb.out
     rw [HCN.out] at hc1
     have c9 : w1.cell? ⟨q9, 9, none⟩ = some (.slice x.a x.l.length x.cap) := HC91.out.cell 9
     have hxl : x.l.length ≤ 800 := by omega
     clear hx
     go_wp2_with fail
     go_roundw
     case rel => exact ⟨n + 1, xs', by rw [HCN.out]; go_num, by go_num, by omega, HTo.out, HTm.out, HXn.out, HO1.out⟩
     case measure => simp [intOf]; omega
    ·obtain rfl : n = eb.length := by omega
     have e1 : decide ((eb.length : Int) < (eb.length : Int)) = false := decide_eq_false (by omega)
     have e2 : decide (eb.length < eb.length) = false := decide_eq_false (by omega)
     clear hlt
     rw [List.take_length]
     obtain ⟨nn, hnn⟩ : ∃ nn, cntE ea + cntE eb = nn := ⟨_, rfl⟩
     rw [hnn]
     have HNN : Hid _ := hnn
     have hnl : nn ≤ 1600 := by have h1 := HCea.out; have h2 := HCeb.out; omega
     clear hnn hcn hca
     rw [joins_all] at HXS
     have HYY : Hid _ := HXS.out
     clear HXS
     obtain ⟨ta0, tc0, ct5, en5, -⟩ := HT5.out.is
     have HEX : Hid _ := en5
     have HCX : Hid (xs.length ≤ 256) := HT5.out.few
     have hxs9 : xs.length ≤ 256 := HT5.out.few
     have z0 : wr.cell? ⟨q5, 0, none⟩ = some (.slice ta0 xs.length tc0) := ct5.cell 0
     obtain ⟨v3, hv3⟩ : ∃ v3, v3 = wr := ⟨_, rfl⟩
     rw [← hv3] at HT5 HT6 HO HEX z0 ⊢
     clear hv3 ct5 en5
     go_wp2_with fail
     clear z0
     go_loopw [80] (fun y wr => ∃ n : Nat, y = .int .i64 (n : Int) ∧ n ≤ xs.length ∧ (∀ i x, i < n → xs[i]? = some x → Agr (cont x.l) (cont (getE ys x.key).l)) ∧ Off (fun _ => False) v3 wr) (fun y _ => (xs.length - intOf y).toNat)
     case atStart => exact ⟨0, rfl, by omega, fun i x h => by omega, Off.refl _ _⟩
     case round =>
      obtain ⟨n, rfl, hn, hag, O⟩ := hrel
      have HAGN : Hid _ := hag
      have HP : Hid _ := O
      clear hag O
      by_cases hlt : n < xs.length
      ·have e1 : decide ((n : Int) < (xs.length : Int)) = true := decide_eq_true (by omega)
       have e2 : decide (n < xs.length) = true := decide_eq_true hlt
       obtain ⟨x, hx⟩ : ∃ x, xs[n]? = some x := ⟨_, List.getElem?_eq_getElem hlt⟩
       obtain ⟨bx, ox, e9, kx, rx⟩ := (HEX.out.off HP.out).at_ n x hx
       subst e9
       have HXI : Hid _ := hx
       clear hx
       obtain ⟨k0, k1, k2, k3, k4, k5, k6, k7, k8, k9⟩ := ent10 kx
       have hix := idx_ents hlt
       clear kx
       go_upto_region 20 with fail
       have C9 := Cel.new wr 40 #[.string x.key, .int .i64 (x.f 0), .int .i64 (x.f 1), .int .i64 (x.f 2), .int .i64 (x.f 3), .int .i64 (x.f 4), .int .i64 (x.f 5), .int .i64 (x.f 6), .int .i64 (x.f 7), .slice x.a x.l.length x.cap]
       have OA : Off (fun _ => False) wr (wr.alloc (.cells #[.string x.key, .int .i64 (x.f 0), .int .i64 (x.f 1), .int .i64 (x.f 2), .int .i64 (x.f 3), .int .i64 (x.f 4), .int .i64 (x.f 5), .int .i64 (x.f 6), .int .i64 (x.f 7), .slice x.a x.l.length x.cap] 40)) := (Off.refl _ wr).alloc _
       generalize hq : wr.heap.size = q13 at C9 ⊢
       generalize hv : wr.alloc (.cells #[.string x.key, .int .i64 (x.f 0), .int .i64 (x.f 1), .int .i64 (x.f 2), .int .i64 (x.f 3), .int .i64 (x.f 4), .int .i64 (x.f 5), .int .i64 (x.f 6), .int .i64 (x.f 7), .slice x.a x.l.length x.cap] 40) = V9 at C9 OA ⊢
       clear hq hv k0 k1 k2 k3 k4 k5 k6 k7 k8 k9 hix
       have HC9 : Hid _ := C9
       obtain ⟨y0, y1, y2, y3, y4, y5, y6, y7, y8, y9⟩ := cel10 C9
       clear C9
       have HP9 : Hid _ := HP.out.trans OA (fun _ _ h => h)
       have HRX9 : Hid _ := rx.off OA
       clear OA rx
       go_wp2_with fail
       clear y0 y1 y2 y3 y4 y5 y6 y7 y8 y9
       refine (rget_any q6 ys x.key _ (HT6.out.free HP9.out)).mono ?_
       rintro e w6 ⟨rfl, rw6, o6⟩
       have HO6 : Hid _ := o6
       have HR6 : Hid _ := rw6
       have HP6 : Hid _ := HP9.out.trans o6 (fun _ _ h => h)
       obtain ⟨z, hz⟩ : ∃ z, getE ys x.key = z := ⟨_, rfl⟩
       have HZZ : Hid _ := hz
       rw [hz] at HR6 ⊢
       clear hz o6 rw6
       have C14 := Cel.new w6 38 #[.int .i64 (z.f 0), .int .i64 (z.f 1), .int .i64 (z.f 2), .int .i64 (z.f 3), .int .i64 (z.f 4), .int .i64 (z.f 5), .int .i64 (z.f 6), .int .i64 (z.f 7), .slice z.a z.l.length z.cap]
       have OA6 : Off (fun _ => False) w6 (w6.alloc (.cells #[.int .i64 (z.f 0), .int .i64 (z.f 1), .int .i64 (z.f 2), .int .i64 (z.f 3), .int .i64 (z.f 4), .int .i64 (z.f 5), .int .i64 (z.f 6), .int .i64 (z.f 7), .slice z.a z.l.length z.cap] 38)) := (Off.refl _ w6).alloc _
       cases hfn : (fndG E.key x.key ys).isSome
       ·have HAX : Hid (Agr (cont x.l) (cont z.l)) := agr_none HZZ.out hfn
        clear hfn C14
        have HP7 : Hid _ := HP6.out.trans OA6 (fun _ _ h => h)
        clear OA6
        go_wp2_with fail
        go_roundw
        case rel => exact ⟨n + 1, by go_num, by omega, agr_step HAGN.out HXI.out (by rw [HZZ.out]; exact HAX.out), HP7.out⟩
        case measure => simp [intOf]; omega
       ·clear hfn
        go_upto_region 21 with fail
        generalize hq : w6.heap.size = q14 at C14 ⊢
        generalize hv : w6.alloc (.cells #[.int .i64 (z.f 0), .int .i64 (z.f 1), .int .i64 (z.f 2), .int .i64 (z.f 3), .int .i64 (z.f 4), .int .i64 (z.f 5), .int .i64 (z.f 6), .int .i64 (z.f 7), .slice z.a z.l.length z.cap] 38) = V6 at C14 OA6 ⊢
        clear hq hv
        have HP6b : Hid _ := HP6.out.trans OA6 (fun _ _ h => h)
        have HRZ : Hid _ := HR6.out.off OA6
        obtain ⟨z0, z1, z2, z3, z4, z5, z6, z7, z8⟩ := cel9 C14
        have C13b := HC9.out.off (HO6.out.trans OA6 (fun _ _ h => h)) (fun h => h)
        obtain ⟨y0, y1, y2, y3, y4, y5, y6, y7, y8, y9⟩ := cel10 C13b
        have HRX6 : Hid _ := HRX9.out.off (HO6.out.trans OA6 (fun _ _ h => h))
        clear OA6 C14 C13b HR6
        go_wp2_with fail
        clear y0 y1 y2 y3 y4 y5 y6 y7 y8 y9 z0 z1 z2 z3 z4 z5 z6 z7 z8
        refine (agree_any x.f z.f x.a z.a x.cap z.cap x.l z.l _ HRX6.out HRZ.out).mono ?_
        rintro e V7 ⟨r, rfl, hag, o7⟩
        have HP7 : Hid _ := HP6b.out.trans o7 (fun _ _ h => h)
        have HAR : Hid _ := hag
        clear o7 hag
        cases r
        ·have HZ : Hid _ := HO.out.trans HP7.out (fun _ _ h => h)
         go_wp2_with fail
         refine (awake_any _).mono ?_
         rintro e ua ⟨rfl, oa⟩
         go_wp2_with fail
         go_ret
         exact ⟨rfl, HZ.out.trans oa (fun _ _ h => h)⟩
        ·have HAX : Hid (Agr (cont x.l) (cont z.l)) := HAR.out rfl
         clear HAR
         go_wp2_with fail
         go_roundw
         case rel => exact ⟨n + 1, by go_num, by omega, agr_step HAGN.out HXI.out (by rw [HZZ.out]; exact HAX.out), HP7.out⟩
         case measure => simp [intOf]; omega
      ·obtain rfl : n = xs.length := by omega
       have e1 : decide ((xs.length : Int) < (xs.length : Int)) = false := decide_eq_false (by omega)
       have e2 : decide (xs.length < xs.length) = false := decide_eq_false (by omega)
       clear hlt
       have HAG : Hid (∀ (i : Nat) (x : E), xs[i]? = some x → Agr (cont x.l) (cont (getE ys x.key).l)) := fun i x hx => HAGN.out i x (by obtain ⟨h, -⟩ := List.getElem?_eq_some_iff.1 hx; exact h) hx
       by_cases h16 : nn ≤ 16
       case neg =>
        have g1 : decide ((nn : Int) > 16) = true := decide_eq_true (by omega)
        have g2 : decide ((16 : Int) < (nn : Int)) = true := decide_eq_true (by omega)
        have g4 : decide (16 < nn) = true := decide_eq_true (by omega)
        have HZ : Hid _ := HO.out.trans HP.out (fun _ _ h => h)
        go_wp2_with fail
        refine (awake_any _).mono ?_
        rintro e ua ⟨rfl, oa⟩
        go_wp2_with fail
        go_ret
        exact ⟨rfl, HZ.out.trans oa (fun _ _ h => h)⟩
       case pos =>
        have g1 : decide ((nn : Int) > 16) = false := decide_eq_false (by omega)
        have g2 : decide ((16 : Int) < (nn : Int)) = false := decide_eq_false (by omega)
        have g4 : decide (16 < nn) = false := decide_eq_false (by omega)
        have H16 : Hid (cntE ea + cntE eb ≤ 16) := by show _ ≤ _; rw [HNN.out]; exact h16
        have HBW0 : Hid _ := grow_end HGA.out HGB.out HLA.out HLB.out H16.out HXX.out HYY.out HAG.out
        have HOK5 : Hid (OkT (absE xs)) := by
         show OkT _
         rw [HXX.out]
         exact okT_joins okT_nil _
        have HOK6 : Hid (OkT (absE ys)) := by
         show OkT _
         rw [HYY.out]
         exact okT_joins okT_nil _
        have HT5b : Hid _ := HT5.out.free HP.out
        have HT6b : Hid _ := HT6.out.free HP.out
        have HOb : Hid _ := HO.out.trans HP.out (fun _ _ h => h)
        clear HT5 HT6 HO HAGN HAG HP h16 HCX HEX
        have HT5 : Hid _ := HT5b.out
        have HT6 : Hid _ := HT6b.out
        have HO : Hid _ := HOb.out
        clear HT5b HT6b HOb
        obtain ⟨ta, tc, ct5, en5, -⟩ := HT5.out.is
        obtain ⟨tb, td, ct6, en6, -⟩ := HT6.out.is
        have HC5 : Hid _ := ct5
        have HC6 : Hid _ := ct6
        have HN5 : Hid _ := en5
        have HN6 : Hid _ := en6
        have HF5 : Hid (xs.length ≤ 256) := HT5.out.few
        have HF6 : Hid (ys.length ≤ 256) := HT6.out.few
        clear ct5 ct6 en5 en6
        go_upto_region 26 with fail
        clear g1 g2 g4
        refine wp_region_held_drew (S := Off (fun _ => False) wr) (by kernel_rfl) ((Off.refl _ wr).drew) (fun hS => ?_)
        refine take_at (i := 0) 104 (v := .pointer (some ⟨q5, 0, none⟩)) rfl rfl (by kernel_rfl) (by kernel_rfl) (by kernel_rfl) (fun _ _ _ h => h) (Or.inl ⟨by rfl, fun w' hw' => by go_simp⟩) hS ?_
        simp only [Act.put, lsA, lsZ, lsS]
        refine take_at (i := 1) 105 (v := .pointer (some ⟨q5, 0, none⟩)) rfl rfl (by kernel_rfl) (by kernel_rfl) (by kernel_rfl) (fun _ _ _ h => h) (Or.inl ⟨by rfl, fun w' hw' => by go_simp⟩) hS ?_
        simp only [Act.put, lsA, lsZ, lsS]
        refine take_at (i := 2) 106 (v := .pointer (some ⟨q5, 0, none⟩)) rfl rfl (by kernel_rfl) (by kernel_rfl) (by kernel_rfl) (fun _ _ _ h => h) (Or.inl ⟨by rfl, fun w' hw' => by go_simp⟩) hS ?_
        simp only [Act.put, lsA, lsZ, lsS]
        refine take_at (i := 3) 107 (v := .slice ta xs.length tc) rfl rfl (by kernel_rfl) (by kernel_rfl) (by kernel_rfl) (fun _ _ _ h => h) (Or.inl ⟨by rfl, fun w' hw' => by have z0 := (HC5.out.off hw' (fun h => h)).cell 0; simp at z0; go_simp⟩) hS ?_
        simp only [Act.put, lsA, lsZ, lsS]
        refine take_at (i := 4) 108 (v := .pointer (some ⟨q6, 0, none⟩)) rfl rfl (by kernel_rfl) (by kernel_rfl) (by kernel_rfl) (fun _ _ _ h => h) (Or.inl ⟨by rfl, fun w' hw' => by go_simp⟩) hS ?_
        simp only [Act.put, lsA, lsZ, lsS]
        refine take_at (i := 5) 109 (v := .pointer (some ⟨q6, 0, none⟩)) rfl rfl (by kernel_rfl) (by kernel_rfl) (by kernel_rfl) (fun _ _ _ h => h) (Or.inl ⟨by rfl, fun w' hw' => by go_simp⟩) hS ?_
        simp only [Act.put, lsA, lsZ, lsS]
        refine take_at (i := 6) 110 (v := .pointer (some ⟨q6, 0, none⟩)) rfl rfl (by kernel_rfl) (by kernel_rfl) (by kernel_rfl) (fun _ _ _ h => h) (Or.inl ⟨by rfl, fun w' hw' => by go_simp⟩) hS ?_
        simp only [Act.put, lsA, lsZ, lsS]
        refine take_at (i := 7) 111 (v := .slice tb ys.length td) rfl rfl (by kernel_rfl) (by kernel_rfl) (by kernel_rfl) (fun _ _ _ h => h) (Or.inl ⟨by rfl, fun w' hw' => by have z0 := (HC6.out.off hw' (fun h => h)).cell 0; simp at z0; go_simp⟩) hS ?_
        simp only [Act.put, lsA, lsZ, lsS]
        refine take_at (i := 11) 115 (v := .int .i64 0) rfl rfl (by kernel_rfl) (by kernel_rfl) (by kernel_rfl) (fun _ _ _ h => h) (Or.inl ⟨by rfl, fun w' hw' => by go_simp⟩) hS ?_
        simp only [Act.put, lsA, lsZ, lsS]
        refine wpAnyH_ready (rs := [8]) (by kernel_rfl) (by simp) ?_
        refine AllReadyH.cons rfl (fun K' hK' => ?_) AllReadyH.nil
        go_simp
        refine (dof_any tb td ys _ (HN6.out.off hS) (by have := HF6.out; omega)).mono ?_
        rintro e vA ⟨tA, cA, ga, rfl, own1, ds1, dat1, o1⟩
        have HGA : Hid (Dgs vA tA cA ga) := own1.dgs (fun g hg => (ds1 g hg).rowD)
        have HAA : Hid _ := dat1
        have HLA : Hid (ga.length ≤ 1000000) := by
         have h := congrArg List.length dat1
         have h2 := HF6.out
         simp at h
         show _ ≤ _
         omega
        have hS1 := hS.trans o1 (fun _ _ h => h)
        refine hK'.out _ _ hS1 (fun hS => ?_)
        clear hK' K' hS1 own1 ds1 dat1 o1
        refine wpAnyH_ready (rs := [9]) (by kernel_rfl) (by simp) ?_
        refine AllReadyH.cons rfl (fun K' hK' => ?_) AllReadyH.nil
        go_simp
        refine (send_any ta tA tc cA xs ga 1073741824 (by omega) _ (HN5.out.off hS) HGA.out HLA.out (by have := HF5.out; omega) (okT_okN HOK5.out)).mono ?_
        rintro e uA ⟨tqA, coA, osA, rfl, hos, own2, rows2, -, o1⟩
        have HSA : Hid (absE osA = (absE xs).filter (lkK (absE ys))) := by
         show _ = _
         rw [hos, snd_room HOK5.out HF5.out _ _ (by omega), filter_lk HAA.out]
        have HEA : Hid (Ens uA tqA coA osA) := own2.ens (fun e he => (rows2 e he).1)
        have hS1 := hS.trans o1 (fun _ _ h => h)
        refine hK'.out _ _ hS1 (fun hS => ?_)
        clear hK' K' hS1 hos own2 rows2 o1
        refine take_at (i := 10) 114 (v := .int .i64 (osA.length : Int)) rfl rfl (by kernel_rfl) (by kernel_rfl) (by kernel_rfl) (fun _ _ _ h => h) (Or.inl ⟨by rfl, fun w' hw' => by go_simp⟩) hS ?_
        simp only [Act.put, lsA, lsZ, lsS]
        refine wpAnyH_done (by kernel_rfl) ?_ _
        have HTA5 : Hid _ := HT5.out.free hS
        have HTA6 : Hid _ := HT6.out.free hS
        have HOA9 : Hid _ := HO.out.trans hS (fun _ _ h => h)
        have HNIA : Hid _ := HTA6.out.noI
        have hosa : osA.length ≤ 9223372036854775807 := Nat.le_trans HEA.out.len HEA.out.bound
        clear hS HT5 HT6 HO
        obtain ⟨X0, hX0⟩ : ∃ X0, absE xs = X0 := ⟨_, rfl⟩
        obtain ⟨Y0, hY0⟩ : ∃ Y0, absE ys = Y0 := ⟨_, rfl⟩
        have HX0b : Hid (absE xs = X0) := hX0
        have HY0b : Hid (absE ys = joins Y0 (osA.take 0)) := hY0
        have HOKX : Hid (OkT X0) := by
         show OkT _
         rw [← hX0]
         exact HOK5.out
        have HOKY : Hid (OkT Y0) := by
         show OkT _
         rw [← hY0]
         exact HOK6.out
        have HBW : Hid (((((absE osA).foldl kjo Y0)).filter (lkK X0)).foldl kjo X0 = (absE osA).foldl kjo Y0) := by
         show _ = _
         rw [HSA.out, ← hX0, ← hY0]
         exact HBW0.out
        clear hX0 hY0 HBW0 HXX HYY
        go_wp2_with fail
        go_loopw [115] (fun y wr => ∃ (n : Nat) (ys : List E), y = .int .i64 (n : Int) ∧ n ≤ osA.length ∧ RTab q5 xs wr ∧ RTab q6 ys wr ∧ absE ys = joins Y0 (osA.take n) ∧ Off (fun c => c = q6) uA wr ∧ Off (fun _ => False) w wr) (fun y _ => (osA.length - intOf y).toNat)
        case atStart => exact ⟨0, ys, rfl, by omega, HTA5.out, HTA6.out, HY0b.out, Off.refl _ _, HOA9.out⟩
        case round =>
         obtain ⟨n, ys, rfl, hn, t5, t6, hxs, O6, O⟩ := hrel
         have HT5 : Hid _ := t5
         have HT6 : Hid _ := t6
         have HXS : Hid _ := hxs
         have HO6 : Hid _ := O6
         have HO : Hid _ := O
         clear t5 t6 hxs O6 O
         by_cases hlt : n < osA.length
         ·have e1 : decide ((n : Int) < (osA.length : Int)) = true := decide_eq_true (by omega)
          have e2 : decide (n < osA.length) = true := decide_eq_true hlt
          obtain ⟨x, hx⟩ : ∃ x, osA[n]? = some x := ⟨_, List.getElem?_eq_getElem hlt⟩
          obtain ⟨bx, ox, e9, kx, rx⟩ := (HEA.out.offD HO6.out HNIA.out).at_ n x hx
          subst e9
          have HBQ : Hid (wr.heap.size ≠ q6) := by
           have := HT6.out.lt
           show _ ≠ _
           omega
          obtain ⟨k0, k1, k2, k3, k4, k5, k6, k7, k8, k9⟩ := ent10 kx
          have hix := idx_ents hlt
          clear kx
          go_upto_region 29 with fail
          have C9 := Cel.new wr 40 #[.string x.key, .int .i64 (x.f 0), .int .i64 (x.f 1), .int .i64 (x.f 2), .int .i64 (x.f 3), .int .i64 (x.f 4), .int .i64 (x.f 5), .int .i64 (x.f 6), .int .i64 (x.f 7), .slice x.a x.l.length x.cap]
          have OA : Off (fun _ => False) wr (wr.alloc (.cells #[.string x.key, .int .i64 (x.f 0), .int .i64 (x.f 1), .int .i64 (x.f 2), .int .i64 (x.f 3), .int .i64 (x.f 4), .int .i64 (x.f 5), .int .i64 (x.f 6), .int .i64 (x.f 7), .slice x.a x.l.length x.cap] 40)) := (Off.refl _ wr).alloc _
          generalize hq : wr.heap.size = q9 at C9 HBQ ⊢
          generalize hv : wr.alloc (.cells #[.string x.key, .int .i64 (x.f 0), .int .i64 (x.f 1), .int .i64 (x.f 2), .int .i64 (x.f 3), .int .i64 (x.f 4), .int .i64 (x.f 5), .int .i64 (x.f 6), .int .i64 (x.f 7), .slice x.a x.l.length x.cap] 40) = V4 at C9 OA ⊢
          clear hq hv k0 k1 k2 k3 k4 k5 k6 k7 k8 k9 hix
          have HC9 : Hid _ := C9
          obtain ⟨y0, y1, y2, y3, y4, y5, y6, y7, y8, y9⟩ := cel10 C9
          clear C9
          have HOA : Hid _ := HO.out.trans OA (fun _ _ h => h)
          have HRX : Hid _ := rx.off OA
          have HT5a : Hid _ := HT5.out.free OA
          have HT6a : Hid _ := HT6.out.free OA
          have HOA2 : Hid _ := OA
          clear OA rx
          go_wp2_with fail
          clear y0 y1 y2 y3 y4 y5 y6 y7 y8 y9
          refine (rjoin_any q6 ys x.key x.f x.a x.cap x.l _ HT6a.out HRX.out).mono ?_
          rintro e w1 ⟨g9, a9, c9, l9, sm, er, xs', rfl, hj, -, ht', o1⟩
          have HTm : Hid _ := ht'
          have HTo : Hid _ := HT5a.out.off o1 HNE.out HT6a.out.noI
          have HXn : Hid (absE xs' = joins Y0 (osA.take (n + 1))) := by
           show _ = _
           rw [joins_step Y0 hx, ← HXS.out]
           unfold jo
           rw [hj]
          have HO1 : Hid (Off (fun _ => False) w w1) := HOA.out.trans o1 (fun k hk e => absurd hk (by have := HQ6.out; omega))
          have HC91 : Hid _ := HC9.out.off o1 HBQ.out
          have HW1 : Hid (Off (fun c => c = q6) wr w1) := (HOA2.out.mono (fun _ _ h => h.elim)).trans o1 (fun _ _ h => h)
          clear ht' hj o1
          go_wp2_with fail
          go_roundw
          case rel => exact ⟨n + 1, xs', by go_num, by omega, HTo.out, HTm.out, HXn.out, HO6.out.trans HW1.out (fun _ _ h => h), HO1.out⟩
          case measure => simp [intOf]; omega
         ·obtain rfl : n = osA.length := by omega
          have e1 : decide ((osA.length : Int) < (osA.length : Int)) = false := decide_eq_false (by omega)
          have e2 : decide (osA.length < osA.length) = false := decide_eq_false (by omega)
          clear hlt
          rw [joins_all] at HXS
          have HY1 : Hid (absE ys = (absE osA).foldl kjo Y0) := by
           show _ = _
           rw [HXS.out, joins_k]
          have HOK6 : Hid (OkT (absE ys)) := by
           show OkT _
           rw [HXS.out]
           exact okT_joins HOKY.out _
          clear HXS
          obtain ⟨ta, tc, ct5, en5, -⟩ := HT5.out.is
          obtain ⟨tb, td, ct6, en6, -⟩ := HT6.out.is
          have HC5 : Hid _ := ct5
          have HC6 : Hid _ := ct6
          have HN5 : Hid _ := en5
          have HN6 : Hid _ := en6
          have HF5 : Hid (xs.length ≤ 256) := HT5.out.few
          have HF6 : Hid (ys.length ≤ 256) := HT6.out.few
          clear ct5 ct6 en5 en6
          go_upto_region 31 with fail
          refine wp_region_held_drew (S := Off (fun _ => False) wr) (by kernel_rfl) ((Off.refl _ wr).drew) (fun hS => ?_)
          refine take_at (i := 0) 123 (v := .pointer (some ⟨q6, 0, none⟩)) rfl rfl (by kernel_rfl) (by kernel_rfl) (by kernel_rfl) (fun _ _ _ h => h) (Or.inl ⟨by rfl, fun w' hw' => by go_simp⟩) hS ?_
          simp only [Act.put, lsA, lsZ, lsS]
          refine take_at (i := 1) 124 (v := .pointer (some ⟨q6, 0, none⟩)) rfl rfl (by kernel_rfl) (by kernel_rfl) (by kernel_rfl) (fun _ _ _ h => h) (Or.inl ⟨by rfl, fun w' hw' => by go_simp⟩) hS ?_
          simp only [Act.put, lsA, lsZ, lsS]
          refine take_at (i := 2) 125 (v := .pointer (some ⟨q6, 0, none⟩)) rfl rfl (by kernel_rfl) (by kernel_rfl) (by kernel_rfl) (fun _ _ _ h => h) (Or.inl ⟨by rfl, fun w' hw' => by go_simp⟩) hS ?_
          simp only [Act.put, lsA, lsZ, lsS]
          refine take_at (i := 3) 126 (v := .slice tb ys.length td) rfl rfl (by kernel_rfl) (by kernel_rfl) (by kernel_rfl) (fun _ _ _ h => h) (Or.inl ⟨by rfl, fun w' hw' => by have z0 := (HC6.out.off hw' (fun h => h)).cell 0; simp at z0; go_simp⟩) hS ?_
          simp only [Act.put, lsA, lsZ, lsS]
          refine take_at (i := 4) 127 (v := .pointer (some ⟨q5, 0, none⟩)) rfl rfl (by kernel_rfl) (by kernel_rfl) (by kernel_rfl) (fun _ _ _ h => h) (Or.inl ⟨by rfl, fun w' hw' => by go_simp⟩) hS ?_
          simp only [Act.put, lsA, lsZ, lsS]
          refine take_at (i := 5) 128 (v := .pointer (some ⟨q5, 0, none⟩)) rfl rfl (by kernel_rfl) (by kernel_rfl) (by kernel_rfl) (fun _ _ _ h => h) (Or.inl ⟨by rfl, fun w' hw' => by go_simp⟩) hS ?_
          simp only [Act.put, lsA, lsZ, lsS]
          refine take_at (i := 6) 129 (v := .pointer (some ⟨q5, 0, none⟩)) rfl rfl (by kernel_rfl) (by kernel_rfl) (by kernel_rfl) (fun _ _ _ h => h) (Or.inl ⟨by rfl, fun w' hw' => by go_simp⟩) hS ?_
          simp only [Act.put, lsA, lsZ, lsS]
          refine take_at (i := 7) 130 (v := .slice ta xs.length tc) rfl rfl (by kernel_rfl) (by kernel_rfl) (by kernel_rfl) (fun _ _ _ h => h) (Or.inl ⟨by rfl, fun w' hw' => by have z0 := (HC5.out.off hw' (fun h => h)).cell 0; simp at z0; go_simp⟩) hS ?_
          simp only [Act.put, lsA, lsZ, lsS]
          refine take_at (i := 11) 134 (v := .int .i64 0) rfl rfl (by kernel_rfl) (by kernel_rfl) (by kernel_rfl) (fun _ _ _ h => h) (Or.inl ⟨by rfl, fun w' hw' => by go_simp⟩) hS ?_
          simp only [Act.put, lsA, lsZ, lsS]
          refine wpAnyH_ready (rs := [8]) (by kernel_rfl) (by simp) ?_
          refine AllReadyH.cons rfl (fun K' hK' => ?_) AllReadyH.nil
          go_simp
          refine (dof_any ta tc xs _ (HN5.out.off hS) (by have := HF5.out; omega)).mono ?_
          rintro e vB ⟨tB, cB, gb, rfl, own1, ds1, dat1, o1⟩
          have HGB : Hid (Dgs vB tB cB gb) := own1.dgs (fun g hg => (ds1 g hg).rowD)
          have HAB : Hid _ := dat1
          have HLB : Hid (gb.length ≤ 1000000) := by
           have h := congrArg List.length dat1
           have h2 := HF5.out
           simp at h
           show _ ≤ _
           omega
          have hS1 := hS.trans o1 (fun _ _ h => h)
          refine hK'.out _ _ hS1 (fun hS => ?_)
          clear hK' K' hS1 own1 ds1 dat1 o1
          refine wpAnyH_ready (rs := [9]) (by kernel_rfl) (by simp) ?_
          refine AllReadyH.cons rfl (fun K' hK' => ?_) AllReadyH.nil
          go_simp
          refine (send_any tb tB td cB ys gb 1073741824 (by omega) _ (HN6.out.off hS) HGB.out HLB.out (by have := HF6.out; omega) (okT_okN HOK6.out)).mono ?_
          rintro e uB ⟨tqB, coB, osB, rfl, hos, own2, rows2, -, o1⟩
          have HSB : Hid (absE osB = (absE ys).filter (lkK (absE xs))) := by
           show _ = _
           rw [hos, snd_room HOK6.out HF6.out _ _ (by omega), filter_lk HAB.out]
          have HEB : Hid (Ens uB tqB coB osB) := own2.ens (fun e he => (rows2 e he).1)
          have hS1 := hS.trans o1 (fun _ _ h => h)
          refine hK'.out _ _ hS1 (fun hS => ?_)
          clear hK' K' hS1 hos own2 rows2 o1
          refine take_at (i := 10) 133 (v := .int .i64 (osB.length : Int)) rfl rfl (by kernel_rfl) (by kernel_rfl) (by kernel_rfl) (fun _ _ _ h => h) (Or.inl ⟨by rfl, fun w' hw' => by go_simp⟩) hS ?_
          simp only [Act.put, lsA, lsZ, lsS]
          refine wpAnyH_done (by kernel_rfl) ?_ _
          have HSB2 : Hid (absE osB = (absE ys).filter (lkK X0)) := by
           show _ = _
           rw [HSB.out, HX0b.out]
          clear HSB
          have HTB5 : Hid _ := HT5.out.free hS
          have HTB6 : Hid _ := HT6.out.free hS
          have HOB : Hid _ := HO.out.trans hS (fun _ _ h => h)
          have HNIB : Hid _ := HTB5.out.noI
          have HX0 : Hid (absE xs = joins X0 (osB.take 0)) := HX0b.out
          have hosb : osB.length ≤ 9223372036854775807 := Nat.le_trans HEB.out.len HEB.out.bound
          clear hS HT5 HT6 HO
          go_wp2_with fail
          go_loopw [134] (fun y wr => ∃ (n : Nat) (xs : List E), y = .int .i64 (n : Int) ∧ n ≤ osB.length ∧ RTab q5 xs wr ∧ RTab q6 ys wr ∧ absE xs = joins X0 (osB.take n) ∧ Off (fun c => c = q5) uB wr ∧ Off (fun _ => False) w wr) (fun y _ => (osB.length - intOf y).toNat)
          case atStart => exact ⟨0, xs, rfl, by omega, HTB5.out, HTB6.out, HX0.out, Off.refl _ _, HOB.out⟩
          case round =>
           obtain ⟨n, xs, rfl, hn, t5, t6, hxs, O5, O⟩ := hrel
           have HT5 : Hid _ := t5
           have HT6 : Hid _ := t6
           have HXS : Hid _ := hxs
           have HO5 : Hid _ := O5
           have HO : Hid _ := O
           clear t5 t6 hxs O5 O
           by_cases hlt : n < osB.length
           ·have e1 : decide ((n : Int) < (osB.length : Int)) = true := decide_eq_true (by omega)
            have e2 : decide (n < osB.length) = true := decide_eq_true hlt
            obtain ⟨x, hx⟩ : ∃ x, osB[n]? = some x := ⟨_, List.getElem?_eq_getElem hlt⟩
            obtain ⟨bx, ox, e9, kx, rx⟩ := (HEB.out.offD HO5.out HNIB.out).at_ n x hx
            subst e9
            have HBQ : Hid (wr.heap.size ≠ q5) := by
             have := HT5.out.lt
             show _ ≠ _
             omega
            obtain ⟨k0, k1, k2, k3, k4, k5, k6, k7, k8, k9⟩ := ent10 kx
            have hix := idx_ents hlt
            clear kx
            go_upto_region 34 with fail
            have C9 := Cel.new wr 40 #[.string x.key, .int .i64 (x.f 0), .int .i64 (x.f 1), .int .i64 (x.f 2), .int .i64 (x.f 3), .int .i64 (x.f 4), .int .i64 (x.f 5), .int .i64 (x.f 6), .int .i64 (x.f 7), .slice x.a x.l.length x.cap]
            have OA : Off (fun _ => False) wr (wr.alloc (.cells #[.string x.key, .int .i64 (x.f 0), .int .i64 (x.f 1), .int .i64 (x.f 2), .int .i64 (x.f 3), .int .i64 (x.f 4), .int .i64 (x.f 5), .int .i64 (x.f 6), .int .i64 (x.f 7), .slice x.a x.l.length x.cap] 40)) := (Off.refl _ wr).alloc _
            generalize hq : wr.heap.size = q9 at C9 HBQ ⊢
            generalize hv : wr.alloc (.cells #[.string x.key, .int .i64 (x.f 0), .int .i64 (x.f 1), .int .i64 (x.f 2), .int .i64 (x.f 3), .int .i64 (x.f 4), .int .i64 (x.f 5), .int .i64 (x.f 6), .int .i64 (x.f 7), .slice x.a x.l.length x.cap] 40) = V4 at C9 OA ⊢
            clear hq hv k0 k1 k2 k3 k4 k5 k6 k7 k8 k9 hix
            have HC9 : Hid _ := C9
            obtain ⟨y0, y1, y2, y3, y4, y5, y6, y7, y8, y9⟩ := cel10 C9
            clear C9
            have HOA : Hid _ := HO.out.trans OA (fun _ _ h => h)
            have HRX : Hid _ := rx.off OA
            have HT5a : Hid _ := HT5.out.free OA
            have HT6a : Hid _ := HT6.out.free OA
            have HOA2 : Hid _ := OA
            clear OA rx
            go_wp2_with fail
            clear y0 y1 y2 y3 y4 y5 y6 y7 y8 y9
            refine (rjoin_any q5 xs x.key x.f x.a x.cap x.l _ HT5a.out HRX.out).mono ?_
            rintro e w1 ⟨g9, a9, c9, l9, sm, er, xs', rfl, hj, -, ht', o1⟩
            have HTm : Hid _ := ht'
            have HTo : Hid _ := HT6a.out.off o1 HNE.out.symm HT5a.out.noI
            have HXn : Hid (absE xs' = joins X0 (osB.take (n + 1))) := by
             show _ = _
             rw [joins_step X0 hx, ← HXS.out]
             unfold jo
             rw [hj]
            have HO1 : Hid (Off (fun _ => False) w w1) := HOA.out.trans o1 (fun k hk e => absurd hk (by have := HQ5.out; omega))
            have HC91 : Hid _ := HC9.out.off o1 HBQ.out
            have HW1 : Hid (Off (fun c => c = q5) wr w1) := (HOA2.out.mono (fun _ _ h => h.elim)).trans o1 (fun _ _ h => h)
            clear ht' hj o1
            go_wp2_with fail
            go_roundw
            case rel => exact ⟨n + 1, xs', by go_num, by omega, HTm.out, HTo.out, HXn.out, HO5.out.trans HW1.out (fun _ _ h => h), HO1.out⟩
            case measure => simp [intOf]; omega
           ·obtain rfl : n = osB.length := by omega
            have e1 : decide ((osB.length : Int) < (osB.length : Int)) = false := decide_eq_false (by omega)
            have e2 : decide (osB.length < osB.length) = false := decide_eq_false (by omega)
            clear hlt
            rw [joins_all] at HXS
            have HEQ : Hid (absE xs = absE ys) := by
             show _ = _
             rw [HXS.out, joins_k, HSB2.out, HY1.out]
             exact HBW.out
            have HOK5 : Hid (OkT (absE xs)) := by
             show OkT _
             rw [HXS.out]
             exact okT_joins HOKX.out _
            clear HXS
            obtain ⟨ta, tc, ct5, en5, -⟩ := HT5.out.is
            obtain ⟨tb, td, ct6, en6, -⟩ := HT6.out.is
            have HC5 : Hid _ := ct5
            have HC6 : Hid _ := ct6
            have HN5 : Hid _ := en5
            have HN6 : Hid _ := en6
            have HF5 : Hid (xs.length ≤ 256) := HT5.out.few
            have HF6 : Hid (ys.length ≤ 256) := HT6.out.few
            clear ct5 ct6 en5 en6
            go_upto_region 36 with fail
            refine wp_region_held_drew (S := Off (fun _ => False) wr) (by kernel_rfl) ((Off.refl _ wr).drew) (fun hS => ?_)
            refine take_at (i := 0) 142 (v := .pointer (some ⟨q5, 0, none⟩)) rfl rfl (by kernel_rfl) (by kernel_rfl) (by kernel_rfl) (fun _ _ _ h => h) (Or.inl ⟨by rfl, fun w' hw' => by go_simp⟩) hS ?_
            simp only [Act.put, lsA, lsZ, lsS]
            refine take_at (i := 1) 143 (v := .pointer (some ⟨q5, 0, none⟩)) rfl rfl (by kernel_rfl) (by kernel_rfl) (by kernel_rfl) (fun _ _ _ h => h) (Or.inl ⟨by rfl, fun w' hw' => by go_simp⟩) hS ?_
            simp only [Act.put, lsA, lsZ, lsS]
            refine take_at (i := 2) 144 (v := .pointer (some ⟨q5, 0, none⟩)) rfl rfl (by kernel_rfl) (by kernel_rfl) (by kernel_rfl) (fun _ _ _ h => h) (Or.inl ⟨by rfl, fun w' hw' => by go_simp⟩) hS ?_
            simp only [Act.put, lsA, lsZ, lsS]
            refine take_at (i := 3) 145 (v := .slice ta xs.length tc) rfl rfl (by kernel_rfl) (by kernel_rfl) (by kernel_rfl) (fun _ _ _ h => h) (Or.inl ⟨by rfl, fun w' hw' => by have z0 := (HC5.out.off hw' (fun h => h)).cell 0; simp at z0; go_simp⟩) hS ?_
            simp only [Act.put, lsA, lsZ, lsS]
            refine take_at (i := 4) 146 (v := .pointer (some ⟨q6, 0, none⟩)) rfl rfl (by kernel_rfl) (by kernel_rfl) (by kernel_rfl) (fun _ _ _ h => h) (Or.inl ⟨by rfl, fun w' hw' => by go_simp⟩) hS ?_
            simp only [Act.put, lsA, lsZ, lsS]
            refine take_at (i := 5) 147 (v := .pointer (some ⟨q6, 0, none⟩)) rfl rfl (by kernel_rfl) (by kernel_rfl) (by kernel_rfl) (fun _ _ _ h => h) (Or.inl ⟨by rfl, fun w' hw' => by go_simp⟩) hS ?_
            simp only [Act.put, lsA, lsZ, lsS]
            refine take_at (i := 6) 148 (v := .pointer (some ⟨q6, 0, none⟩)) rfl rfl (by kernel_rfl) (by kernel_rfl) (by kernel_rfl) (fun _ _ _ h => h) (Or.inl ⟨by rfl, fun w' hw' => by go_simp⟩) hS ?_
            simp only [Act.put, lsA, lsZ, lsS]
            refine take_at (i := 7) 149 (v := .slice tb ys.length td) rfl rfl (by kernel_rfl) (by kernel_rfl) (by kernel_rfl) (fun _ _ _ h => h) (Or.inl ⟨by rfl, fun w' hw' => by have z0 := (HC6.out.off hw' (fun h => h)).cell 0; simp at z0; go_simp⟩) hS ?_
            simp only [Act.put, lsA, lsZ, lsS]
            refine wpAnyH_ready (rs := [8]) (by kernel_rfl) (by simp) ?_
            refine AllReadyH.cons rfl (fun K' hK' => ?_) AllReadyH.nil
            go_simp
            refine (dof_any tb td ys _ (HN6.out.off hS) (by have := HF6.out; omega)).mono ?_
            rintro e vC ⟨tC, cC, gc, rfl, own1, ds1, dat1, o1⟩
            have HGC : Hid (Dgs vC tC cC gc) := own1.dgs (fun g hg => (ds1 g hg).rowD)
            have HAC : Hid _ := dat1
            have HLC : Hid (gc.length ≤ 1000000) := by
             have h := congrArg List.length dat1
             have h2 := HF6.out
             simp at h
             show _ ≤ _
             omega
            have hS1 := hS.trans o1 (fun _ _ h => h)
            refine hK'.out _ _ hS1 (fun hS => ?_)
            clear hK' K' hS1 own1 ds1 dat1 o1
            refine wpAnyH_ready (rs := [9]) (by kernel_rfl) (by simp) ?_
            refine AllReadyH.cons rfl (fun K' hK' => ?_) AllReadyH.nil
            go_simp
            refine (send_any ta tC tc cC xs gc 1073741824 (by omega) _ (HN5.out.off hS) HGC.out HLC.out (by have := HF5.out; omega) (okT_okN HOK5.out)).mono ?_
            rintro e uC ⟨tqC, coC, osC, rfl, hos, -, -, -, o1⟩
            have hz : osC.length = 0 := by
             have h := congrArg List.length hos
             rw [snd_room HOK5.out HF5.out _ _ (by omega), lack_same HAC.out HEQ.out HT5.out.sor] at h
             simpa [absE] using h
            rw [hz]
            have hS1 := hS.trans o1 (fun _ _ h => h)
            refine hK'.out _ _ hS1 (fun hS => ?_)
            clear hK' K' hS1 hos hz o1
            refine take_at (i := 10) 152 (v := .int .i64 0) rfl rfl (by kernel_rfl) (by kernel_rfl) (by kernel_rfl) (fun _ _ _ h => h) (Or.inl ⟨by rfl, fun w' hw' => by go_simp⟩) hS ?_
            simp only [Act.put, lsA, lsZ, lsS]
            refine take_at (i := 11) 153 (v := .bool true) rfl rfl (by kernel_rfl) (by kernel_rfl) (by kernel_rfl) (fun _ _ _ h => h) (Or.inl ⟨by rfl, fun w' hw' => by go_simp⟩) hS ?_
            simp only [Act.put, lsA, lsZ, lsS]
            refine take_at (i := 12) 154 (v := .bool true) rfl rfl (by kernel_rfl) (by kernel_rfl) (by kernel_rfl) (fun _ _ _ h => h) (Or.inl ⟨by rfl, fun w' hw' => by go_simp⟩) hS ?_
            simp only [Act.put, lsA, lsZ, lsS]
            refine take_at (i := 13) 155 (v := .pointer (some ⟨q6, 0, none⟩)) rfl rfl (by kernel_rfl) (by kernel_rfl) (by kernel_rfl) (fun _ _ _ h => h) (Or.inl ⟨by rfl, fun w' hw' => by go_simp⟩) hS ?_
            simp only [Act.put, lsA, lsZ, lsS]
            refine take_at (i := 14) 156 (v := .pointer (some ⟨q6, 0, none⟩)) rfl rfl (by kernel_rfl) (by kernel_rfl) (by kernel_rfl) (fun _ _ _ h => h) (Or.inl ⟨by rfl, fun w' hw' => by go_simp⟩) hS ?_
            simp only [Act.put, lsA, lsZ, lsS]
            refine take_at (i := 15) 157 (v := .pointer (some ⟨q6, 0, none⟩)) rfl rfl (by kernel_rfl) (by kernel_rfl) (by kernel_rfl) (fun _ _ _ h => h) (Or.inl ⟨by rfl, fun w' hw' => by go_simp⟩) hS ?_
            simp only [Act.put, lsA, lsZ, lsS]
            refine take_at (i := 16) 158 (v := .slice tb ys.length td) rfl rfl (by kernel_rfl) (by kernel_rfl) (by kernel_rfl) (fun _ _ _ h => h) (Or.inl ⟨by rfl, fun w' hw' => by have z0 := (HC6.out.off hw' (fun h => h)).cell 0; simp at z0; go_simp⟩) hS ?_
            simp only [Act.put, lsA, lsZ, lsS]
            refine take_at (i := 17) 159 (v := .pointer (some ⟨q5, 0, none⟩)) rfl rfl (by kernel_rfl) (by kernel_rfl) (by kernel_rfl) (fun _ _ _ h => h) (Or.inl ⟨by rfl, fun w' hw' => by go_simp⟩) hS ?_
            simp only [Act.put, lsA, lsZ, lsS]
            refine take_at (i := 18) 160 (v := .pointer (some ⟨q5, 0, none⟩)) rfl rfl (by kernel_rfl) (by kernel_rfl) (by kernel_rfl) (fun _ _ _ h => h) (Or.inl ⟨by rfl, fun w' hw' => by go_simp⟩) hS ?_
            simp only [Act.put, lsA, lsZ, lsS]
            refine take_at (i := 19) 161 (v := .pointer (some ⟨q5, 0, none⟩)) rfl rfl (by kernel_rfl) (by kernel_rfl) (by kernel_rfl) (fun _ _ _ h => h) (Or.inl ⟨by rfl, fun w' hw' => by go_simp⟩) hS ?_
            simp only [Act.put, lsA, lsZ, lsS]
            refine take_at (i := 20) 162 (v := .slice ta xs.length tc) rfl rfl (by kernel_rfl) (by kernel_rfl) (by kernel_rfl) (fun _ _ _ h => h) (Or.inl ⟨by rfl, fun w' hw' => by have z0 := (HC5.out.off hw' (fun h => h)).cell 0; simp at z0; go_simp⟩) hS ?_
            simp only [Act.put, lsA, lsZ, lsS]
            refine wpAnyH_ready (rs := [21]) (by kernel_rfl) (by simp) ?_
            refine AllReadyH.cons rfl (fun K' hK' => ?_) AllReadyH.nil
            go_simp
            refine (dof_any ta tc xs _ (HN5.out.off hS) (by have := HF5.out; omega)).mono ?_
            rintro e vD ⟨tD, cD, gd, rfl, own1, ds1, dat1, o1⟩
            have HGD : Hid (Dgs vD tD cD gd) := own1.dgs (fun g hg => (ds1 g hg).rowD)
            have HAD : Hid _ := dat1
            have HLD : Hid (gd.length ≤ 1000000) := by
             have h := congrArg List.length dat1
             have h2 := HF5.out
             simp at h
             show _ ≤ _
             omega
            have hS1 := hS.trans o1 (fun _ _ h => h)
            refine hK'.out _ _ hS1 (fun hS => ?_)
            clear hK' K' hS1 own1 ds1 dat1 o1
            refine wpAnyH_ready (rs := [22]) (by kernel_rfl) (by simp) ?_
            refine AllReadyH.cons rfl (fun K' hK' => ?_) AllReadyH.nil
            go_simp
            refine (send_any tb tD td cD ys gd 1073741824 (by omega) _ (HN6.out.off hS) HGD.out HLD.out (by have := HF6.out; omega) (okT_okN HOK6.out)).mono ?_
            rintro e uD ⟨tqD, coD, osD, rfl, hos, -, -, -, o1⟩
            have hz : osD.length = 0 := by
             have h := congrArg List.length hos
             rw [snd_room HOK6.out HF6.out _ _ (by omega), lack_same HAD.out HEQ.out.symm HT6.out.sor] at h
             simpa [absE] using h
            rw [hz]
            have hS1 := hS.trans o1 (fun _ _ h => h)
            refine hK'.out _ _ hS1 (fun hS => ?_)
            clear hK' K' hS1 hos hz o1
            refine take_at (i := 23) 165 (v := .int .i64 0) rfl rfl (by kernel_rfl) (by kernel_rfl) (by kernel_rfl) (fun _ _ _ h => h) (Or.inl ⟨by rfl, fun w' hw' => by go_simp⟩) hS ?_
            simp only [Act.put, lsA, lsZ, lsS]
            refine take_at (i := 24) 166 (v := .bool true) rfl rfl (by kernel_rfl) (by kernel_rfl) (by kernel_rfl) (fun _ _ _ h => h) (Or.inl ⟨by rfl, fun w' hw' => by go_simp⟩) hS ?_
            simp only [Act.put, lsA, lsZ, lsS]
            refine take_at (i := 25) 167 (v := .bool true) rfl rfl (by kernel_rfl) (by kernel_rfl) (by kernel_rfl) (fun _ _ _ h => h) (Or.inl ⟨by rfl, fun w' hw' => by go_simp⟩) hS ?_
            simp only [Act.put, lsA, lsZ, lsS]
            refine take_at (i := 26) 168 (v := .bool true) rfl rfl (by kernel_rfl) (by kernel_rfl) (by kernel_rfl) (fun _ _ _ h => h) (Or.inl ⟨by rfl, fun w' hw' => by go_simp⟩) hS ?_
            simp only [Act.put, lsA, lsZ, lsS]
            refine take_at (i := 27) 169 (v := .pointer (some ⟨q5, 0, none⟩)) rfl rfl (by kernel_rfl) (by kernel_rfl) (by kernel_rfl) (fun _ _ _ h => h) (Or.inl ⟨by rfl, fun w' hw' => by go_simp⟩) hS ?_
            simp only [Act.put, lsA, lsZ, lsS]
            refine take_at (i := 28) 170 (v := .pointer (some ⟨q5, 0, none⟩)) rfl rfl (by kernel_rfl) (by kernel_rfl) (by kernel_rfl) (fun _ _ _ h => h) (Or.inl ⟨by rfl, fun w' hw' => by go_simp⟩) hS ?_
            simp only [Act.put, lsA, lsZ, lsS]
            refine take_at (i := 29) 171 (v := .pointer (some ⟨q5, 0, none⟩)) rfl rfl (by kernel_rfl) (by kernel_rfl) (by kernel_rfl) (fun _ _ _ h => h) (Or.inl ⟨by rfl, fun w' hw' => by go_simp⟩) hS ?_
            simp only [Act.put, lsA, lsZ, lsS]
            refine take_at (i := 30) 172 (v := .slice ta xs.length tc) rfl rfl (by kernel_rfl) (by kernel_rfl) (by kernel_rfl) (fun _ _ _ h => h) (Or.inl ⟨by rfl, fun w' hw' => by have z0 := (HC5.out.off hw' (fun h => h)).cell 0; simp at z0; go_simp⟩) hS ?_
            simp only [Act.put, lsA, lsZ, lsS]
            refine take_at (i := 31) 173 (v := .pointer (some ⟨q6, 0, none⟩)) rfl rfl (by kernel_rfl) (by kernel_rfl) (by kernel_rfl) (fun _ _ _ h => h) (Or.inl ⟨by rfl, fun w' hw' => by go_simp⟩) hS ?_
            simp only [Act.put, lsA, lsZ, lsS]
            refine take_at (i := 32) 174 (v := .pointer (some ⟨q6, 0, none⟩)) rfl rfl (by kernel_rfl) (by kernel_rfl) (by kernel_rfl) (fun _ _ _ h => h) (Or.inl ⟨by rfl, fun w' hw' => by go_simp⟩) hS ?_
            simp only [Act.put, lsA, lsZ, lsS]
            refine take_at (i := 33) 175 (v := .pointer (some ⟨q6, 0, none⟩)) rfl rfl (by kernel_rfl) (by kernel_rfl) (by kernel_rfl) (fun _ _ _ h => h) (Or.inl ⟨by rfl, fun w' hw' => by go_simp⟩) hS ?_
            simp only [Act.put, lsA, lsZ, lsS]
            refine take_at (i := 34) 176 (v := .slice tb ys.length td) rfl rfl (by kernel_rfl) (by kernel_rfl) (by kernel_rfl) (fun _ _ _ h => h) (Or.inl ⟨by rfl, fun w' hw' => by have z0 := (HC6.out.off hw' (fun h => h)).cell 0; simp at z0; go_simp⟩) hS ?_
            simp only [Act.put, lsA, lsZ, lsS]
            refine wpAnyH_ready (rs := [35]) (by kernel_rfl) (by simp) ?_
            refine AllReadyH.cons rfl (fun K' hK' => ?_) AllReadyH.nil
            go_simp
            refine (sameents_any ta tb tc td xs ys _ (HN5.out.off hS) (HN6.out.off hS) HEQ.out (by have := HF5.out; omega)).mono ?_
            rintro e vS ⟨rfl, o1⟩
            have hS1 := hS.trans o1 (fun _ _ h => h)
            refine hK'.out _ _ hS1 (fun hS => ?_)
            clear hK' K' hS1 o1
            refine take_at (i := 36) 178 (v := .bool true) rfl rfl (by kernel_rfl) (by kernel_rfl) (by kernel_rfl) (fun _ _ _ h => h) (Or.inl ⟨by rfl, fun w' hw' => by go_simp⟩) hS ?_
            simp only [Act.put, lsA, lsZ, lsS]
            refine take_at (i := 37) 179 (v := .bool true) rfl rfl (by kernel_rfl) (by kernel_rfl) (by kernel_rfl) (fun _ _ _ h => h) (Or.inl ⟨by rfl, fun w' hw' => by go_simp⟩) hS ?_
            simp only [Act.put, lsA, lsZ, lsS]
            refine wpAnyH_ready (rs := [38]) (by kernel_rfl) (by simp) ?_
            refine AllReadyH.cons rfl (fun K' hK' => ?_) AllReadyH.nil
            go_simp
            refine (awake_any _).mono ?_
            rintro e vT ⟨rfl, o1⟩
            have hS1 := hS.trans o1 (fun _ _ h => h)
            refine hK'.out _ _ hS1 (fun hS => ?_)
            clear hK' K' hS1 o1
            refine take_at (i := 39) 181 (v := .bool true) rfl rfl (by kernel_rfl) (by kernel_rfl) (by kernel_rfl) (fun _ _ _ h => h) (Or.inl ⟨by rfl, fun w' hw' => by go_simp⟩) hS ?_
            simp only [Act.put, lsA, lsZ, lsS]
            refine take_at (i := 40) 4 (v := .bool true) rfl rfl (by kernel_rfl) (by kernel_rfl) (by kernel_rfl) (fun _ _ _ h => h) (Or.inl ⟨by rfl, fun w' hw' => by go_simp⟩) hS ?_
            simp only [Act.put, lsA, lsZ, lsS]
            refine wpAnyH_done (by kernel_rfl) ?_ _
            go_wp2_with fail
            go_ret
            exact ⟨rfl, HO.out.trans hS (fun _ _ h => h)⟩
def E.nrm (e : E) : E := ⟨e.key, fun j => if j < 8 then e.f j else 0, e.a, e.cap, e.l⟩
theorem ens_nrm {w : World} {a : Option Addr} {cap : Nat} {es : List E} (h : Ens w a cap es) : Ens w a cap (es.map E.nrm) :=
 ⟨by rw [List.length_map]; exact h.len, h.bound, fun i e hi => by
  rw [List.getElem?_map] at hi
  obtain ⟨x, hx, rfl⟩ := Option.map_eq_some_iff.1 hi
  exact h.at_ i x hx⟩
theorem nrm_all (es : List E) : ∀ e ∈ es.map E.nrm, Nrm e.f := fun e he => by
 obtain ⟨x, -, rfl⟩ := List.mem_map.1 he
 intro j hj
 show (if j < 8 then x.f j else 0) = 0
 rw [if_neg (by omega)]
theorem grows_walk (aa : Option Addr) (ca : Nat) (ea : List E) (ab : Option Addr) (cb : Nat) (eb : List E) (w : World) (hA : Ens w aa ca ea) (_ : ∀ e ∈ ea, e.key.size ≤ maxLen ∧ (∀ j, j < 8 → -9223372036854775808 ≤ e.f j ∧ e.f j ≤ 9223372036854775807)) (hB : Ens w ab cb eb) (_ : ∀ e ∈ eb, e.key.size ≤ maxLen ∧ (∀ j, j < 8 → -9223372036854775808 ≤ e.f j ∧ e.f j ≤ 9223372036854775807)) :
  Calls Try.prog 7 #[.slice aa ea.length ca, .slice ab eb.length cb] w fun e w' => e = .returned (.bool true) ∧ Off (fun _ => False) w w' := by
 have h := grows_nrm aa ca (ea.map E.nrm) ab cb (eb.map E.nrm) w (ens_nrm hA) (ens_nrm hB) (nrm_all ea) (nrm_all eb)
 rwa [List.length_map, List.length_map] at h
end Go.Proofs.Ytpnnpdfmoldiiaa
