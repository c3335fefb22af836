/- Items of several texts. -/
import Derived.Test.YtmjmgdbhmbjmaabAThy0
namespace Go.Proofs.Ytmjmgdbhmbjmaab
open Go.RowKit
set_option maxRecDepth 100000 in
set_option maxHeartbeats 8000000 in
theorem merge_any (fA fB : Nat → Int) (pA pB : Nat) (a b : Option Addr) (ca cb : Nat) (l1 l2 : List V) (w : World) (h1 : Row w a ca l1) (h2 : Row w b cb l2) (hA : Cel pA 27 #[.int .i64 (fA 0), .int .i64 (fA 1), .int .i64 (fA 2), .int .i64 (fA 3), .int .i64 (fA 4), .int .i64 (fA 5), .int .i64 (fA 6), .int .i64 (fA 7)] w) (hB : Cel pB 27 #[.int .i64 (fB 0), .int .i64 (fB 1), .int .i64 (fB 2), .int .i64 (fB 3), .int .i64 (fB 4), .int .i64 (fB 5), .int .i64 (fB 6), .int .i64 (fB 7)] w) (hn : l1.length + l2.length ≤ 100) :
  Calls Try.prog 37 #[.slice a l1.length ca, .slice b l2.length cb, .func (.func 46) #[] #[.pointer (some ⟨pA, 0, none⟩)], .func (.func 46) #[] #[.pointer (some ⟨pB, 0, none⟩)]] w fun e w' => ∃ a' c' l, e = .returned (.slice a' l.length c') ∧ OwnV w' a' c' l ∧
   (∀ v ∈ l, VOk w' v ∧ OwnR w' v.ad v.cap v.data ∧ ∀ k, blk v.ad = some k → w.heap.size ≤ k ∧ blk a' ≠ some k) ∧ (∀ k, blk a' = some k → w.heap.size ≤ k) ∧ cont l = mergeA (nc fA) (nc fB) (cont l1) (cont l2) ∧ Off (fun _ => False) w w' := by
 have hmf : ∀ (fn : Fn) (first cap : Array Value) (w : World), (Instr.makeFunc fn first cap).run Try.prog w = .ok (.func fn first cap) w := fun _ _ _ _ => rfl
 obtain ⟨TGT, hTGT⟩ : ∃ T, T = mergeA (nc fA) (nc fB) (cont l1) (cont l2) := ⟨_, rfl⟩
 have HTG : Hid _ := hTGT
 rw [← hTGT]
 clear hTGT
 have HPA : Hid _ := hA
 have HPB : Hid _ := hB
 have OU0 : Out w.heap.size (w.alloc (.cells #[.slice none 0 0] 28)).heap.size w.heap.size [] (w.alloc (.cells #[.slice none 0 0] 28)) := ⟨⟨by omega, by simp⟩, none, 0, Cel.new w _ _, OwnV.nil _, fun k hk => by simp [blk] at hk, fun v hv => by simp at hv⟩
 have HOU0 : Hid _ := OU0
 clear hA hB OU0
 go_enter Try.func37, Try.ntmps37
 go_wp2_with fail
 go_loopw [0, 1] (fun x y wr => ∃ (ax : Option Addr) (cx : Nat) (l1x : List V) (ay : Option Addr) (cy : Nat) (l2x l : List V), x = .slice ax l1x.length cx ∧ y = .slice ay l2x.length cy ∧ Row w ax cx l1x ∧ Row w ay cy l2x ∧ Out w.heap.size wr.heap.size w.heap.size l wr ∧ l.length + l1x.length + l2x.length ≤ 900 ∧ Off (fun _ => False) w wr ∧ cont l ++ mergeA (nc fA) (nc fB) (cont l1x) (cont l2x) = TGT) (fun x y _ => slLen x + slLen y)
 case atStart => exact ⟨a, ca, l1, b, cb, l2, [], rfl, rfl, h1, h2, HOU0.out, by simp; omega, (Off.refl _ w).alloc _, by rw [HTG.out]; rfl⟩
 case round =>
  clear h1 h2 HOU0 HTG hn
  obtain ⟨ax, cx, l1x, ay, cy, l2x, l, rfl, rfl, hr1, hr2, OUT, hb, OV, ht⟩ := hrel
  have HT : Hid _ := ht
  clear ht
  rcases nil_or (l := l1x) with hl1 | ⟨x, xs, hl1⟩
  ·obtain ⟨t1, t2, t3⟩ := test_zero hl1
   have HNIL : Hid (cont l1x = [] ∨ cont l2x = []) := .inl (by rw [hl1]; rfl)
   clear hl1
   go_wp2_with fail
   go_loopw [71] (fun y wr => ∃ (n : Nat) (l : List V), y = .int .i64 (n : Int) ∧ n ≤ l1x.length ∧ Out w.heap.size wr.heap.size w.heap.size l wr ∧ l.length + (l1x.length - n) ≤ 900 - l2x.length ∧ Off (fun _ => False) w wr ∧ cont l ++ ((cont (l1x.drop n)).filter (nc fA) ++ (cont l2x).filter (nc fB)) = TGT) (fun y _ => (l1x.length - intOf y).toNat)
   case atStart => exact ⟨0, l, rfl, by omega, OUT, by omega, OV, by rw [List.drop_zero, ← mergeA_nil _ _ _ _ HNIL.out]; exact HT.out⟩
   case round =>
    obtain ⟨n, l, rfl, hn, OUT, hb, OV, ht⟩ := hrel
    have HT : Hid _ := ht
    clear ht
    by_cases hlt : n < l1x.length
    ·have e1 : decide ((n : Int) < (l1x.length : Int)) = true := decide_eq_true (by omega)
     have e2 : decide (n < l1x.length) = true := decide_eq_true hlt
     obtain ⟨v, hv⟩ : ∃ v, l1x[n]? = some v := ⟨_, List.getElem?_eq_getElem hlt⟩
     obtain ⟨b0, o0, rfl, k, hvo⟩ := hr1.at_ n v hv
     obtain ⟨k0, k1, k2, k3⟩ := k.off OV (fun _ h => h)
     have HVV : Hid _ := hvo
     have HKV : Hid _ := hv
     clear k hvo hv
     have C0 := Cel.new wr 56 #[.int .i64 v.node, .int .i64 v.num, .slice v.ad v.data.length v.cap, .bool v.dead]
     replace OUT := OUT.off ((Off.refl _ wr).alloc (.cells #[.int .i64 v.node, .int .i64 v.num, .slice v.ad v.data.length v.cap, .bool v.dead] 56))
     replace OV := OV.alloc (.cells #[.int .i64 v.node, .int .i64 v.num, .slice v.ad v.data.length v.cap, .bool v.dead] 56)
     generalize hM0 : wr.heap.size = M at C0 OUT
     have HXM : Hid (M ≤ M) := Nat.le_refl _
     go_wp2_with fail
     generalize hV0 : wr.alloc (.cells #[.int .i64 v.node, .int .i64 v.num, .slice v.ad v.data.length v.cap, .bool v.dead] 56) = v1 at C0 OUT OV ⊢
     have HM : Hid (M ≤ v1.drew.heap.size) := by show M ≤ v1.heap.size; rw [← hV0, ← hM0]; simp
     clear hV0 hM0 k0 k1 k2 k3
     have OVd : Off (fun _ => False) w v1.drew := OV.drew
     have OUd := OUT.drew
     refine wp_region_held_drew (S := fun w' => Cel M 56 #[.int .i64 v.node, .int .i64 v.num, .slice v.ad v.data.length v.cap, .bool v.dead] w') (by kernel_rfl) (C0.drew) (fun hS => ?_)
     clear C0
     refine take_at (i := 0) 75 (v := .func (.func 43) #[] #[.pointer (some ⟨w.heap.size, 0, none⟩)]) rfl rfl (by kernel_rfl) (by kernel_rfl) (by kernel_rfl) (fun _ _ _ h => h) (Or.inl ⟨by rfl, fun w' hw' => by go_simp⟩) hS ?_
     simp only [Act.put, lsA, lsZ, lsS]
     refine take_at (i := 1) 76 (v := .agg #[.int .i64 v.node, .int .i64 v.num, .slice v.ad v.data.length v.cap, .bool v.dead]) rfl rfl (by kernel_rfl) (by kernel_rfl) (by kernel_rfl) (fun _ _ _ h => h) (Or.inl ⟨by rfl, fun w' hw' => by obtain ⟨x0, x1, x2, x3⟩ := cel4 hw'; go_simp⟩) hS ?_
     simp only [Act.put, lsA, lsZ, lsS]
     refine take_at (i := 2) 77 (v := .func (.func 46) #[] #[.pointer (some ⟨pA, 0, none⟩)]) rfl rfl (by kernel_rfl) (by kernel_rfl) (by kernel_rfl) (fun _ _ _ h => h) (Or.inl ⟨by rfl, fun w' hw' => by go_simp⟩) hS ?_
     simp only [Act.put, lsA, lsZ, lsS]
     refine take_at (i := 3) 78 (v := .agg #[.int .i64 v.node, .int .i64 v.num, .slice v.ad v.data.length v.cap, .bool v.dead]) rfl rfl (by kernel_rfl) (by kernel_rfl) (by kernel_rfl) (fun _ _ _ h => h) (Or.inl ⟨by rfl, fun w' hw' => by obtain ⟨x0, x1, x2, x3⟩ := cel4 hw'; go_simp⟩) hS ?_
     simp only [Act.put, lsA, lsZ, lsS]
     refine wpAnyH_ready (rs := [4]) (by kernel_rfl) (by simp) ?_
     refine AllReadyH.cons rfl (fun K' hK' => ?_) AllReadyH.nil
     go_simp
     refine (newTo1_any fA v pA _ (HPA.out.off OVd (fun h => h))).mono ?_
     rintro e v2 ⟨rfl, o2⟩
     refine hK'.out _ _ (hS.off o2 (fun h => h)) (fun hS => ?_)
     clear hK' K'
     have oC := OVd.trans o2 (fun _ _ h => h)
     have s2 : M ≤ v2.heap.size := Nat.le_trans HM.out o2.size
     have hv2 := HVV.out.off oC (fun _ _ _ h => h)
     have OU2 := OUd.off o2
     clear OUd OVd o2
     refine wpAnyH_ready (rs := [5]) (by kernel_rfl) (by simp) ?_
     refine AllReadyH.cons rfl (fun K' hK' => ?_) AllReadyH.nil
     go_simp
     refine (take_any w.heap.size M w.heap.size l v _ v2 OU2 hv2 (by omega) oC.size s2).mono ?_
     rintro e v3 ⟨rfl, l', hl', OUT', o3⟩
     refine hK'.out _ _ (hS.off o3 (fun h => by have := h.2; have := HXM.out; omega)) (fun hS => ?_)
     clear hK' K'
     have oD : Off (fun _ => False) w v3 := oC.trans o3 (fun i hi h => by omega)
     have hln := abs_len hl'
     have HO3 : Hid _ := oD
     have HOUT : Hid _ := OUT'
     have HL3 : Hid _ := hl'
     clear oC o3 s2 hv2 oD OUT' hl' hS OU2 OV OUT
     refine wpAnyH_done (by kernel_rfl) ?_ _
     go_wp2_with fail
     go_roundw
     case rel => exact ⟨n + 1, l', by go_num, by omega, HOUT.out, by omega, HO3.out, by rw [HL3.out, ← HT.out, filter_step HKV.out]; simp [nc, V.abs]⟩
     case measure => simp [intOf]; omega
    ·obtain rfl : n = l1x.length := by omega
     have e1 : decide ((l1x.length : Int) < (l1x.length : Int)) = false := decide_eq_false (by omega)
     have e2 : decide (l1x.length < l1x.length) = false := decide_eq_false (by omega)
     go_wp2_with fail
     go_loopw [84] (fun y wr => ∃ (n : Nat) (l : List V), y = .int .i64 (n : Int) ∧ n ≤ l2x.length ∧ Out w.heap.size wr.heap.size w.heap.size l wr ∧ l.length + (l2x.length - n) ≤ 900 ∧ Off (fun _ => False) w wr ∧ cont l ++ (cont (l2x.drop n)).filter (nc fB) = TGT) (fun y _ => (l2x.length - intOf y).toNat)
     case atStart => exact ⟨0, l, rfl, by omega, OUT, by omega, OV, by have := HT.out; simpa [cont] using this⟩
     case round =>
      obtain ⟨n, l, rfl, hn, OUT, hb, OV, ht⟩ := hrel
      have HT : Hid _ := ht
      clear ht
      by_cases hlt : n < l2x.length
      ·have e1 : decide ((n : Int) < (l2x.length : Int)) = true := decide_eq_true (by omega)
       have e2 : decide (n < l2x.length) = true := decide_eq_true hlt
       obtain ⟨v, hv⟩ : ∃ v, l2x[n]? = some v := ⟨_, List.getElem?_eq_getElem hlt⟩
       obtain ⟨b0, o0, rfl, k, hvo⟩ := hr2.at_ n v hv
       obtain ⟨k0, k1, k2, k3⟩ := k.off OV (fun _ h => h)
       have HVV : Hid _ := hvo
       have HKV : Hid _ := hv
       clear k hvo hv
       have C0 := Cel.new wr 56 #[.int .i64 v.node, .int .i64 v.num, .slice v.ad v.data.length v.cap, .bool v.dead]
       replace OUT := OUT.off ((Off.refl _ wr).alloc (.cells #[.int .i64 v.node, .int .i64 v.num, .slice v.ad v.data.length v.cap, .bool v.dead] 56))
       replace OV := OV.alloc (.cells #[.int .i64 v.node, .int .i64 v.num, .slice v.ad v.data.length v.cap, .bool v.dead] 56)
       generalize hM0 : wr.heap.size = M at C0 OUT
       have HXM : Hid (M ≤ M) := Nat.le_refl _
       go_wp2_with fail
       generalize hV0 : wr.alloc (.cells #[.int .i64 v.node, .int .i64 v.num, .slice v.ad v.data.length v.cap, .bool v.dead] 56) = v1 at C0 OUT OV ⊢
       have HM : Hid (M ≤ v1.drew.heap.size) := by show M ≤ v1.heap.size; rw [← hV0, ← hM0]; simp
       clear hV0 hM0 k0 k1 k2 k3
       have OVd : Off (fun _ => False) w v1.drew := OV.drew
       have OUd := OUT.drew
       refine wp_region_held_drew (S := fun w' => Cel M 56 #[.int .i64 v.node, .int .i64 v.num, .slice v.ad v.data.length v.cap, .bool v.dead] w') (by kernel_rfl) (C0.drew) (fun hS => ?_)
       clear C0
       refine take_at (i := 0) 88 (v := .func (.func 43) #[] #[.pointer (some ⟨w.heap.size, 0, none⟩)]) rfl rfl (by kernel_rfl) (by kernel_rfl) (by kernel_rfl) (fun _ _ _ h => h) (Or.inl ⟨by rfl, fun w' hw' => by go_simp⟩) hS ?_
       simp only [Act.put, lsA, lsZ, lsS]
       refine take_at (i := 1) 89 (v := .agg #[.int .i64 v.node, .int .i64 v.num, .slice v.ad v.data.length v.cap, .bool v.dead]) rfl rfl (by kernel_rfl) (by kernel_rfl) (by kernel_rfl) (fun _ _ _ h => h) (Or.inl ⟨by rfl, fun w' hw' => by obtain ⟨x0, x1, x2, x3⟩ := cel4 hw'; go_simp⟩) hS ?_
       simp only [Act.put, lsA, lsZ, lsS]
       refine take_at (i := 2) 90 (v := .func (.func 46) #[] #[.pointer (some ⟨pB, 0, none⟩)]) rfl rfl (by kernel_rfl) (by kernel_rfl) (by kernel_rfl) (fun _ _ _ h => h) (Or.inl ⟨by rfl, fun w' hw' => by go_simp⟩) hS ?_
       simp only [Act.put, lsA, lsZ, lsS]
       refine take_at (i := 3) 91 (v := .agg #[.int .i64 v.node, .int .i64 v.num, .slice v.ad v.data.length v.cap, .bool v.dead]) rfl rfl (by kernel_rfl) (by kernel_rfl) (by kernel_rfl) (fun _ _ _ h => h) (Or.inl ⟨by rfl, fun w' hw' => by obtain ⟨x0, x1, x2, x3⟩ := cel4 hw'; go_simp⟩) hS ?_
       simp only [Act.put, lsA, lsZ, lsS]
       refine wpAnyH_ready (rs := [4]) (by kernel_rfl) (by simp) ?_
       refine AllReadyH.cons rfl (fun K' hK' => ?_) AllReadyH.nil
       go_simp
       refine (newTo1_any fB v pB _ (HPB.out.off OVd (fun h => h))).mono ?_
       rintro e v2 ⟨rfl, o2⟩
       refine hK'.out _ _ (hS.off o2 (fun h => h)) (fun hS => ?_)
       clear hK' K'
       have oC := OVd.trans o2 (fun _ _ h => h)
       have s2 : M ≤ v2.heap.size := Nat.le_trans HM.out o2.size
       have hv2 := HVV.out.off oC (fun _ _ _ h => h)
       have OU2 := OUd.off o2
       clear OUd OVd o2
       refine wpAnyH_ready (rs := [5]) (by kernel_rfl) (by simp) ?_
       refine AllReadyH.cons rfl (fun K' hK' => ?_) AllReadyH.nil
       go_simp
       refine (take_any w.heap.size M w.heap.size l v _ v2 OU2 hv2 (by omega) oC.size s2).mono ?_
       rintro e v3 ⟨rfl, l', hl', OUT', o3⟩
       refine hK'.out _ _ (hS.off o3 (fun h => by have := h.2; have := HXM.out; omega)) (fun hS => ?_)
       clear hK' K'
       have oD : Off (fun _ => False) w v3 := oC.trans o3 (fun i hi h => by omega)
       have hln := abs_len hl'
       have HO3 : Hid _ := oD
       have HOUT : Hid _ := OUT'
       have HL3 : Hid _ := hl'
       clear oC o3 s2 hv2 oD OUT' hl' hS OU2 OV OUT
       refine wpAnyH_done (by kernel_rfl) ?_ _
       go_wp2_with fail
       go_roundw
       case rel => exact ⟨n + 1, l', by go_num, by omega, HOUT.out, by omega, HO3.out, by rw [HL3.out, ← HT.out, filter_step HKV.out]; simp [nc, V.abs]⟩
       case measure => simp [intOf]; omega
      ·obtain rfl : n = l2x.length := by omega
       have e1 : decide ((l2x.length : Int) < (l2x.length : Int)) = false := decide_eq_false (by omega)
       have e2 : decide (l2x.length < l2x.length) = false := decide_eq_false (by omega)
       have HOUT : Hid _ := OUT
       obtain ⟨hlo, a9, c9, hc9, own9, hr9, hv9⟩ := OUT
       have x9 := hc9.cell 0
       simp at x9
       clear hc9 HOUT
       have HO9 : Hid _ := own9
       have HV9 : Hid _ := hv9
       have HR9 : Hid _ := hr9
       have HOV : Hid _ := OV
       clear own9 hv9 hr9 OV hlo
       go_wp2_with fail
       go_ret
       refine ⟨a9, c9, l, rfl, HO9.out, fun v hv => ⟨(HV9.out v hv).1, (HV9.out v hv).2.1, fun k hk => ⟨((HV9.out v hv).2.2 k hk).1, ((HV9.out v hv).2.2 k hk).2.2⟩⟩, fun k hk => (HR9.out k hk).1, ?_, HOV.out⟩
       have := HT.out
       simpa [cont] using this
  ·rcases nil_or (l := l2x) with hl2 | ⟨y, ys, hl2⟩
   ·obtain ⟨t0, t1, t2, t3⟩ := test_pos hl1
    obtain ⟨t4, t5, t6⟩ := test_zero hl2
    have HNIL : Hid (cont l1x = [] ∨ cont l2x = []) := .inr (by rw [hl2]; rfl)
    clear hl1 hl2
    go_wp2_with fail
    go_loopw [71] (fun y wr => ∃ (n : Nat) (l : List V), y = .int .i64 (n : Int) ∧ n ≤ l1x.length ∧ Out w.heap.size wr.heap.size w.heap.size l wr ∧ l.length + (l1x.length - n) ≤ 900 - l2x.length ∧ Off (fun _ => False) w wr ∧ cont l ++ ((cont (l1x.drop n)).filter (nc fA) ++ (cont l2x).filter (nc fB)) = TGT) (fun y _ => (l1x.length - intOf y).toNat)
    case atStart => exact ⟨0, l, rfl, by omega, OUT, by omega, OV, by rw [List.drop_zero, ← mergeA_nil _ _ _ _ HNIL.out]; exact HT.out⟩
    case round =>
     obtain ⟨n, l, rfl, hn, OUT, hb, OV, ht⟩ := hrel
     have HT : Hid _ := ht
     clear ht
     by_cases hlt : n < l1x.length
     ·have e1 : decide ((n : Int) < (l1x.length : Int)) = true := decide_eq_true (by omega)
      have e2 : decide (n < l1x.length) = true := decide_eq_true hlt
      obtain ⟨v, hv⟩ : ∃ v, l1x[n]? = some v := ⟨_, List.getElem?_eq_getElem hlt⟩
      obtain ⟨b0, o0, rfl, k, hvo⟩ := hr1.at_ n v hv
      obtain ⟨k0, k1, k2, k3⟩ := k.off OV (fun _ h => h)
      have HVV : Hid _ := hvo
      have HKV : Hid _ := hv
      clear k hvo hv
      have C0 := Cel.new wr 56 #[.int .i64 v.node, .int .i64 v.num, .slice v.ad v.data.length v.cap, .bool v.dead]
      replace OUT := OUT.off ((Off.refl _ wr).alloc (.cells #[.int .i64 v.node, .int .i64 v.num, .slice v.ad v.data.length v.cap, .bool v.dead] 56))
      replace OV := OV.alloc (.cells #[.int .i64 v.node, .int .i64 v.num, .slice v.ad v.data.length v.cap, .bool v.dead] 56)
      generalize hM0 : wr.heap.size = M at C0 OUT
      have HXM : Hid (M ≤ M) := Nat.le_refl _
      go_wp2_with fail
      generalize hV0 : wr.alloc (.cells #[.int .i64 v.node, .int .i64 v.num, .slice v.ad v.data.length v.cap, .bool v.dead] 56) = v1 at C0 OUT OV ⊢
      have HM : Hid (M ≤ v1.drew.heap.size) := by show M ≤ v1.heap.size; rw [← hV0, ← hM0]; simp
      clear hV0 hM0 k0 k1 k2 k3
      have OVd : Off (fun _ => False) w v1.drew := OV.drew
      have OUd := OUT.drew
      refine wp_region_held_drew (S := fun w' => Cel M 56 #[.int .i64 v.node, .int .i64 v.num, .slice v.ad v.data.length v.cap, .bool v.dead] w') (by kernel_rfl) (C0.drew) (fun hS => ?_)
      clear C0
      refine take_at (i := 0) 75 (v := .func (.func 43) #[] #[.pointer (some ⟨w.heap.size, 0, none⟩)]) rfl rfl (by kernel_rfl) (by kernel_rfl) (by kernel_rfl) (fun _ _ _ h => h) (Or.inl ⟨by rfl, fun w' hw' => by go_simp⟩) hS ?_
      simp only [Act.put, lsA, lsZ, lsS]
      refine take_at (i := 1) 76 (v := .agg #[.int .i64 v.node, .int .i64 v.num, .slice v.ad v.data.length v.cap, .bool v.dead]) rfl rfl (by kernel_rfl) (by kernel_rfl) (by kernel_rfl) (fun _ _ _ h => h) (Or.inl ⟨by rfl, fun w' hw' => by obtain ⟨x0, x1, x2, x3⟩ := cel4 hw'; go_simp⟩) hS ?_
      simp only [Act.put, lsA, lsZ, lsS]
      refine take_at (i := 2) 77 (v := .func (.func 46) #[] #[.pointer (some ⟨pA, 0, none⟩)]) rfl rfl (by kernel_rfl) (by kernel_rfl) (by kernel_rfl) (fun _ _ _ h => h) (Or.inl ⟨by rfl, fun w' hw' => by go_simp⟩) hS ?_
      simp only [Act.put, lsA, lsZ, lsS]
      refine take_at (i := 3) 78 (v := .agg #[.int .i64 v.node, .int .i64 v.num, .slice v.ad v.data.length v.cap, .bool v.dead]) rfl rfl (by kernel_rfl) (by kernel_rfl) (by kernel_rfl) (fun _ _ _ h => h) (Or.inl ⟨by rfl, fun w' hw' => by obtain ⟨x0, x1, x2, x3⟩ := cel4 hw'; go_simp⟩) hS ?_
      simp only [Act.put, lsA, lsZ, lsS]
      refine wpAnyH_ready (rs := [4]) (by kernel_rfl) (by simp) ?_
      refine AllReadyH.cons rfl (fun K' hK' => ?_) AllReadyH.nil
      go_simp
      refine (newTo1_any fA v pA _ (HPA.out.off OVd (fun h => h))).mono ?_
      rintro e v2 ⟨rfl, o2⟩
      refine hK'.out _ _ (hS.off o2 (fun h => h)) (fun hS => ?_)
      clear hK' K'
      have oC := OVd.trans o2 (fun _ _ h => h)
      have s2 : M ≤ v2.heap.size := Nat.le_trans HM.out o2.size
      have hv2 := HVV.out.off oC (fun _ _ _ h => h)
      have OU2 := OUd.off o2
      clear OUd OVd o2
      refine wpAnyH_ready (rs := [5]) (by kernel_rfl) (by simp) ?_
      refine AllReadyH.cons rfl (fun K' hK' => ?_) AllReadyH.nil
      go_simp
      refine (take_any w.heap.size M w.heap.size l v _ v2 OU2 hv2 (by omega) oC.size s2).mono ?_
      rintro e v3 ⟨rfl, l', hl', OUT', o3⟩
      refine hK'.out _ _ (hS.off o3 (fun h => by have := h.2; have := HXM.out; omega)) (fun hS => ?_)
      clear hK' K'
      have oD : Off (fun _ => False) w v3 := oC.trans o3 (fun i hi h => by omega)
      have hln := abs_len hl'
      have HO3 : Hid _ := oD
      have HOUT : Hid _ := OUT'
      have HL3 : Hid _ := hl'
      clear oC o3 s2 hv2 oD OUT' hl' hS OU2 OV OUT
      refine wpAnyH_done (by kernel_rfl) ?_ _
      go_wp2_with fail
      go_roundw
      case rel => exact ⟨n + 1, l', by go_num, by omega, HOUT.out, by omega, HO3.out, by rw [HL3.out, ← HT.out, filter_step HKV.out]; simp [nc, V.abs]⟩
      case measure => simp [intOf]; omega
     ·obtain rfl : n = l1x.length := by omega
      have e1 : decide ((l1x.length : Int) < (l1x.length : Int)) = false := decide_eq_false (by omega)
      have e2 : decide (l1x.length < l1x.length) = false := decide_eq_false (by omega)
      go_wp2_with fail
      go_loopw [84] (fun y wr => ∃ (n : Nat) (l : List V), y = .int .i64 (n : Int) ∧ n ≤ l2x.length ∧ Out w.heap.size wr.heap.size w.heap.size l wr ∧ l.length + (l2x.length - n) ≤ 900 ∧ Off (fun _ => False) w wr ∧ cont l ++ (cont (l2x.drop n)).filter (nc fB) = TGT) (fun y _ => (l2x.length - intOf y).toNat)
      case atStart => exact ⟨0, l, rfl, by omega, OUT, by omega, OV, by have := HT.out; simpa [cont] using this⟩
      case round =>
       obtain ⟨n, l, rfl, hn, OUT, hb, OV, ht⟩ := hrel
       have HT : Hid _ := ht
       clear ht
       by_cases hlt : n < l2x.length
       ·have e1 : decide ((n : Int) < (l2x.length : Int)) = true := decide_eq_true (by omega)
        have e2 : decide (n < l2x.length) = true := decide_eq_true hlt
        obtain ⟨v, hv⟩ : ∃ v, l2x[n]? = some v := ⟨_, List.getElem?_eq_getElem hlt⟩
        obtain ⟨b0, o0, rfl, k, hvo⟩ := hr2.at_ n v hv
        obtain ⟨k0, k1, k2, k3⟩ := k.off OV (fun _ h => h)
        have HVV : Hid _ := hvo
        have HKV : Hid _ := hv
        clear k hvo hv
        have C0 := Cel.new wr 56 #[.int .i64 v.node, .int .i64 v.num, .slice v.ad v.data.length v.cap, .bool v.dead]
        replace OUT := OUT.off ((Off.refl _ wr).alloc (.cells #[.int .i64 v.node, .int .i64 v.num, .slice v.ad v.data.length v.cap, .bool v.dead] 56))
        replace OV := OV.alloc (.cells #[.int .i64 v.node, .int .i64 v.num, .slice v.ad v.data.length v.cap, .bool v.dead] 56)
        generalize hM0 : wr.heap.size = M at C0 OUT
        have HXM : Hid (M ≤ M) := Nat.le_refl _
        go_wp2_with fail
        generalize hV0 : wr.alloc (.cells #[.int .i64 v.node, .int .i64 v.num, .slice v.ad v.data.length v.cap, .bool v.dead] 56) = v1 at C0 OUT OV ⊢
        have HM : Hid (M ≤ v1.drew.heap.size) := by show M ≤ v1.heap.size; rw [← hV0, ← hM0]; simp
        clear hV0 hM0 k0 k1 k2 k3
        have OVd : Off (fun _ => False) w v1.drew := OV.drew
        have OUd := OUT.drew
        refine wp_region_held_drew (S := fun w' => Cel M 56 #[.int .i64 v.node, .int .i64 v.num, .slice v.ad v.data.length v.cap, .bool v.dead] w') (by kernel_rfl) (C0.drew) (fun hS => ?_)
        clear C0
        refine take_at (i := 0) 88 (v := .func (.func 43) #[] #[.pointer (some ⟨w.heap.size, 0, none⟩)]) rfl rfl (by kernel_rfl) (by kernel_rfl) (by kernel_rfl) (fun _ _ _ h => h) (Or.inl ⟨by rfl, fun w' hw' => by go_simp⟩) hS ?_
        simp only [Act.put, lsA, lsZ, lsS]
        refine take_at (i := 1) 89 (v := .agg #[.int .i64 v.node, .int .i64 v.num, .slice v.ad v.data.length v.cap, .bool v.dead]) rfl rfl (by kernel_rfl) (by kernel_rfl) (by kernel_rfl) (fun _ _ _ h => h) (Or.inl ⟨by rfl, fun w' hw' => by obtain ⟨x0, x1, x2, x3⟩ := cel4 hw'; go_simp⟩) hS ?_
        simp only [Act.put, lsA, lsZ, lsS]
        refine take_at (i := 2) 90 (v := .func (.func 46) #[] #[.pointer (some ⟨pB, 0, none⟩)]) rfl rfl (by kernel_rfl) (by kernel_rfl) (by kernel_rfl) (fun _ _ _ h => h) (Or.inl ⟨by rfl, fun w' hw' => by go_simp⟩) hS ?_
        simp only [Act.put, lsA, lsZ, lsS]
        refine take_at (i := 3) 91 (v := .agg #[.int .i64 v.node, .int .i64 v.num, .slice v.ad v.data.length v.cap, .bool v.dead]) rfl rfl (by kernel_rfl) (by kernel_rfl) (by kernel_rfl) (fun _ _ _ h => h) (Or.inl ⟨by rfl, fun w' hw' => by obtain ⟨x0, x1, x2, x3⟩ := cel4 hw'; go_simp⟩) hS ?_
        simp only [Act.put, lsA, lsZ, lsS]
        refine wpAnyH_ready (rs := [4]) (by kernel_rfl) (by simp) ?_
        refine AllReadyH.cons rfl (fun K' hK' => ?_) AllReadyH.nil
        go_simp
        refine (newTo1_any fB v pB _ (HPB.out.off OVd (fun h => h))).mono ?_
        rintro e v2 ⟨rfl, o2⟩
        refine hK'.out _ _ (hS.off o2 (fun h => h)) (fun hS => ?_)
        clear hK' K'
        have oC := OVd.trans o2 (fun _ _ h => h)
        have s2 : M ≤ v2.heap.size := Nat.le_trans HM.out o2.size
        have hv2 := HVV.out.off oC (fun _ _ _ h => h)
        have OU2 := OUd.off o2
        clear OUd OVd o2
        refine wpAnyH_ready (rs := [5]) (by kernel_rfl) (by simp) ?_
        refine AllReadyH.cons rfl (fun K' hK' => ?_) AllReadyH.nil
        go_simp
        refine (take_any w.heap.size M w.heap.size l v _ v2 OU2 hv2 (by omega) oC.size s2).mono ?_
        rintro e v3 ⟨rfl, l', hl', OUT', o3⟩
        refine hK'.out _ _ (hS.off o3 (fun h => by have := h.2; have := HXM.out; omega)) (fun hS => ?_)
        clear hK' K'
        have oD : Off (fun _ => False) w v3 := oC.trans o3 (fun i hi h => by omega)
        have hln := abs_len hl'
        have HO3 : Hid _ := oD
        have HOUT : Hid _ := OUT'
        have HL3 : Hid _ := hl'
        clear oC o3 s2 hv2 oD OUT' hl' hS OU2 OV OUT
        refine wpAnyH_done (by kernel_rfl) ?_ _
        go_wp2_with fail
        go_roundw
        case rel => exact ⟨n + 1, l', by go_num, by omega, HOUT.out, by omega, HO3.out, by rw [HL3.out, ← HT.out, filter_step HKV.out]; simp [nc, V.abs]⟩
        case measure => simp [intOf]; omega
       ·obtain rfl : n = l2x.length := by omega
        have e1 : decide ((l2x.length : Int) < (l2x.length : Int)) = false := decide_eq_false (by omega)
        have e2 : decide (l2x.length < l2x.length) = false := decide_eq_false (by omega)
        have HOUT : Hid _ := OUT
        obtain ⟨hlo, a9, c9, hc9, own9, hr9, hv9⟩ := OUT
        have x9 := hc9.cell 0
        simp at x9
        clear hc9 HOUT
        have HO9 : Hid _ := own9
        have HV9 : Hid _ := hv9
        have HR9 : Hid _ := hr9
        have HOV : Hid _ := OV
        clear own9 hv9 hr9 OV hlo
        go_wp2_with fail
        go_ret
        refine ⟨a9, c9, l, rfl, HO9.out, fun v hv => ⟨(HV9.out v hv).1, (HV9.out v hv).2.1, fun k hk => ⟨((HV9.out v hv).2.2 k hk).1, ((HV9.out v hv).2.2 k hk).2.2⟩⟩, fun k hk => (HR9.out k hk).1, ?_, HOV.out⟩
        have := HT.out
        simpa [cont] using this
   ·obtain ⟨t0, t1, t2, t3⟩ := test_pos hl1
    obtain ⟨t4, t5, t6, t7⟩ := test_pos hl2
    obtain ⟨bx, ox1, rfl, kx, vx⟩ := hr1.head hl1
    obtain ⟨by1, oy1, rfl, ky, vy⟩ := hr2.head hl2
    have HN1 : Hid _ := len_cons hl1
    have HN2 : Hid _ := len_cons hl2
    have HE1 : Hid _ := hl1
    have HE2 : Hid _ := hl2
    have HVX : Hid _ := vx
    have HVY : Hid _ := vy
    have HKX : Hid _ := kx.off OV (fun _ h => h)
    have HKY : Hid _ := ky.off OV (fun _ h => h)
    have HOW : Hid _ := OV
    obtain ⟨M, hM⟩ : ∃ M, M = wr.heap.size := ⟨_, rfl⟩
    rw [← hM] at OUT
    have HMM : Hid _ := hM
    have HOU : Hid _ := OUT
    clear hl1 hl2 vx vy kx ky OV hM OUT
    go_wp2_with fail
    refine wp_region_held_drew (S := fun w' => Off (fun _ => False) wr w') (by kernel_rfl) ((Off.refl _ wr).drew) (fun hS => ?_)
    refine take_at (i := 0) 26 (v := .slice (some ⟨bx, ox1, none⟩) l1x.length cx) rfl rfl (by kernel_rfl) (by kernel_rfl) (by kernel_rfl) (fun _ _ _ h => h) (Or.inl ⟨by rfl, fun w' hw' => by go_simp⟩) hS ?_
    simp only [Act.put, lsA, lsZ, lsS]
    refine take_at (i := 1) 27 (v := .pointer (some ⟨bx, ox1, none⟩)) rfl rfl (by kernel_rfl) (by kernel_rfl) (by kernel_rfl) (fun _ _ _ h => h) (Or.inl ⟨by rfl, fun w' hw' => by go_simp⟩) hS ?_
    simp only [Act.put, lsA, lsZ, lsS]
    refine take_at (i := 2) 28 (v := .agg #[.int .i64 x.node, .int .i64 x.num, .slice x.ad x.data.length x.cap, .bool x.dead]) rfl rfl (by kernel_rfl) (by kernel_rfl) (by kernel_rfl) (fun _ _ _ h => h) (Or.inl ⟨by rfl, fun w' hw' => by obtain ⟨x0, x1, x2, x3⟩ := HKX.out.off hw' (fun _ h => h); go_simp⟩) hS ?_
    simp only [Act.put, lsA, lsZ, lsS]
    refine take_at (i := 3) 29 (v := .slice (some ⟨by1, oy1, none⟩) l2x.length cy) rfl rfl (by kernel_rfl) (by kernel_rfl) (by kernel_rfl) (fun _ _ _ h => h) (Or.inl ⟨by rfl, fun w' hw' => by go_simp⟩) hS ?_
    simp only [Act.put, lsA, lsZ, lsS]
    refine take_at (i := 4) 30 (v := .pointer (some ⟨by1, oy1, none⟩)) rfl rfl (by kernel_rfl) (by kernel_rfl) (by kernel_rfl) (fun _ _ _ h => h) (Or.inl ⟨by rfl, fun w' hw' => by go_simp⟩) hS ?_
    simp only [Act.put, lsA, lsZ, lsS]
    refine take_at (i := 5) 31 (v := .agg #[.int .i64 y.node, .int .i64 y.num, .slice y.ad y.data.length y.cap, .bool y.dead]) rfl rfl (by kernel_rfl) (by kernel_rfl) (by kernel_rfl) (fun _ _ _ h => h) (Or.inl ⟨by rfl, fun w' hw' => by obtain ⟨x0, x1, x2, x3⟩ := HKY.out.off hw' (fun _ h => h); go_simp⟩) hS ?_
    simp only [Act.put, lsA, lsZ, lsS]
    refine wpAnyH_ready (rs := [6, 7]) (by kernel_rfl) (by simp) ?_
    refine AllReadyH.cons rfl (fun K' hK' => ?_) (AllReadyH.cons rfl (fun K' hK' => ?_) AllReadyH.nil)
    ·go_simp
     refine hK'.out _ _ (hS.alloc _) (fun hS => ?_)
     clear hK' K'
     refine wpAnyH_ready (rs := [7]) (by kernel_rfl) (by simp) ?_
     refine AllReadyH.cons rfl (fun K' hK' => ?_) AllReadyH.nil
     go_simp
     refine hK'.out _ _ (hS.alloc _) (fun hS => ?_)
     clear hK' K'
     obtain ⟨V0, hV0⟩ : ∃ V0, V0 = ((wr.alloc (.cells #[.int .i64 0, .int .i64 0, .slice none 0 0, .bool false] 56)).alloc (.cells #[.int .i64 0, .int .i64 0, .slice none 0 0, .bool false] 56)).drew := ⟨_, rfl⟩
     have D0 : Cel wr.heap.size 56 #[.int .i64 zeroV.node, .int .i64 zeroV.num, .slice zeroV.ad zeroV.data.length zeroV.cap, .bool zeroV.dead] V0 := by rw [hV0]; exact ((Cel.new wr _ _).alloc _).drew
     have D1 : Cel (wr.heap.size + 1) 56 #[.int .i64 zeroV.node, .int .i64 zeroV.num, .slice zeroV.ad zeroV.data.length zeroV.cap, .bool zeroV.dead] V0 := by rw [hV0]; exact (Cel.new1 wr _ _ _).drew
     rw [← hV0] at hS ⊢
     clear hV0
     generalize hX : wr.heap.size = X0 at D0 D1 hS ⊢
     generalize hY : X0 + 1 = Y0 at D1 hS ⊢
     have hXY : X0 ≠ Y0 := by omega
     obtain ⟨x0, x1, x2, x3⟩ := cel4 D0
     have fx := (D0).free
     refine wpAnyH_ready (rs := [8]) (by kernel_rfl) (by simp) ?_
     refine AllReadyH.cons rfl (fun K' hK' => ?_) AllReadyH.nil
     go_simp
     have hS1 := hS.st4 (b := X0) (.inr (by omega)) x
     refine hK'.out _ _ hS1 (fun hS => ?_)
     clear hK' K' hS1 x0 x1 x2 x3 fx
     have E0 := D0.st4 x
     have E1 := D1.st4o (b := X0) (by omega) x
     clear D0 D1
     generalize hV1 : ((((V0.setCell ⟨X0, 0, none⟩ (.int .i64 x.node)).setCell ⟨X0, 1, none⟩ (.int .i64 x.num)).setCell ⟨X0, 2, none⟩ (.slice x.ad x.data.length x.cap)).setCell ⟨X0, 3, none⟩ (.bool x.dead)) = V1 at E0 E1 hS ⊢
     clear hV1
     obtain ⟨x0, x1, x2, x3⟩ := cel4 E1
     have fx := E1.free
     refine wpAnyH_ready (rs := [9]) (by kernel_rfl) (by simp) ?_
     refine AllReadyH.cons rfl (fun K' hK' => ?_) AllReadyH.nil
     go_simp
     have hS1 := hS.st4 (b := Y0) (.inr (by omega)) y
     refine hK'.out _ _ hS1 (fun hS => ?_)
     clear hK' K' hS1 x0 x1 x2 x3 fx
     have CX := E0.st4o (b := Y0) (by omega) y
     have CY := E1.st4 y
     clear E0 E1
     generalize hV2 : ((((V1.setCell ⟨Y0, 0, none⟩ (.int .i64 y.node)).setCell ⟨Y0, 1, none⟩ (.int .i64 y.num)).setCell ⟨Y0, 2, none⟩ (.slice y.ad y.data.length y.cap)).setCell ⟨Y0, 3, none⟩ (.bool y.dead)) = V at CX CY hS ⊢
     clear hV2
     have OUT := HOU.out.off hS
     have OV := HOW.out.trans hS (fun _ _ h => h)
     have hsV : M ≤ V.heap.size := by have := hS.size; have := HMM.out; omega
     have HXM : Hid (M ≤ X0) := by show M ≤ X0; have := HMM.out; omega
     have HYM : Hid (M ≤ Y0) := by show M ≤ Y0; have := HMM.out; omega
     clear hS hX hY hXY
     refine wpAnyH_done (by kernel_rfl) ?_ _
     generalize X0 = X at CX HXM ⊢
     generalize Y0 = Y at CY HYM ⊢
     obtain ⟨x0, x1, x2, x3⟩ := cel4 CX
     obtain ⟨y0, y1, y2, y3⟩ := cel4 CY
     cases hxy : lessB x.node x.num y.node y.num
     ·go_wp2_with fail
      refine (less_any _ _ _ _ _).mono ?_
      rw [hxy]
      rintro e v1 ⟨rfl, o1⟩
      replace CX := CX.off o1 (fun h => h)
      replace CY := CY.off o1 (fun h => h)
      replace OV := OV.trans o1 (fun _ _ h => h)
      replace OUT := OUT.off o1
      have hsV1 := Nat.le_trans hsV o1.size
      clear o1 x0 x1 x2 x3 y0 y1 y2 y3 hsV
      obtain ⟨x0, x1, x2, x3⟩ := cel4 CX
      obtain ⟨y0, y1, y2, y3⟩ := cel4 CY
      cases hyx : lessB y.node y.num x.node x.num
      ·obtain ⟨z, hz⟩ : ∃ z, z = firstV x y := ⟨_, rfl⟩
       have HZ : Hid _ := hz
       clear hz
       go_wp2_with fail
       refine (less_any _ _ _ _ _).mono ?_
       rw [hyx]
       rintro e v4 ⟨rfl, o4⟩
       replace CX := CX.off o4 (fun h => h)
       replace CY := CY.off o4 (fun h => h)
       replace OV := OV.trans o4 (fun _ _ h => h)
       replace OUT := OUT.off o4
       have hsV4 := Nat.le_trans hsV1 o4.size
       clear o4 x0 x1 x2 x3 y0 y1 y2 y3 hsV1
       obtain ⟨x0, x1, x2, x3⟩ := cel4 CX
       obtain ⟨y0, y1, y2, y3⟩ := cel4 CY
       obtain ⟨a', ht, hr'⟩ := hr1.tail' HE1.out
       obtain ⟨a2', ht2, hr2'⟩ := hr2.tail' HE2.out
       go_wp2_with fail
       have ox := HVX.out.off OV (fun _ _ _ h => h)
       have oy := HVY.out.off OV (fun _ _ _ h => h)
       refine (first_any x y _ ox oy).mono ?_
       rw [← HZ.out]
       rintro e v5 ⟨rfl, o5⟩
       have OV5 := OV.trans o5 (fun _ _ h => h)
       have OUT5 := OUT.off o5
       have oz : VOk v5 z := by rw [HZ.out]; exact (firstV_ok ox oy).off o5 (fun _ _ _ h => h)
       have s5 := Nat.le_trans hsV4 o5.size
       clear o5 x0 x1 x2 x3 y0 y1 y2 y3 CX CY ox oy OV OUT hsV4
       go_wp2_with fail
       refine (take_any w.heap.size M w.heap.size l z true v5 OUT5 oz (by omega) OV5.size s5).mono ?_
       rintro e v3 ⟨rfl, l', hl', OUT', o3⟩
       have oD : Off (fun _ => False) w v3 := OV5.trans o3 (fun i hi h => by omega)
       have hln := abs_len hl'
       have HO3 : Hid _ := oD
       have HOUT : Hid _ := OUT'
       have HL3 : Hid _ := hl'
       clear o3 oD OUT' hl' OV5 OUT5 oz s5
       go_wp2_with fail
       refine wp_region_held_drew (S := fun _ => True) (by kernel_rfl) trivial (fun hS => ?_)
       refine take_at (i := 0) 37 (v := .slice (some ⟨bx, ox1, none⟩) l1x.length cx) rfl rfl (by kernel_rfl) (by kernel_rfl) (by kernel_rfl) (fun _ _ _ h => h) (Or.inl ⟨by rfl, fun w' hw' => by go_simp⟩) hS ?_
       simp only [Act.put, lsA, lsZ, lsS]
       refine take_at (i := 1) 38 (v := .slice a' xs.length (cx - 1)) rfl rfl (by kernel_rfl) (by kernel_rfl) (by kernel_rfl) (fun _ _ _ h => h) (Or.inl ⟨by rfl, fun w' hw' => by go_simp⟩) hS ?_
       simp only [Act.put, lsA, lsZ, lsS]
       refine take_at (i := 2) 39 (v := .slice (some ⟨by1, oy1, none⟩) l2x.length cy) rfl rfl (by kernel_rfl) (by kernel_rfl) (by kernel_rfl) (fun _ _ _ h => h) (Or.inl ⟨by rfl, fun w' hw' => by go_simp⟩) hS ?_
       simp only [Act.put, lsA, lsZ, lsS]
       refine take_at (i := 3) 40 (v := .slice a2' ys.length (cy - 1)) rfl rfl (by kernel_rfl) (by kernel_rfl) (by kernel_rfl) (fun _ _ _ h => h) (Or.inl ⟨by rfl, fun w' hw' => by go_simp⟩) hS ?_
       simp only [Act.put, lsA, lsZ, lsS]
       refine take_at (i := 4) 0 (v := .slice a' xs.length (cx - 1)) rfl rfl (by kernel_rfl) (by kernel_rfl) (by kernel_rfl) (fun _ _ _ h => h) (Or.inl ⟨by rfl, fun w' hw' => by go_simp⟩) hS ?_
       simp only [Act.put, List.setIfInBounds_toArray, List.set_cons_zero]
       refine take_at (i := 5) 1 (v := .slice a2' ys.length (cy - 1)) rfl rfl (by kernel_rfl) (by kernel_rfl) (by kernel_rfl) (fun _ _ _ h => h) (Or.inl ⟨by rfl, fun w' hw' => by go_simp⟩) hS ?_
       simp only [Act.put, lsA, lsZ, lsS]
       refine wpAnyH_done (by kernel_rfl) ?_ _
       go_wp2_with fail
       go_roundw
       case rel => exact ⟨_, _, xs, _, _, ys, l', rfl, rfl, hr', hr2', HOUT.out.drew, by have h1 := HN1.out; have h2 := HN2.out; omega, HO3.out.drew, by rw [HL3.out, ← HT.out, HE1.out, HE2.out, cont_cons, cont_cons, mergeA_eq (x := x.abs) (y := y.abs) _ _ _ _ hxy hyx, List.append_assoc, HZ.out, firstV_abs]; rfl⟩
       case measure =>
        have h1 := HN1.out
        have h2 := HN2.out
        simp [slLen]
        omega
      ·have CX0 := CX
       clear CX0
       obtain ⟨a', ht, hr'⟩ := hr2.tail' HE2.out
       go_wp2_with fail
       refine (less_any _ _ _ _ _).mono ?_
       rw [hyx]
       rintro e v4 ⟨rfl, o4⟩
       replace CY := CY.off o4 (fun h => h)
       replace OV := OV.trans o4 (fun _ _ h => h)
       replace OUT := OUT.off o4
       have HM : Hid (M ≤ v4.drew.heap.size) := Nat.le_trans hsV1 o4.size
       have HXM0 := HXM
       clear HXM
       have HXM : Hid _ := HYM.out
       clear o4 x0 x1 x2 x3 y0 y1 y2 y3 CX hsV1
       go_wp2_with fail
       have OVd : Off (fun _ => False) w v4.drew := OV.drew
       have OUd := OUT.drew
       refine wp_region_held_drew (S := fun w' => Cel Y 56 #[.int .i64 y.node, .int .i64 y.num, .slice y.ad y.data.length y.cap, .bool y.dead] w') (by kernel_rfl) (CY.drew) (fun hS => ?_)
       clear CY
       refine take_at (i := 0) 61 (v := .func (.func 43) #[] #[.pointer (some ⟨w.heap.size, 0, none⟩)]) rfl rfl (by kernel_rfl) (by kernel_rfl) (by kernel_rfl) (fun _ _ _ h => h) (Or.inl ⟨by rfl, fun w' hw' => by go_simp⟩) hS ?_
       simp only [Act.put, lsA, lsZ, lsS]
       refine take_at (i := 1) 62 (v := .agg #[.int .i64 y.node, .int .i64 y.num, .slice y.ad y.data.length y.cap, .bool y.dead]) rfl rfl (by kernel_rfl) (by kernel_rfl) (by kernel_rfl) (fun _ _ _ h => h) (Or.inl ⟨by rfl, fun w' hw' => by obtain ⟨x0, x1, x2, x3⟩ := cel4 hw'; go_simp⟩) hS ?_
       simp only [Act.put, lsA, lsZ, lsS]
       refine take_at (i := 2) 63 (v := .func (.func 46) #[] #[.pointer (some ⟨pB, 0, none⟩)]) rfl rfl (by kernel_rfl) (by kernel_rfl) (by kernel_rfl) (fun _ _ _ h => h) (Or.inl ⟨by rfl, fun w' hw' => by go_simp⟩) hS ?_
       simp only [Act.put, lsA, lsZ, lsS]
       refine take_at (i := 3) 64 (v := .agg #[.int .i64 y.node, .int .i64 y.num, .slice y.ad y.data.length y.cap, .bool y.dead]) rfl rfl (by kernel_rfl) (by kernel_rfl) (by kernel_rfl) (fun _ _ _ h => h) (Or.inl ⟨by rfl, fun w' hw' => by obtain ⟨x0, x1, x2, x3⟩ := cel4 hw'; go_simp⟩) hS ?_
       simp only [Act.put, lsA, lsZ, lsS]
       refine wpAnyH_ready (rs := [4]) (by kernel_rfl) (by simp) ?_
       refine AllReadyH.cons rfl (fun K' hK' => ?_) AllReadyH.nil
       go_simp
       refine (newTo1_any fB y pB _ (HPB.out.off OVd (fun h => h))).mono ?_
       rintro e v2 ⟨rfl, o2⟩
       refine hK'.out _ _ (hS.off o2 (fun h => h)) (fun hS => ?_)
       clear hK' K'
       have oC := OVd.trans o2 (fun _ _ h => h)
       have s2 : M ≤ v2.heap.size := Nat.le_trans HM.out o2.size
       have hv2 := HVY.out.off oC (fun _ _ _ h => h)
       have OU2 := OUd.off o2
       clear OUd OVd o2
       refine wpAnyH_ready (rs := [5]) (by kernel_rfl) (by simp) ?_
       refine AllReadyH.cons rfl (fun K' hK' => ?_) AllReadyH.nil
       go_simp
       refine (take_any w.heap.size M w.heap.size l y _ v2 OU2 hv2 (by omega) oC.size s2).mono ?_
       rintro e v3 ⟨rfl, l', hl', OUT', o3⟩
       refine hK'.out _ _ (hS.off o3 (fun h => by have := h.2; have := HXM.out; omega)) (fun hS => ?_)
       clear hK' K'
       have oD : Off (fun _ => False) w v3 := oC.trans o3 (fun i hi h => by omega)
       have hln := abs_len hl'
       have HO3 : Hid _ := oD
       have HOUT : Hid _ := OUT'
       have HL3 : Hid _ := hl'
       clear oC o3 s2 hv2 oD OUT' hl' hS OU2 OV OUT
       refine wpAnyH_done (by kernel_rfl) ?_ _
       go_wp2_with fail
       go_roundw
       case rel => exact ⟨_, _, l1x, _, _, ys, l', rfl, rfl, hr1, hr', HOUT.out, by have h1 := HN1.out; have h2 := HN2.out; omega, HO3.out, by rw [HL3.out, ← HT.out, HE1.out, HE2.out, cont_cons, cont_cons, mergeA_gt (x := x.abs) (y := y.abs) _ _ _ _ hxy hyx, List.append_assoc]; rfl⟩
       case measure =>
        have h1 := HN1.out
        have h2 := HN2.out
        simp [slLen]
        omega
     ·go_wp2_with fail
      refine (less_any _ _ _ _ _).mono ?_
      rw [hxy]
      rintro e v1 ⟨rfl, o1⟩
      replace CX := CX.off o1 (fun h => h)
      replace OV := OV.trans o1 (fun _ _ h => h)
      replace OUT := OUT.off o1
      have HM : Hid (M ≤ v1.drew.heap.size) := Nat.le_trans hsV o1.size
      clear o1 x0 x1 x2 x3 y0 y1 y2 y3 CY hsV
      obtain ⟨a', ht, hr'⟩ := hr1.tail' HE1.out
      go_wp2_with fail
      have OVd : Off (fun _ => False) w v1.drew := OV.drew
      have OUd := OUT.drew
      refine wp_region_held_drew (S := fun w' => Cel X 56 #[.int .i64 x.node, .int .i64 x.num, .slice x.ad x.data.length x.cap, .bool x.dead] w') (by kernel_rfl) (CX.drew) (fun hS => ?_)
      clear CX
      refine take_at (i := 0) 47 (v := .func (.func 43) #[] #[.pointer (some ⟨w.heap.size, 0, none⟩)]) rfl rfl (by kernel_rfl) (by kernel_rfl) (by kernel_rfl) (fun _ _ _ h => h) (Or.inl ⟨by rfl, fun w' hw' => by go_simp⟩) hS ?_
      simp only [Act.put, lsA, lsZ, lsS]
      refine take_at (i := 1) 48 (v := .agg #[.int .i64 x.node, .int .i64 x.num, .slice x.ad x.data.length x.cap, .bool x.dead]) rfl rfl (by kernel_rfl) (by kernel_rfl) (by kernel_rfl) (fun _ _ _ h => h) (Or.inl ⟨by rfl, fun w' hw' => by obtain ⟨x0, x1, x2, x3⟩ := cel4 hw'; go_simp⟩) hS ?_
      simp only [Act.put, lsA, lsZ, lsS]
      refine take_at (i := 2) 49 (v := .func (.func 46) #[] #[.pointer (some ⟨pA, 0, none⟩)]) rfl rfl (by kernel_rfl) (by kernel_rfl) (by kernel_rfl) (fun _ _ _ h => h) (Or.inl ⟨by rfl, fun w' hw' => by go_simp⟩) hS ?_
      simp only [Act.put, lsA, lsZ, lsS]
      refine take_at (i := 3) 50 (v := .agg #[.int .i64 x.node, .int .i64 x.num, .slice x.ad x.data.length x.cap, .bool x.dead]) rfl rfl (by kernel_rfl) (by kernel_rfl) (by kernel_rfl) (fun _ _ _ h => h) (Or.inl ⟨by rfl, fun w' hw' => by obtain ⟨x0, x1, x2, x3⟩ := cel4 hw'; go_simp⟩) hS ?_
      simp only [Act.put, lsA, lsZ, lsS]
      refine wpAnyH_ready (rs := [4]) (by kernel_rfl) (by simp) ?_
      refine AllReadyH.cons rfl (fun K' hK' => ?_) AllReadyH.nil
      go_simp
      refine (newTo1_any fA x pA _ (HPA.out.off OVd (fun h => h))).mono ?_
      rintro e v2 ⟨rfl, o2⟩
      refine hK'.out _ _ (hS.off o2 (fun h => h)) (fun hS => ?_)
      clear hK' K'
      have oC := OVd.trans o2 (fun _ _ h => h)
      have s2 : M ≤ v2.heap.size := Nat.le_trans HM.out o2.size
      have hv2 := HVX.out.off oC (fun _ _ _ h => h)
      have OU2 := OUd.off o2
      clear OUd OVd o2
      refine wpAnyH_ready (rs := [5]) (by kernel_rfl) (by simp) ?_
      refine AllReadyH.cons rfl (fun K' hK' => ?_) AllReadyH.nil
      go_simp
      refine (take_any w.heap.size M w.heap.size l x _ v2 OU2 hv2 (by omega) oC.size s2).mono ?_
      rintro e v3 ⟨rfl, l', hl', OUT', o3⟩
      refine hK'.out _ _ (hS.off o3 (fun h => by have := h.2; have := HXM.out; omega)) (fun hS => ?_)
      clear hK' K'
      have oD : Off (fun _ => False) w v3 := oC.trans o3 (fun i hi h => by omega)
      have hln := abs_len hl'
      have HO3 : Hid _ := oD
      have HOUT : Hid _ := OUT'
      have HL3 : Hid _ := hl'
      clear oC o3 s2 hv2 oD OUT' hl' hS OU2 OV OUT
      refine wpAnyH_done (by kernel_rfl) ?_ _
      go_wp2_with fail
      go_roundw
      case rel => exact ⟨_, _, xs, _, _, l2x, l', rfl, rfl, hr', hr2, HOUT.out, by have h1 := HN1.out; have h2 := HN2.out; omega, HO3.out, by rw [HL3.out, ← HT.out, HE1.out, HE2.out, cont_cons, cont_cons, mergeA_lt (x := x.abs) (y := y.abs) _ _ _ _ hxy, List.append_assoc]; rfl⟩
      case measure =>
       have h1 := HN1.out
       have h2 := HN2.out
       simp [slLen]
       omega
    ·go_simp
     refine hK'.out _ _ (hS.alloc _) (fun hS => ?_)
     clear hK' K'
     refine wpAnyH_ready (rs := [6]) (by kernel_rfl) (by simp) ?_
     refine AllReadyH.cons rfl (fun K' hK' => ?_) AllReadyH.nil
     go_simp
     refine hK'.out _ _ (hS.alloc _) (fun hS => ?_)
     clear hK' K'
     obtain ⟨V0, hV0⟩ : ∃ V0, V0 = ((wr.alloc (.cells #[.int .i64 0, .int .i64 0, .slice none 0 0, .bool false] 56)).alloc (.cells #[.int .i64 0, .int .i64 0, .slice none 0 0, .bool false] 56)).drew := ⟨_, rfl⟩
     have D0 : Cel wr.heap.size 56 #[.int .i64 zeroV.node, .int .i64 zeroV.num, .slice zeroV.ad zeroV.data.length zeroV.cap, .bool zeroV.dead] V0 := by rw [hV0]; exact ((Cel.new wr _ _).alloc _).drew
     have D1 : Cel (wr.heap.size + 1) 56 #[.int .i64 zeroV.node, .int .i64 zeroV.num, .slice zeroV.ad zeroV.data.length zeroV.cap, .bool zeroV.dead] V0 := by rw [hV0]; exact (Cel.new1 wr _ _ _).drew
     rw [← hV0] at hS ⊢
     clear hV0
     generalize hX : wr.heap.size = X0 at D0 D1 hS ⊢
     generalize hY : X0 + 1 = Y0 at D1 hS ⊢
     have hXY : X0 ≠ Y0 := by omega
     obtain ⟨x0, x1, x2, x3⟩ := cel4 D1
     have fx := (D1).free
     refine wpAnyH_ready (rs := [8]) (by kernel_rfl) (by simp) ?_
     refine AllReadyH.cons rfl (fun K' hK' => ?_) AllReadyH.nil
     go_simp
     have hS1 := hS.st4 (b := Y0) (.inr (by omega)) x
     refine hK'.out _ _ hS1 (fun hS => ?_)
     clear hK' K' hS1 x0 x1 x2 x3 fx
     have E0 := D1.st4 x
     have E1 := D0.st4o (b := Y0) (by omega) x
     clear D1 D0
     generalize hV1 : ((((V0.setCell ⟨Y0, 0, none⟩ (.int .i64 x.node)).setCell ⟨Y0, 1, none⟩ (.int .i64 x.num)).setCell ⟨Y0, 2, none⟩ (.slice x.ad x.data.length x.cap)).setCell ⟨Y0, 3, none⟩ (.bool x.dead)) = V1 at E0 E1 hS ⊢
     clear hV1
     obtain ⟨x0, x1, x2, x3⟩ := cel4 E1
     have fx := E1.free
     refine wpAnyH_ready (rs := [9]) (by kernel_rfl) (by simp) ?_
     refine AllReadyH.cons rfl (fun K' hK' => ?_) AllReadyH.nil
     go_simp
     have hS1 := hS.st4 (b := X0) (.inr (by omega)) y
     refine hK'.out _ _ hS1 (fun hS => ?_)
     clear hK' K' hS1 x0 x1 x2 x3 fx
     have CX := E0.st4o (b := X0) (by omega) y
     have CY := E1.st4 y
     clear E0 E1
     generalize hV2 : ((((V1.setCell ⟨X0, 0, none⟩ (.int .i64 y.node)).setCell ⟨X0, 1, none⟩ (.int .i64 y.num)).setCell ⟨X0, 2, none⟩ (.slice y.ad y.data.length y.cap)).setCell ⟨X0, 3, none⟩ (.bool y.dead)) = V at CX CY hS ⊢
     clear hV2
     have OUT := HOU.out.off hS
     have OV := HOW.out.trans hS (fun _ _ h => h)
     have hsV : M ≤ V.heap.size := by have := hS.size; have := HMM.out; omega
     have HXM : Hid (M ≤ Y0) := by show M ≤ Y0; have := HMM.out; omega
     have HYM : Hid (M ≤ X0) := by show M ≤ X0; have := HMM.out; omega
     clear hS hX hY hXY
     refine wpAnyH_done (by kernel_rfl) ?_ _
     generalize Y0 = X at CX HXM ⊢
     generalize X0 = Y at CY HYM ⊢
     obtain ⟨x0, x1, x2, x3⟩ := cel4 CX
     obtain ⟨y0, y1, y2, y3⟩ := cel4 CY
     cases hxy : lessB x.node x.num y.node y.num
     ·go_wp2_with fail
      refine (less_any _ _ _ _ _).mono ?_
      rw [hxy]
      rintro e v1 ⟨rfl, o1⟩
      replace CX := CX.off o1 (fun h => h)
      replace CY := CY.off o1 (fun h => h)
      replace OV := OV.trans o1 (fun _ _ h => h)
      replace OUT := OUT.off o1
      have hsV1 := Nat.le_trans hsV o1.size
      clear o1 x0 x1 x2 x3 y0 y1 y2 y3 hsV
      obtain ⟨x0, x1, x2, x3⟩ := cel4 CX
      obtain ⟨y0, y1, y2, y3⟩ := cel4 CY
      cases hyx : lessB y.node y.num x.node x.num
      ·obtain ⟨z, hz⟩ : ∃ z, z = firstV x y := ⟨_, rfl⟩
       have HZ : Hid _ := hz
       clear hz
       go_wp2_with fail
       refine (less_any _ _ _ _ _).mono ?_
       rw [hyx]
       rintro e v4 ⟨rfl, o4⟩
       replace CX := CX.off o4 (fun h => h)
       replace CY := CY.off o4 (fun h => h)
       replace OV := OV.trans o4 (fun _ _ h => h)
       replace OUT := OUT.off o4
       have hsV4 := Nat.le_trans hsV1 o4.size
       clear o4 x0 x1 x2 x3 y0 y1 y2 y3 hsV1
       obtain ⟨x0, x1, x2, x3⟩ := cel4 CX
       obtain ⟨y0, y1, y2, y3⟩ := cel4 CY
       obtain ⟨a', ht, hr'⟩ := hr1.tail' HE1.out
       obtain ⟨a2', ht2, hr2'⟩ := hr2.tail' HE2.out
       go_wp2_with fail
       have ox := HVX.out.off OV (fun _ _ _ h => h)
       have oy := HVY.out.off OV (fun _ _ _ h => h)
       refine (first_any x y _ ox oy).mono ?_
       rw [← HZ.out]
       rintro e v5 ⟨rfl, o5⟩
       have OV5 := OV.trans o5 (fun _ _ h => h)
       have OUT5 := OUT.off o5
       have oz : VOk v5 z := by rw [HZ.out]; exact (firstV_ok ox oy).off o5 (fun _ _ _ h => h)
       have s5 := Nat.le_trans hsV4 o5.size
       clear o5 x0 x1 x2 x3 y0 y1 y2 y3 CX CY ox oy OV OUT hsV4
       go_wp2_with fail
       refine (take_any w.heap.size M w.heap.size l z true v5 OUT5 oz (by omega) OV5.size s5).mono ?_
       rintro e v3 ⟨rfl, l', hl', OUT', o3⟩
       have oD : Off (fun _ => False) w v3 := OV5.trans o3 (fun i hi h => by omega)
       have hln := abs_len hl'
       have HO3 : Hid _ := oD
       have HOUT : Hid _ := OUT'
       have HL3 : Hid _ := hl'
       clear o3 oD OUT' hl' OV5 OUT5 oz s5
       go_wp2_with fail
       refine wp_region_held_drew (S := fun _ => True) (by kernel_rfl) trivial (fun hS => ?_)
       refine take_at (i := 0) 37 (v := .slice (some ⟨bx, ox1, none⟩) l1x.length cx) rfl rfl (by kernel_rfl) (by kernel_rfl) (by kernel_rfl) (fun _ _ _ h => h) (Or.inl ⟨by rfl, fun w' hw' => by go_simp⟩) hS ?_
       simp only [Act.put, lsA, lsZ, lsS]
       refine take_at (i := 1) 38 (v := .slice a' xs.length (cx - 1)) rfl rfl (by kernel_rfl) (by kernel_rfl) (by kernel_rfl) (fun _ _ _ h => h) (Or.inl ⟨by rfl, fun w' hw' => by go_simp⟩) hS ?_
       simp only [Act.put, lsA, lsZ, lsS]
       refine take_at (i := 2) 39 (v := .slice (some ⟨by1, oy1, none⟩) l2x.length cy) rfl rfl (by kernel_rfl) (by kernel_rfl) (by kernel_rfl) (fun _ _ _ h => h) (Or.inl ⟨by rfl, fun w' hw' => by go_simp⟩) hS ?_
       simp only [Act.put, lsA, lsZ, lsS]
       refine take_at (i := 3) 40 (v := .slice a2' ys.length (cy - 1)) rfl rfl (by kernel_rfl) (by kernel_rfl) (by kernel_rfl) (fun _ _ _ h => h) (Or.inl ⟨by rfl, fun w' hw' => by go_simp⟩) hS ?_
       simp only [Act.put, lsA, lsZ, lsS]
       refine take_at (i := 4) 0 (v := .slice a' xs.length (cx - 1)) rfl rfl (by kernel_rfl) (by kernel_rfl) (by kernel_rfl) (fun _ _ _ h => h) (Or.inl ⟨by rfl, fun w' hw' => by go_simp⟩) hS ?_
       simp only [Act.put, List.setIfInBounds_toArray, List.set_cons_zero]
       refine take_at (i := 5) 1 (v := .slice a2' ys.length (cy - 1)) rfl rfl (by kernel_rfl) (by kernel_rfl) (by kernel_rfl) (fun _ _ _ h => h) (Or.inl ⟨by rfl, fun w' hw' => by go_simp⟩) hS ?_
       simp only [Act.put, lsA, lsZ, lsS]
       refine wpAnyH_done (by kernel_rfl) ?_ _
       go_wp2_with fail
       go_roundw
       case rel => exact ⟨_, _, xs, _, _, ys, l', rfl, rfl, hr', hr2', HOUT.out.drew, by have h1 := HN1.out; have h2 := HN2.out; omega, HO3.out.drew, by rw [HL3.out, ← HT.out, HE1.out, HE2.out, cont_cons, cont_cons, mergeA_eq (x := x.abs) (y := y.abs) _ _ _ _ hxy hyx, List.append_assoc, HZ.out, firstV_abs]; rfl⟩
       case measure =>
        have h1 := HN1.out
        have h2 := HN2.out
        simp [slLen]
        omega
      ·have CX0 := CX
       clear CX0
       obtain ⟨a', ht, hr'⟩ := hr2.tail' HE2.out
       go_wp2_with fail
       refine (less_any _ _ _ _ _).mono ?_
       rw [hyx]
       rintro e v4 ⟨rfl, o4⟩
       replace CY := CY.off o4 (fun h => h)
       replace OV := OV.trans o4 (fun _ _ h => h)
       replace OUT := OUT.off o4
       have HM : Hid (M ≤ v4.drew.heap.size) := Nat.le_trans hsV1 o4.size
       have HXM0 := HXM
       clear HXM
       have HXM : Hid _ := HYM.out
       clear o4 x0 x1 x2 x3 y0 y1 y2 y3 CX hsV1
       go_wp2_with fail
       have OVd : Off (fun _ => False) w v4.drew := OV.drew
       have OUd := OUT.drew
       refine wp_region_held_drew (S := fun w' => Cel Y 56 #[.int .i64 y.node, .int .i64 y.num, .slice y.ad y.data.length y.cap, .bool y.dead] w') (by kernel_rfl) (CY.drew) (fun hS => ?_)
       clear CY
       refine take_at (i := 0) 61 (v := .func (.func 43) #[] #[.pointer (some ⟨w.heap.size, 0, none⟩)]) rfl rfl (by kernel_rfl) (by kernel_rfl) (by kernel_rfl) (fun _ _ _ h => h) (Or.inl ⟨by rfl, fun w' hw' => by go_simp⟩) hS ?_
       simp only [Act.put, lsA, lsZ, lsS]
       refine take_at (i := 1) 62 (v := .agg #[.int .i64 y.node, .int .i64 y.num, .slice y.ad y.data.length y.cap, .bool y.dead]) rfl rfl (by kernel_rfl) (by kernel_rfl) (by kernel_rfl) (fun _ _ _ h => h) (Or.inl ⟨by rfl, fun w' hw' => by obtain ⟨x0, x1, x2, x3⟩ := cel4 hw'; go_simp⟩) hS ?_
       simp only [Act.put, lsA, lsZ, lsS]
       refine take_at (i := 2) 63 (v := .func (.func 46) #[] #[.pointer (some ⟨pB, 0, none⟩)]) rfl rfl (by kernel_rfl) (by kernel_rfl) (by kernel_rfl) (fun _ _ _ h => h) (Or.inl ⟨by rfl, fun w' hw' => by go_simp⟩) hS ?_
       simp only [Act.put, lsA, lsZ, lsS]
       refine take_at (i := 3) 64 (v := .agg #[.int .i64 y.node, .int .i64 y.num, .slice y.ad y.data.length y.cap, .bool y.dead]) rfl rfl (by kernel_rfl) (by kernel_rfl) (by kernel_rfl) (fun _ _ _ h => h) (Or.inl ⟨by rfl, fun w' hw' => by obtain ⟨x0, x1, x2, x3⟩ := cel4 hw'; go_simp⟩) hS ?_
       simp only [Act.put, lsA, lsZ, lsS]
       refine wpAnyH_ready (rs := [4]) (by kernel_rfl) (by simp) ?_
       refine AllReadyH.cons rfl (fun K' hK' => ?_) AllReadyH.nil
       go_simp
       refine (newTo1_any fB y pB _ (HPB.out.off OVd (fun h => h))).mono ?_
       rintro e v2 ⟨rfl, o2⟩
       refine hK'.out _ _ (hS.off o2 (fun h => h)) (fun hS => ?_)
       clear hK' K'
       have oC := OVd.trans o2 (fun _ _ h => h)
       have s2 : M ≤ v2.heap.size := Nat.le_trans HM.out o2.size
       have hv2 := HVY.out.off oC (fun _ _ _ h => h)
       have OU2 := OUd.off o2
       clear OUd OVd o2
       refine wpAnyH_ready (rs := [5]) (by kernel_rfl) (by simp) ?_
       refine AllReadyH.cons rfl (fun K' hK' => ?_) AllReadyH.nil
       go_simp
       refine (take_any w.heap.size M w.heap.size l y _ v2 OU2 hv2 (by omega) oC.size s2).mono ?_
       rintro e v3 ⟨rfl, l', hl', OUT', o3⟩
       refine hK'.out _ _ (hS.off o3 (fun h => by have := h.2; have := HXM.out; omega)) (fun hS => ?_)
       clear hK' K'
       have oD : Off (fun _ => False) w v3 := oC.trans o3 (fun i hi h => by omega)
       have hln := abs_len hl'
       have HO3 : Hid _ := oD
       have HOUT : Hid _ := OUT'
       have HL3 : Hid _ := hl'
       clear oC o3 s2 hv2 oD OUT' hl' hS OU2 OV OUT
       refine wpAnyH_done (by kernel_rfl) ?_ _
       go_wp2_with fail
       go_roundw
       case rel => exact ⟨_, _, l1x, _, _, ys, l', rfl, rfl, hr1, hr', HOUT.out, by have h1 := HN1.out; have h2 := HN2.out; omega, HO3.out, by rw [HL3.out, ← HT.out, HE1.out, HE2.out, cont_cons, cont_cons, mergeA_gt (x := x.abs) (y := y.abs) _ _ _ _ hxy hyx, List.append_assoc]; rfl⟩
       case measure =>
        have h1 := HN1.out
        have h2 := HN2.out
        simp [slLen]
        omega
     ·go_wp2_with fail
      refine (less_any _ _ _ _ _).mono ?_
      rw [hxy]
      rintro e v1 ⟨rfl, o1⟩
      replace CX := CX.off o1 (fun h => h)
      replace OV := OV.trans o1 (fun _ _ h => h)
      replace OUT := OUT.off o1
      have HM : Hid (M ≤ v1.drew.heap.size) := Nat.le_trans hsV o1.size
      clear o1 x0 x1 x2 x3 y0 y1 y2 y3 CY hsV
      obtain ⟨a', ht, hr'⟩ := hr1.tail' HE1.out
      go_wp2_with fail
      have OVd : Off (fun _ => False) w v1.drew := OV.drew
      have OUd := OUT.drew
      refine wp_region_held_drew (S := fun w' => Cel X 56 #[.int .i64 x.node, .int .i64 x.num, .slice x.ad x.data.length x.cap, .bool x.dead] w') (by kernel_rfl) (CX.drew) (fun hS => ?_)
      clear CX
      refine take_at (i := 0) 47 (v := .func (.func 43) #[] #[.pointer (some ⟨w.heap.size, 0, none⟩)]) rfl rfl (by kernel_rfl) (by kernel_rfl) (by kernel_rfl) (fun _ _ _ h => h) (Or.inl ⟨by rfl, fun w' hw' => by go_simp⟩) hS ?_
      simp only [Act.put, lsA, lsZ, lsS]
      refine take_at (i := 1) 48 (v := .agg #[.int .i64 x.node, .int .i64 x.num, .slice x.ad x.data.length x.cap, .bool x.dead]) rfl rfl (by kernel_rfl) (by kernel_rfl) (by kernel_rfl) (fun _ _ _ h => h) (Or.inl ⟨by rfl, fun w' hw' => by obtain ⟨x0, x1, x2, x3⟩ := cel4 hw'; go_simp⟩) hS ?_
      simp only [Act.put, lsA, lsZ, lsS]
      refine take_at (i := 2) 49 (v := .func (.func 46) #[] #[.pointer (some ⟨pA, 0, none⟩)]) rfl rfl (by kernel_rfl) (by kernel_rfl) (by kernel_rfl) (fun _ _ _ h => h) (Or.inl ⟨by rfl, fun w' hw' => by go_simp⟩) hS ?_
      simp only [Act.put, lsA, lsZ, lsS]
      refine take_at (i := 3) 50 (v := .agg #[.int .i64 x.node, .int .i64 x.num, .slice x.ad x.data.length x.cap, .bool x.dead]) rfl rfl (by kernel_rfl) (by kernel_rfl) (by kernel_rfl) (fun _ _ _ h => h) (Or.inl ⟨by rfl, fun w' hw' => by obtain ⟨x0, x1, x2, x3⟩ := cel4 hw'; go_simp⟩) hS ?_
      simp only [Act.put, lsA, lsZ, lsS]
      refine wpAnyH_ready (rs := [4]) (by kernel_rfl) (by simp) ?_
      refine AllReadyH.cons rfl (fun K' hK' => ?_) AllReadyH.nil
      go_simp
      refine (newTo1_any fA x pA _ (HPA.out.off OVd (fun h => h))).mono ?_
      rintro e v2 ⟨rfl, o2⟩
      refine hK'.out _ _ (hS.off o2 (fun h => h)) (fun hS => ?_)
      clear hK' K'
      have oC := OVd.trans o2 (fun _ _ h => h)
      have s2 : M ≤ v2.heap.size := Nat.le_trans HM.out o2.size
      have hv2 := HVX.out.off oC (fun _ _ _ h => h)
      have OU2 := OUd.off o2
      clear OUd OVd o2
      refine wpAnyH_ready (rs := [5]) (by kernel_rfl) (by simp) ?_
      refine AllReadyH.cons rfl (fun K' hK' => ?_) AllReadyH.nil
      go_simp
      refine (take_any w.heap.size M w.heap.size l x _ v2 OU2 hv2 (by omega) oC.size s2).mono ?_
      rintro e v3 ⟨rfl, l', hl', OUT', o3⟩
      refine hK'.out _ _ (hS.off o3 (fun h => by have := h.2; have := HXM.out; omega)) (fun hS => ?_)
      clear hK' K'
      have oD : Off (fun _ => False) w v3 := oC.trans o3 (fun i hi h => by omega)
      have hln := abs_len hl'
      have HO3 : Hid _ := oD
      have HOUT : Hid _ := OUT'
      have HL3 : Hid _ := hl'
      clear oC o3 s2 hv2 oD OUT' hl' hS OU2 OV OUT
      refine wpAnyH_done (by kernel_rfl) ?_ _
      go_wp2_with fail
      go_roundw
      case rel => exact ⟨_, _, xs, _, _, l2x, l', rfl, rfl, hr', hr2, HOUT.out, by have h1 := HN1.out; have h2 := HN2.out; omega, HO3.out, by rw [HL3.out, ← HT.out, HE1.out, HE2.out, cont_cons, cont_cons, mergeA_lt (x := x.abs) (y := y.abs) _ _ _ _ hxy, List.append_assoc]; rfl⟩
      case measure =>
       have h1 := HN1.out
       have h2 := HN2.out
       simp [slLen]
       omega
end Go.Proofs.Ytmjmgdbhmbjmaab
