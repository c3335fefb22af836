/- Items of several texts. -/
import Derived.Laws.IdiomStrings
import Derived.Test.YtmbphlkohlggfaaGreatASWr
namespace Go.Proofs.YtmbphlkohlggfaaGreat
open Go.RowKit
def keyL (s : ByteArray) : List Nat := s.data.toList.map UInt8.toNat
theorem keyL_len (s : ByteArray) : (keyL s).length = s.size := by
 unfold keyL
 rw [List.length_map, Array.length_toList]
 rfl
def wrE (most : Nat) (st : Option (List Nat)) (key : ByteArray) (f : Nat → Int) (l : List A) : Option (List Nat) := wrS most (putS most st (numB (keyL key).length ++ keyL key)) f l
theorem wrE_le {most : Nat} {st : Option (List Nat)} (h : (st.getD []).length ≤ most) (key : ByteArray) (f : Nat → Int) (l : List A) : ((wrE most st key f l).getD []).length ≤ most := wrS_le (put_le h _) f l
theorem conv_key (key : ByteArray) (W : World) : ∃ cap W', (convert 9 28 (.string key)).run Tryz.prog W = .ok (.slice (some ⟨W.heap.size, 0, none⟩) (keyL key).length cap) W' ∧ Src W' (some ⟨W.heap.size, 0, none⟩) cap (keyL key) ∧ Off (fun _ => False) W W' := by
 refine ⟨_, _, by rw [keyL_len]; exact run_bytes_of_string W 9 28 5 key Tryz.underlying9 Tryz.underlying28 Tryz.underlying5, ⟨.inr ⟨_, rfl, fun j u hj => ?_⟩⟩, ((Off.refl _ W).drew).alloc _⟩
 have hj' := vl_lt hj
 rw [vl_get _ _ hj'] at hj
 rw [keyL_len] at hj'
 rw [add_lit]
 simp only [World.cell?]
 rw [show (W.heap.size) = W.drew.heap.size from rfl, heap_alloc_new]
 simp only [Nat.zero_add]
 rw [← hj]
 have hj2 : j < key.data.size := hj'
 have h := bytesRow_at key (grownCap W key.size 0 5) j hj2
 have e : (keyL key).getD j 0 = key.data[j].toNat := by
  unfold keyL
  rw [List.getD_eq_getElem?_getD, List.getElem?_map, Array.getElem?_toList, Array.getElem?_eq_getElem hj2]
  rfl
 rw [e]
 exact h
set_option maxRecDepth 100000 in
set_option maxHeartbeats 1000000 in
theorem writeEntry_any {D : Nat → Prop} {b most : Nat} {st : Option (List Nat)} {w : World} (hW : Wtr D b most st w) (hm : most ≤ 140737488355328) (hst : (st.getD []).length ≤ most) (key : ByteArray) (hks : key.size ≤ 140737488351232) (f : Nat → Int) (hr : ∀ j, j < 8 → -9223372036854775808 ≤ f j ∧ f j ≤ 9223372036854775807) (a : Option Addr) (ca : Nat) (l : List V) (hrow : ∀ w', Off D w w' → Row w' a ca l) :
  Calls Tryz.prog 75 #[.pointer (some ⟨b, 0, none⟩), .agg #[.string key, .int .i64 (f 0), .int .i64 (f 1), .int .i64 (f 2), .int .i64 (f 3), .int .i64 (f 4), .int .i64 (f 5), .int .i64 (f 6), .int .i64 (f 7), .slice a l.length ca]] w fun e w' => e = .returned (.tuple #[]) ∧ ∃ D', Wtr D' b most (wrE most st key f (cont l)) w' ∧ Off D w w' ∧ ∀ c, D' c → D c ∨ w.heap.size ≤ c := by
 have C := Cel.new w 46 #[.string key, .int .i64 (f 0), .int .i64 (f 1), .int .i64 (f 2), .int .i64 (f 3), .int .i64 (f 4), .int .i64 (f 5), .int .i64 (f 6), .int .i64 (f 7), .slice a l.length ca]
 have O : Off (fun _ => False) w (w.alloc (.cells #[.string key, .int .i64 (f 0), .int .i64 (f 1), .int .i64 (f 2), .int .i64 (f 3), .int .i64 (f 4), .int .i64 (f 5), .int .i64 (f 6), .int .i64 (f 7), .slice a l.length ca] 46)) := (Off.refl _ w).alloc _
 have hlt0 := hW.lt
 have W0 := hW.off O (fun _ _ _ h => h)
 have HRW : Hid _ := hrow
 have hz : w.heap.size < (w.alloc (.cells #[.string key, .int .i64 (f 0), .int .i64 (f 1), .int .i64 (f 2), .int .i64 (f 3), .int .i64 (f 4), .int .i64 (f 5), .int .i64 (f 6), .int .i64 (f 7), .slice a l.length ca] 46)).heap.size := by simp [World.size_alloc]
 clear hW hrow
 go_enter Tryz.func75, Tryz.ntmps75
 go_upto_region 1 with fail
 generalize hq : w.heap.size = q at C hz ⊢
 have HQ : Hid (w.heap.size ≤ q) := by show _ ≤ _; omega
 have hdq : ¬ D q := fun h => by have := hlt0 q h; omega
 generalize hv : w.alloc (.cells #[.string key, .int .i64 (f 0), .int .i64 (f 1), .int .i64 (f 2), .int .i64 (f 3), .int .i64 (f 4), .int .i64 (f 5), .int .i64 (f 6), .int .i64 (f 7), .slice a l.length ca] 46) = W at C O W0 hz ⊢
 clear hq hv hlt0
 obtain ⟨kl, hkl⟩ : ∃ x, x = keyL key := ⟨_, rfl⟩
 obtain ⟨kc, W1, hrun, hsrc, o1⟩ := conv_key key W
 rw [← hkl] at hrun hsrc
 have hkz : kl.length ≤ 140737488351232 := by rw [hkl, keyL_len]; exact hks
 have c0 : W.cell? ⟨q, 0, none⟩ = some (.string key) := C.cell 0
 have W2 := W0.off o1 (fun _ _ _ h => h)
 have C1 := C.off o1 (fun h => h)
 have O1 : Off D w W1 := (O.trans o1 (fun _ _ h => h)).mono (fun _ _ h => h.elim)
 have HDL : Hid (∀ c, D c → c < W.heap.size) := W0.lt
 have HKS : Hid _ := hsrc
 have HKL : Hid _ := hkl
 have hz1 := o1.size
 clear W0 C O o1 hsrc hkl
 go_wp2_with fail
 clear c0 hrun
 refine (wtext_any W2 _ kc kl (fun w' o => HKS.out.off o (fun c hc hb h => by simp [blk] at hb; have := HDL.out c h; omega)) (.inr ⟨hm, hst, hkz⟩)).mono ?_
 rintro e v1 ⟨rfl, D1, W3, o2, d1⟩
 have C2 := C1.off o2 hdq
 have O2 : Off D w v1 := O1.trans o2 (fun _ _ h => h)
 have hl1 := put_le hst (numB kl.length ++ kl)
 have hD1 : ∀ c, D1 c → D c ∨ w.heap.size ≤ c := fun c hc => (d1 c hc).imp id (fun h => Nat.le_trans O1.size h)
 have HC2 : Hid _ := C2
 have HO2 : Hid _ := O2
 have HD1 : Hid _ := hD1
 have HW3 : Hid _ := W3
 have k1 : v1.cell? ⟨q, 1, none⟩ = some (.int .i64 (f 0)) := C2.cell 1
 have k2 : v1.cell? ⟨q, 2, none⟩ = some (.int .i64 (f 1)) := C2.cell 2
 have k3 : v1.cell? ⟨q, 3, none⟩ = some (.int .i64 (f 2)) := C2.cell 3
 have k4 : v1.cell? ⟨q, 4, none⟩ = some (.int .i64 (f 3)) := C2.cell 4
 have k5 : v1.cell? ⟨q, 5, none⟩ = some (.int .i64 (f 4)) := C2.cell 5
 have k6 : v1.cell? ⟨q, 6, none⟩ = some (.int .i64 (f 5)) := C2.cell 6
 have k7 : v1.cell? ⟨q, 7, none⟩ = some (.int .i64 (f 6)) := C2.cell 7
 have k8 : v1.cell? ⟨q, 8, none⟩ = some (.int .i64 (f 7)) := C2.cell 8
 have k9 : v1.cell? ⟨q, 9, none⟩ = some (.slice a l.length ca) := C2.cell 9
 clear W2 C1 C2 O1 O2 o2 d1 hD1 W3 hz1
 go_wp2_with fail
 clear k1 k2 k3 k4 k5 k6 k7 k8 k9
 refine (swrite_any HW3.out hm hl1 f hr a ca l (fun w' o => HRW.out w' (HO2.out.trans o (fun k hk h => (HD1.out k h).elim id (fun h2 => by omega))))).mono ?_
 rintro e v2 ⟨rfl, D2, W4, o3, d2⟩
 have HF : Hid (Wtr D2 b most (wrE most st key f (cont l)) v2) := by show Wtr D2 b most (wrE most st key f (cont l)) v2; unfold wrE; rw [← HKL.out]; exact W4
 have HO3 : Hid (Off D w v2) := HO2.out.trans o3 (fun k hk h => (HD1.out k h).elim id (fun h2 => by omega))
 have HD2 : Hid (∀ c, D2 c → D c ∨ w.heap.size ≤ c) := fun c hc => (d2 c hc).elim (HD1.out c) (fun h => .inr (Nat.le_trans HO2.out.size h))
 clear W4 o3 d2
 go_wp2_with fail
 first | go_end0 | refine bodyPost_ret (results_none rfl _ _ _) rfl ?_
 exact ⟨rfl, D2, HF.out, HO3.out, HD2.out⟩
set_option maxRecDepth 100000 in
set_option maxHeartbeats 1000000 in
theorem gwriteEntry_any {D : Nat → Prop} {b most : Nat} {st : Option (List Nat)} {w : World} (hW : FW D b most st w) (hm : most ≤ 140737488355328) (hst : (st.getD []).length ≤ most) (key : ByteArray) (hks : key.size ≤ 140737488351232) (f : Nat → Int) (hr : ∀ j, j < 8 → -9223372036854775808 ≤ f j ∧ f j ≤ 9223372036854775807) (a : Option Addr) (ca : Nat) (l : List V) (hrow : ∀ w', Off D w w' → Row w' a ca l) :
  Calls Tryz.prog 16 #[.pointer (some ⟨b, 0, none⟩), .agg #[.string key, .int .i64 (f 0), .int .i64 (f 1), .int .i64 (f 2), .int .i64 (f 3), .int .i64 (f 4), .int .i64 (f 5), .int .i64 (f 6), .int .i64 (f 7), .slice a l.length ca]] w fun e w' => e = .returned (.tuple #[]) ∧ ∃ D', FW D' b most (wrE most st key f (cont l)) w' ∧ Off D w w' ∧ ∀ c, D' c → D c ∨ w.heap.size ≤ c := by
 have C := Cel.new w 46 #[.string key, .int .i64 (f 0), .int .i64 (f 1), .int .i64 (f 2), .int .i64 (f 3), .int .i64 (f 4), .int .i64 (f 5), .int .i64 (f 6), .int .i64 (f 7), .slice a l.length ca]
 have O : Off (fun _ => False) w (w.alloc (.cells #[.string key, .int .i64 (f 0), .int .i64 (f 1), .int .i64 (f 2), .int .i64 (f 3), .int .i64 (f 4), .int .i64 (f 5), .int .i64 (f 6), .int .i64 (f 7), .slice a l.length ca] 46)) := (Off.refl _ w).alloc _
 have hlt0 := hW.lt
 have W0 := hW.off O (fun _ _ _ h => h)
 have HRW : Hid _ := hrow
 have hz : w.heap.size < (w.alloc (.cells #[.string key, .int .i64 (f 0), .int .i64 (f 1), .int .i64 (f 2), .int .i64 (f 3), .int .i64 (f 4), .int .i64 (f 5), .int .i64 (f 6), .int .i64 (f 7), .slice a l.length ca] 46)).heap.size := by simp [World.size_alloc]
 clear hW hrow
 go_enter Tryz.func16, Tryz.ntmps16
 go_upto_region 1 with fail
 generalize hq : w.heap.size = q at C hz ⊢
 have HQ : Hid (w.heap.size ≤ q) := by show _ ≤ _; omega
 have hdq : ¬ D q := fun h => by have := hlt0 q h; omega
 generalize hv : w.alloc (.cells #[.string key, .int .i64 (f 0), .int .i64 (f 1), .int .i64 (f 2), .int .i64 (f 3), .int .i64 (f 4), .int .i64 (f 5), .int .i64 (f 6), .int .i64 (f 7), .slice a l.length ca] 46) = W at C O W0 hz ⊢
 clear hq hv hlt0
 obtain ⟨kl, hkl⟩ : ∃ x, x = keyL key := ⟨_, rfl⟩
 obtain ⟨kc, W1, hrun, hsrc, o1⟩ := conv_key key W
 rw [← hkl] at hrun hsrc
 have hkz : kl.length ≤ 140737488351232 := by rw [hkl, keyL_len]; exact hks
 have c0 : W.cell? ⟨q, 0, none⟩ = some (.string key) := C.cell 0
 have W2 := W0.off o1 (fun _ _ _ h => h)
 have C1 := C.off o1 (fun h => h)
 have O1 : Off D w W1 := (O.trans o1 (fun _ _ h => h)).mono (fun _ _ h => h.elim)
 have HDL : Hid (∀ c, D c → c < W.heap.size) := W0.lt
 have HKS : Hid _ := hsrc
 have HKL : Hid _ := hkl
 have hz1 := o1.size
 clear W0 C O o1 hsrc hkl
 go_wp2_with fail
 clear c0 hrun
 refine (fwtext_any W2 _ kc kl HKS.out (.inr ⟨hm, hst, hkz⟩)).mono ?_
 rintro e v1 ⟨rfl, D1, W3, o2, d1⟩
 have C2 := C1.off o2 hdq
 have O2 : Off D w v1 := O1.trans o2 (fun _ _ h => h)
 have hl1 := put_le hst (numB kl.length ++ kl)
 have hD1 : ∀ c, D1 c → D c ∨ w.heap.size ≤ c := fun c hc => (d1 c hc).imp id (fun h => Nat.le_trans O1.size h)
 have HC2 : Hid _ := C2
 have HO2 : Hid _ := O2
 have HD1 : Hid _ := hD1
 have HW3 : Hid _ := W3
 have k1 : v1.cell? ⟨q, 1, none⟩ = some (.int .i64 (f 0)) := C2.cell 1
 have k2 : v1.cell? ⟨q, 2, none⟩ = some (.int .i64 (f 1)) := C2.cell 2
 have k3 : v1.cell? ⟨q, 3, none⟩ = some (.int .i64 (f 2)) := C2.cell 3
 have k4 : v1.cell? ⟨q, 4, none⟩ = some (.int .i64 (f 3)) := C2.cell 4
 have k5 : v1.cell? ⟨q, 5, none⟩ = some (.int .i64 (f 4)) := C2.cell 5
 have k6 : v1.cell? ⟨q, 6, none⟩ = some (.int .i64 (f 5)) := C2.cell 6
 have k7 : v1.cell? ⟨q, 7, none⟩ = some (.int .i64 (f 6)) := C2.cell 7
 have k8 : v1.cell? ⟨q, 8, none⟩ = some (.int .i64 (f 7)) := C2.cell 8
 have k9 : v1.cell? ⟨q, 9, none⟩ = some (.slice a l.length ca) := C2.cell 9
 clear W2 C1 C2 O1 O2 o2 d1 hD1 W3 hz1
 go_wp2_with fail
 clear k1 k2 k3 k4 k5 k6 k7 k8 k9
 refine (gswrite_any HW3.out hm hl1 f hr a ca l (fun w' o => HRW.out w' (HO2.out.trans o (fun k hk h => (HD1.out k h).elim id (fun h2 => by omega))))).mono ?_
 rintro e v2 ⟨rfl, D2, W4, o3, d2⟩
 have HF : Hid (FW D2 b most (wrE most st key f (cont l)) v2) := by show FW D2 b most (wrE most st key f (cont l)) v2; unfold wrE; rw [← HKL.out]; exact W4
 have HO3 : Hid (Off D w v2) := HO2.out.trans o3 (fun k hk h => (HD1.out k h).elim id (fun h2 => by omega))
 have HD2 : Hid (∀ c, D2 c → D c ∨ w.heap.size ≤ c) := fun c hc => (d2 c hc).elim (HD1.out c) (fun h => .inr (Nat.le_trans HO2.out.size h))
 clear W4 o3 d2
 go_wp2_with fail
 first | go_end0 | refine bodyPost_ret (results_none rfl _ _ _) rfl ?_
 exact ⟨rfl, D2, HF.out, HO3.out, HD2.out⟩
end Go.Proofs.YtmbphlkohlggfaaGreat
