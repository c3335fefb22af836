/- Several texts in one. -/
import Derived.Test.YtfkpnmmcdhibbaaSWr
import Derived.Laws.IdiomStrings
import Derived.Test.YtfkpnmmcdhibbaaGRe
import Derived.Test.YtfkpnmmcdhibbaaThy2
import Derived.Test.YtfkpnmmcdhibbaaSl12
import Derived.Test.YtfkpnmmcdhibbaaLgt
import Derived.Test.YtfkpnmmcdhibbaaAwk
import Derived.Test.YtfkpnmmcdhibbaaArg5
import Derived.Test.YtfkpnmmcdhibbaaGSame
import Derived.Test.YtfkpnmmcdhibbaaLessP
/- WriteEntry, by the program and by the reference. -/
namespace Go.Proofs.Ytfkpnmmcdhibbaa
open Go.RowKit

/-- The bytes of a key. -/
def keyL (s : ByteArray) : List Nat := s.data.toList.map UInt8.toNat
theorem keyL_len (s : ByteArray) : (keyL s).length = s.size := by
  unfold keyL
  rw [List.length_map, Array.length_toList]
  rfl
def wrE (most : Nat) (st : Option (List Nat)) (key : ByteArray) (f : Nat → Int) (l : List A) : Option (List Nat) := wrS most (putS most st (numB (keyL key).length ++ keyL key)) f l
theorem wrE_le {most : Nat} {st : Option (List Nat)} (h : (st.getD []).length ≤ most) (key : ByteArray) (f : Nat → Int) (l : List A) : ((wrE most st key f l).getD []).length ≤ most := wrS_le (put_le h _) f l
theorem conv_key (key : ByteArray) (W : World) : ∃ cap W', (convert 9 43 (.string key)).run Try.prog W = .ok (.slice (some ⟨W.heap.size, 0, none⟩) (keyL key).length cap) W' ∧ Src W' (some ⟨W.heap.size, 0, none⟩) cap (keyL key) ∧ Off (fun _ => False) W W' := by
  refine ⟨_, _, by rw [keyL_len]; exact run_bytes_of_string W 9 43 5 key Try.underlying9 Try.underlying43 Try.underlying5, ⟨.inr ⟨_, rfl, fun j u hj => ?_⟩⟩, ((Off.refl _ W).drew).alloc _⟩
  have hj' := vl_lt hj
  rw [vl_get _ _ hj'] at hj
  rw [keyL_len] at hj'
  rw [add_lit]
  simp only [World.cell?]
  rw [show (W.heap.size) = W.drew.heap.size from rfl, heap_alloc_new]
  simp only [Nat.zero_add]
  rw [← hj]
  have hj2 : j < key.data.size := hj'
  have h := bytesRow_at key (grownCap W key.size 0 5) j hj2
  have e : (keyL key).getD j 0 = key.data[j].toNat := by
    unfold keyL
    rw [List.getD_eq_getElem?_getD, List.getElem?_map, Array.getElem?_toList, Array.getElem?_eq_getElem hj2]
    rfl
  rw [e]
  exact h

set_option maxRecDepth 100000 in
set_option maxHeartbeats 1000000 in
theorem writeEntry_any {D : Nat → Prop} {b most : Nat} {st : Option (List Nat)} {w : World} (hW : Wtr D b most st w) (hm : most ≤ 140737488355328) (hst : (st.getD []).length ≤ most) (key : ByteArray) (hks : key.size ≤ 140737488351232) (f : Nat → Int) (hr : ∀ j, j < 8 → -9223372036854775808 ≤ f j ∧ f j ≤ 9223372036854775807) (a : Option Addr) (ca : Nat) (l : List V) (hrow : ∀ w', Off D w w' → Row w' a ca l) :
    Calls Try.prog 35 #[.pointer (some ⟨b, 0, none⟩), .agg #[.string key, .int .i64 (f 0), .int .i64 (f 1), .int .i64 (f 2), .int .i64 (f 3), .int .i64 (f 4), .int .i64 (f 5), .int .i64 (f 6), .int .i64 (f 7), .slice a l.length ca]] w fun e w' => e = .returned (.tuple #[]) ∧ ∃ D', Wtr D' b most (wrE most st key f (cont l)) w' ∧ Off D w w' ∧ ∀ c, D' c → D c ∨ w.heap.size ≤ c := by
  have C := Cel.new w 32 #[.string key, .int .i64 (f 0), .int .i64 (f 1), .int .i64 (f 2), .int .i64 (f 3), .int .i64 (f 4), .int .i64 (f 5), .int .i64 (f 6), .int .i64 (f 7), .slice a l.length ca]
  have O : Off (fun _ => False) w (w.alloc (.cells #[.string key, .int .i64 (f 0), .int .i64 (f 1), .int .i64 (f 2), .int .i64 (f 3), .int .i64 (f 4), .int .i64 (f 5), .int .i64 (f 6), .int .i64 (f 7), .slice a l.length ca] 32)) := (Off.refl _ w).alloc _
  have hlt0 := hW.lt
  have W0 := hW.off O (fun _ _ _ h => h)
  have HRW : Hid _ := hrow
  have hz : w.heap.size < (w.alloc (.cells #[.string key, .int .i64 (f 0), .int .i64 (f 1), .int .i64 (f 2), .int .i64 (f 3), .int .i64 (f 4), .int .i64 (f 5), .int .i64 (f 6), .int .i64 (f 7), .slice a l.length ca] 32)).heap.size := by simp [World.size_alloc]
  clear hW hrow
  go_enter Try.func35, Try.ntmps35
  go_upto_region 1 with fail
  generalize hq : w.heap.size = q at C hz ⊢
  have HQ : Hid (w.heap.size ≤ q) := by show _ ≤ _; omega
  have hdq : ¬ D q := fun h => by have := hlt0 q h; omega
  generalize hv : w.alloc (.cells #[.string key, .int .i64 (f 0), .int .i64 (f 1), .int .i64 (f 2), .int .i64 (f 3), .int .i64 (f 4), .int .i64 (f 5), .int .i64 (f 6), .int .i64 (f 7), .slice a l.length ca] 32) = W at C O W0 hz ⊢
  clear hq hv hlt0
  obtain ⟨kl, hkl⟩ : ∃ x, x = keyL key := ⟨_, rfl⟩
  obtain ⟨kc, W1, hrun, hsrc, o1⟩ := conv_key key W
  rw [← hkl] at hrun hsrc
  have hkz : kl.length ≤ 140737488351232 := by rw [hkl, keyL_len]; exact hks
  have c0 : W.cell? ⟨q, 0, none⟩ = some (.string key) := C.cell 0
  have W2 := W0.off o1 (fun _ _ _ h => h)
  have C1 := C.off o1 (fun h => h)
  have O1 : Off D w W1 := (O.trans o1 (fun _ _ h => h)).mono (fun _ _ h => h.elim)
  have HDL : Hid (∀ c, D c → c < W.heap.size) := W0.lt
  have HKS : Hid _ := hsrc
  have HKL : Hid _ := hkl
  have hz1 := o1.size
  clear W0 C O o1 hsrc hkl
  go_wp2_with fail
  clear c0 hrun
  refine (wtext_any W2 _ kc kl (fun w' o => HKS.out.off o (fun c hc hb h => by simp [blk] at hb; have := HDL.out c h; omega)) (.inr ⟨hm, hst, hkz⟩)).mono ?_
  rintro e v1 ⟨rfl, D1, W3, o2, d1⟩
  have C2 := C1.off o2 hdq
  have O2 : Off D w v1 := O1.trans o2 (fun _ _ h => h)
  have hl1 := put_le hst (numB kl.length ++ kl)
  have hD1 : ∀ c, D1 c → D c ∨ w.heap.size ≤ c := fun c hc => (d1 c hc).imp id (fun h => Nat.le_trans O1.size h)
  have HC2 : Hid _ := C2
  have HO2 : Hid _ := O2
  have HD1 : Hid _ := hD1
  have HW3 : Hid _ := W3
  have k1 : v1.cell? ⟨q, 1, none⟩ = some (.int .i64 (f 0)) := C2.cell 1
  have k2 : v1.cell? ⟨q, 2, none⟩ = some (.int .i64 (f 1)) := C2.cell 2
  have k3 : v1.cell? ⟨q, 3, none⟩ = some (.int .i64 (f 2)) := C2.cell 3
  have k4 : v1.cell? ⟨q, 4, none⟩ = some (.int .i64 (f 3)) := C2.cell 4
  have k5 : v1.cell? ⟨q, 5, none⟩ = some (.int .i64 (f 4)) := C2.cell 5
  have k6 : v1.cell? ⟨q, 6, none⟩ = some (.int .i64 (f 5)) := C2.cell 6
  have k7 : v1.cell? ⟨q, 7, none⟩ = some (.int .i64 (f 6)) := C2.cell 7
  have k8 : v1.cell? ⟨q, 8, none⟩ = some (.int .i64 (f 7)) := C2.cell 8
  have k9 : v1.cell? ⟨q, 9, none⟩ = some (.slice a l.length ca) := C2.cell 9
  clear W2 C1 C2 O1 O2 o2 d1 hD1 W3 hz1
  go_wp2_with fail
  clear k1 k2 k3 k4 k5 k6 k7 k8 k9
  refine (swrite_any HW3.out hm hl1 f hr a ca l (fun w' o => HRW.out w' (HO2.out.trans o (fun k hk h => (HD1.out k h).elim id (fun h2 => by omega))))).mono ?_
  rintro e v2 ⟨rfl, D2, W4, o3, d2⟩
  have HF : Hid (Wtr D2 b most (wrE most st key f (cont l)) v2) := by show Wtr D2 b most (wrE most st key f (cont l)) v2; unfold wrE; rw [← HKL.out]; exact W4
  have HO3 : Hid (Off D w v2) := HO2.out.trans o3 (fun k hk h => (HD1.out k h).elim id (fun h2 => by omega))
  have HD2 : Hid (∀ c, D2 c → D c ∨ w.heap.size ≤ c) := fun c hc => (d2 c hc).elim (HD1.out c) (fun h => .inr (Nat.le_trans HO2.out.size h))
  clear W4 o3 d2
  go_wp2_with fail
  first | go_end0 | refine bodyPost_ret (results_none rfl _ _ _) rfl ?_
  exact ⟨rfl, D2, HF.out, HO3.out, HD2.out⟩

set_option maxRecDepth 100000 in
set_option maxHeartbeats 1000000 in
theorem gwriteEntry_any {D : Nat → Prop} {b most : Nat} {st : Option (List Nat)} {w : World} (hW : FW D b most st w) (hm : most ≤ 140737488355328) (hst : (st.getD []).length ≤ most) (key : ByteArray) (hks : key.size ≤ 140737488351232) (f : Nat → Int) (hr : ∀ j, j < 8 → -9223372036854775808 ≤ f j ∧ f j ≤ 9223372036854775807) (a : Option Addr) (ca : Nat) (l : List V) (hrow : ∀ w', Off D w w' → Row w' a ca l) :
    Calls Try.prog 36 #[.pointer (some ⟨b, 0, none⟩), .agg #[.string key, .int .i64 (f 0), .int .i64 (f 1), .int .i64 (f 2), .int .i64 (f 3), .int .i64 (f 4), .int .i64 (f 5), .int .i64 (f 6), .int .i64 (f 7), .slice a l.length ca]] w fun e w' => e = .returned (.tuple #[]) ∧ ∃ D', FW D' b most (wrE most st key f (cont l)) w' ∧ Off D w w' ∧ ∀ c, D' c → D c ∨ w.heap.size ≤ c := by
  have C := Cel.new w 32 #[.string key, .int .i64 (f 0), .int .i64 (f 1), .int .i64 (f 2), .int .i64 (f 3), .int .i64 (f 4), .int .i64 (f 5), .int .i64 (f 6), .int .i64 (f 7), .slice a l.length ca]
  have O : Off (fun _ => False) w (w.alloc (.cells #[.string key, .int .i64 (f 0), .int .i64 (f 1), .int .i64 (f 2), .int .i64 (f 3), .int .i64 (f 4), .int .i64 (f 5), .int .i64 (f 6), .int .i64 (f 7), .slice a l.length ca] 32)) := (Off.refl _ w).alloc _
  have hlt0 := hW.lt
  have W0 := hW.off O (fun _ _ _ h => h)
  have HRW : Hid _ := hrow
  have hz : w.heap.size < (w.alloc (.cells #[.string key, .int .i64 (f 0), .int .i64 (f 1), .int .i64 (f 2), .int .i64 (f 3), .int .i64 (f 4), .int .i64 (f 5), .int .i64 (f 6), .int .i64 (f 7), .slice a l.length ca] 32)).heap.size := by simp [World.size_alloc]
  clear hW hrow
  go_enter Try.func36, Try.ntmps36
  go_upto_region 1 with fail
  generalize hq : w.heap.size = q at C hz ⊢
  have HQ : Hid (w.heap.size ≤ q) := by show _ ≤ _; omega
  have hdq : ¬ D q := fun h => by have := hlt0 q h; omega
  generalize hv : w.alloc (.cells #[.string key, .int .i64 (f 0), .int .i64 (f 1), .int .i64 (f 2), .int .i64 (f 3), .int .i64 (f 4), .int .i64 (f 5), .int .i64 (f 6), .int .i64 (f 7), .slice a l.length ca] 32) = W at C O W0 hz ⊢
  clear hq hv hlt0
  obtain ⟨kl, hkl⟩ : ∃ x, x = keyL key := ⟨_, rfl⟩
  obtain ⟨kc, W1, hrun, hsrc, o1⟩ := conv_key key W
  rw [← hkl] at hrun hsrc
  have hkz : kl.length ≤ 140737488351232 := by rw [hkl, keyL_len]; exact hks
  have c0 : W.cell? ⟨q, 0, none⟩ = some (.string key) := C.cell 0
  have W2 := W0.off o1 (fun _ _ _ h => h)
  have C1 := C.off o1 (fun h => h)
  have O1 : Off D w W1 := (O.trans o1 (fun _ _ h => h)).mono (fun _ _ h => h.elim)
  have HDL : Hid (∀ c, D c → c < W.heap.size) := W0.lt
  have HKS : Hid _ := hsrc
  have HKL : Hid _ := hkl
  have hz1 := o1.size
  clear W0 C O o1 hsrc hkl
  go_wp2_with fail
  clear c0 hrun
  refine (fwtext_any W2 _ kc kl HKS.out (.inr ⟨hm, hst, hkz⟩)).mono ?_
  rintro e v1 ⟨rfl, D1, W3, o2, d1⟩
  have C2 := C1.off o2 hdq
  have O2 : Off D w v1 := O1.trans o2 (fun _ _ h => h)
  have hl1 := put_le hst (numB kl.length ++ kl)
  have hD1 : ∀ c, D1 c → D c ∨ w.heap.size ≤ c := fun c hc => (d1 c hc).imp id (fun h => Nat.le_trans O1.size h)
  have HC2 : Hid _ := C2
  have HO2 : Hid _ := O2
  have HD1 : Hid _ := hD1
  have HW3 : Hid _ := W3
  have k1 : v1.cell? ⟨q, 1, none⟩ = some (.int .i64 (f 0)) := C2.cell 1
  have k2 : v1.cell? ⟨q, 2, none⟩ = some (.int .i64 (f 1)) := C2.cell 2
  have k3 : v1.cell? ⟨q, 3, none⟩ = some (.int .i64 (f 2)) := C2.cell 3
  have k4 : v1.cell? ⟨q, 4, none⟩ = some (.int .i64 (f 3)) := C2.cell 4
  have k5 : v1.cell? ⟨q, 5, none⟩ = some (.int .i64 (f 4)) := C2.cell 5
  have k6 : v1.cell? ⟨q, 6, none⟩ = some (.int .i64 (f 5)) := C2.cell 6
  have k7 : v1.cell? ⟨q, 7, none⟩ = some (.int .i64 (f 6)) := C2.cell 7
  have k8 : v1.cell? ⟨q, 8, none⟩ = some (.int .i64 (f 7)) := C2.cell 8
  have k9 : v1.cell? ⟨q, 9, none⟩ = some (.slice a l.length ca) := C2.cell 9
  clear W2 C1 C2 O1 O2 o2 d1 hD1 W3 hz1
  go_wp2_with fail
  clear k1 k2 k3 k4 k5 k6 k7 k8 k9
  refine (gswrite_any HW3.out hm hl1 f hr a ca l (fun w' o => HRW.out w' (HO2.out.trans o (fun k hk h => (HD1.out k h).elim id (fun h2 => by omega))))).mono ?_
  rintro e v2 ⟨rfl, D2, W4, o3, d2⟩
  have HF : Hid (FW D2 b most (wrE most st key f (cont l)) v2) := by show FW D2 b most (wrE most st key f (cont l)) v2; unfold wrE; rw [← HKL.out]; exact W4
  have HO3 : Hid (Off D w v2) := HO2.out.trans o3 (fun k hk h => (HD1.out k h).elim id (fun h2 => by omega))
  have HD2 : Hid (∀ c, D2 c → D c ∨ w.heap.size ≤ c) := fun c hc => (d2 c hc).elim (HD1.out c) (fun h => .inr (Nat.le_trans HO2.out.size h))
  clear W4 o3 d2
  go_wp2_with fail
  first | go_end0 | refine bodyPost_ret (results_none rfl _ _ _) rfl ?_
  exact ⟨rfl, D2, HF.out, HO3.out, HD2.out⟩
end Go.Proofs.Ytfkpnmmcdhibbaa

/- A node that may not be is none by either reading: what is taken is the same. -/
namespace Go.Proofs.Ytfkpnmmcdhibbaa

theorem rdSt_ok {s : RS} (h : Ok s) : ∀ n, Ok (rdSt s n)
  | 0 => h
  | n + 1 => by
    have h1 := (num_ok (rdSt_ok h n)).1
    have h2 := (num_ok h1).1
    exact text_ok 200 (flag_ok h2)
theorem node_eq {f : Nat → Int} {m : Nat} {N : Int} (hm : m < 18446744073709551616) (h : coversB f (nodeP m) N = true ∨ coversB f (nodeR m) N = true) : nodeP m = nodeR m := by
  rw [cov_iff, cov_iff] at h
  unfold nodeP nodeR RowKit.wrap64 at *
  omega
theorem rdL_eq {f : Nat → Int} {s : RS} {n : Nat} (hok : Ok s) (h : mayS f (rdL nodeP n s) = true ∨ mayS f (rdL nodeR n s) = true) : rdL nodeP n s = rdL nodeR n s := by
  unfold rdL
  refine List.map_congr_left fun i hi => ?_
  have key : nodeP (valN (rdSt s i)) = nodeR (valN (rdSt s i)) := by
    refine node_eq (f := f) (N := valI (rdSt s i)) (num_ok (rdSt_ok hok i)).2.1 ?_
    rcases h with h | h
    · have := ((may_iff.1 h).cov (rdA nodeP (rdSt s i)) (List.mem_map.2 ⟨i, hi, rfl⟩)).1
      exact .inl this
    · have := ((may_iff.1 h).cov (rdA nodeR (rdSt s i)) (List.mem_map.2 ⟨i, hi, rfl⟩)).1
      exact .inr this
  unfold rdA
  rw [key]
theorem sr_eq {s : RS} (hok : Ok s) : srB nodeP s = srB nodeR s ∧ srF nodeP s = srF nodeR s ∧ srL nodeP s = srL nodeR s := by
  have hk : Ok (countS 16 (rdV s 8)).2 := (count_ok 16 (rdV_ok hok 8)).1
  by_cases h : mayS (readF s) (srV nodeP s) = true ∨ mayS (readF s) (srV nodeR s) = true
  · have e : srV nodeP s = srV nodeR s := rdL_eq hk h
    have e2 : srB nodeP s = srB nodeR s := by unfold srB; rw [e]
    exact ⟨e2, by unfold srF; rw [e2], by unfold srL; rw [e2, e]⟩
  · have h1 : mayS (readF s) (srV nodeP s) = false := by
      cases h2 : mayS (readF s) (srV nodeP s)
      · rfl
      · exact absurd (.inl h2) h
    have h3 : mayS (readF s) (srV nodeR s) = false := by
      cases h2 : mayS (readF s) (srV nodeR s)
      · rfl
      · exact absurd (.inr h2) h
    obtain ⟨a1, a2, a3⟩ := sr_no (nd := nodeP) (s := s) (.inr (.inr h1))
    obtain ⟨b1, b2, b3⟩ := sr_no (nd := nodeR) (s := s) (.inr (.inr h3))
    exact ⟨a1.trans b1.symm, a2.symm.trans b2, a3.symm.trans b3⟩
theorem re_eq {s : RS} (hok : Ok s) : reB nodeP s = reB nodeR s ∧ reKey nodeP s = reKey nodeR s ∧ reF nodeP s = reF nodeR s ∧ reL nodeP s = reL nodeR s := by
  obtain ⟨e1, e2, e3⟩ := sr_eq (s := reT s) (text_ok 32 hok)
  have e4 : reB nodeP s = reB nodeR s := by unfold reB; rw [e1, e2, e3]
  exact ⟨e4, by unfold reKey; rw [e4], by unfold reF; rw [e4, e2], by unfold reL; rw [e4, e3]⟩
end Go.Proofs.Ytfkpnmmcdhibbaa

/- Facts for SibsBytes. -/
namespace Go.Proofs.Ytfkpnmmcdhibbaa
open Go.RowKit

def gv : Bool → Value → Value
  | true, v => v
  | false, _ => undef
def erZ : Bool → Int
  | true => 0
  | false => 4
theorem neq_same (x : Bool) (W : World) : (binOp .neq 4 (.bool x) (.bool x)).run Try.prog W = .ok (.bool false) W := by
  cases x <;> go_simp
theorem eql_bool (x : Bool) (W : World) : (binOp .eql 4 (.bool x) (.bool x)).run Try.prog W = .ok (.bool true) W := by cases x <;> go_simp
theorem er4 (x : Bool) : (erZ x == 4) = !x := by cases x <;> rfl
theorem er0 (x : Bool) : (erZ x == 0) = x := by cases x <;> rfl
theorem FW.tell {D : Nat → Prop} {b most : Nat} {st : Option (List Nat)} {w : World} (h : FW D b most st w) : ∃ sm tm nm km, ((errW st : Nat) : Int) = erZ sm ∧ Cel b 52 #[.slice tm nm km, .int .i64 (most : Int), .bool (!sm)] w ∧ (sm = true → nm = (st.getD []).length ∧ OwnR w tm km (st.getD [])) := by
  rcases h.is with ⟨rfl, t, n, c, h1⟩ | ⟨bs, tad, cap, rfl, h2, h3, -⟩
  · exact ⟨false, t, n, c, rfl, h1, fun h => by cases h⟩
  · exact ⟨true, tad, bs.length, cap, rfl, h2, fun _ => ⟨rfl, h3⟩⟩
theorem two_new {W x y : World} (O : Off (fun _ => False) W x) (hW : Wtr (fun c => c = x.heap.size) x.heap.size 100000 (some []) y) (o3 : Off (fun _ => False) x y) :
    ∃ (v : World) (p1 p2 : Nat) (D E : Nat → Prop), v = y.alloc (.cells #[.slice none 0 0, .int .i64 100000, .bool false] 52) ∧ p1 = x.heap.size ∧ p2 = y.heap.size ∧ Wtr D p1 100000 (some []) v ∧ FW E p2 100000 (some []) v ∧ (∀ c, D c → E c → False) ∧ (∀ c, D c → W.heap.size ≤ c) ∧ (∀ c, E c → W.heap.size ≤ c) ∧ Off (fun _ => False) W v := by
  have o2 : Off (fun _ => False) y (y.alloc (.cells #[.slice none 0 0, .int .i64 100000, .bool false] 52)) := (Off.refl _ y).alloc _
  have h1 := hW.lt _ hW.here
  have h2 := O.size
  have h3 := o3.size
  refine ⟨_, _, _, (fun c => c = x.heap.size), (fun c => c = y.heap.size), rfl, rfl, rfl, hW.off o2 (fun _ _ _ h => h), ⟨rfl, fun c h => by simp [h], by decide, .inr ⟨[], none, 0, rfl, Cel.new y _ _, OwnR.nil _, fun k hk => by simp [blk] at hk⟩⟩, fun c h1 h2 => by omega, fun c h => by omega, fun c h => by omega, (O.trans o3 (fun _ _ h => h)).trans o2 (fun _ _ h => h)⟩
theorem two_rd {bs : List Nat} {w x1 x2 : World} {rb : Nat} {Dr : Nat → Prop} {t2 : Option Addr} {c2 : Nat} (hlt : ∀ b ∈ bs, b < 256) (hbl : bs.length ≤ 140737488355328) (hrb : w.heap.size ≤ rb) (hD : ∀ c, Dr c → w.heap.size ≤ c) (R : Rdr 111 Dr rb (bs, 0) x1) (o6 : Off (fun _ => False) w x1) (o7 : Off (fun _ => False) x1 x2) (own : OwnR x2 t2 c2 bs) (hb : ∀ k, blk t2 = some k → x1.heap.size ≤ k) :
    ∃ (V0 : World) (mb : Nat) (Dm : Nat → Prop), V0 = x2.alloc (.cells #[.slice t2 bs.length c2, .int .i64 0] 63) ∧ mb = x2.heap.size ∧ Rdr 111 Dr rb (bs, 0) V0 ∧ Rdr 63 Dm mb (bs, 0) V0 ∧ rb ≠ mb ∧ ¬ Dr mb ∧ ¬ Dm rb ∧ w.heap.size ≤ rb ∧ w.heap.size ≤ mb ∧ (∀ c, Dr c → w.heap.size ≤ c) ∧ (∀ c, Dm c → w.heap.size ≤ c) ∧ Off (fun _ => False) w V0 := by
  have oo : Off (fun _ => False) x2 (x2.alloc (.cells #[.slice t2 bs.length c2, .int .i64 0] 63)) := (Off.refl _ x2).alloc _
  have h1 := R.here
  have h2 := o6.size
  have h3 := o7.size
  have hl2 : ∀ k, blk t2 = some k → k < x2.heap.size := own.lt
  refine ⟨_, _, (fun c => blk t2 = some c), rfl, rfl, (R.off o7 (fun h => h) (fun _ _ _ h => h)).off oo (fun h => h) (fun _ _ _ h => h), ?_, by omega, fun h => by have := R.lt _ h; omega, fun h => by have := hb _ h; omega, hrb, by omega, hD, fun c h => by have := hb _ h; omega, (o6.trans o7 (fun _ _ h => h)).trans oo (fun _ _ h => h)⟩
  refine ⟨⟨hlt, by simp, by simp⟩, fun c h => ?_, fun h => ?_, by simp only; omega, t2, c2, Cel.new x2 _ _, (own.off oo (fun _ _ _ h => h)).lie (fun c h => h)⟩
  · have := hl2 c h
    have := oo.size
    omega
  · have := hl2 _ h
    omega
theorem cel10 {b : Nat} {t : TypeId} {x0 x1 x2 x3 x4 x5 x6 x7 x8 x9 : Value} {w : World} (h : Cel b t #[x0, x1, x2, x3, x4, x5, x6, x7, x8, x9] w) : w.cell? ⟨b, 0, none⟩ = some x0 ∧ w.cell? ⟨b, 1, none⟩ = some x1 ∧ w.cell? ⟨b, 2, none⟩ = some x2 ∧ w.cell? ⟨b, 3, none⟩ = some x3 ∧ w.cell? ⟨b, 4, none⟩ = some x4 ∧ w.cell? ⟨b, 5, none⟩ = some x5 ∧ w.cell? ⟨b, 6, none⟩ = some x6 ∧ w.cell? ⟨b, 7, none⟩ = some x7 ∧ w.cell? ⟨b, 8, none⟩ = some x8 ∧ w.cell? ⟨b, 9, none⟩ = some x9 := by
  refine ⟨?_, ?_, ?_, ?_, ?_, ?_, ?_, ?_, ?_, ?_⟩ <;> (rw [h.cell]; rfl)
end Go.Proofs.Ytfkpnmmcdhibbaa
