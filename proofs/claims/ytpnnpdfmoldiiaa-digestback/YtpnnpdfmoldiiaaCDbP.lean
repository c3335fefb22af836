/- Items of several texts. -/
import Derived.Test.YtpnnpdfmoldiiaaCDr0
import Derived.Test.YtpnnpdfmoldiiaaCDwr
import Derived.Test.YtpnnpdfmoldiiaaCBkP
namespace Go.Proofs.Ytpnnpdfmoldiiaa
open Go.RowKit
def encDs : List (Int × Int) → List Nat
 | [] => []
 | d :: r => (numB (u64N d.1) ++ numB (zig d.2)) ++ encDs r
def encG (t : List Nat) (f : Nat → Int) (ds : List (Int × Int)) : List Nat := (numB t.length ++ t) ++ (encV f 8 ++ (numB ds.length ++ encDs ds))
theorem wrDs_enc {most : Nat} : ∀ {st : Option (List Nat)}, (st.getD []).length ≤ most → ∀ (ds : List (Int × Int)), ds.foldl (wrDt most) st = putS most st (encDs ds)
 | _, h, [] => (put_none h).symm
 | st, h, d :: r => by
  have e : (d :: r).foldl (wrDt most) st = r.foldl (wrDt most) (wrDt most st d) := rfl
  have e2 : wrDt most st d = putS most st (numB (u64N d.1) ++ numB (zig d.2)) := by unfold wrDt; rw [put_put]
  rw [e, wrDs_enc (st := wrDt most st d) (put_le (put_le h _) _) r, e2, put_put]
  rfl
theorem wrG_enc (most : Nat) (key : ByteArray) (f : Nat → Int) (ds : List (Int × Int)) : wrG most (some []) key f ds = putS most (some []) (encG (keyL key) f ds) := by
 have h0 : (((some [] : Option (List Nat))).getD []).length ≤ most := by simp
 unfold wrG
 rw [wrDs_enc (put_le (wrV_le (put_le h0 _) f 8) _), wrV_enc (put_le h0 _), put_put, put_put, put_put]
 unfold encG
 simp only [List.append_assoc]
theorem wrG_cases (most : Nat) (key : ByteArray) (f : Nat → Int) (ds : List (Int × Int)) : wrG most (some []) key f ds = none ∨ wrG most (some []) key f ds = some (encG (keyL key) f ds) := by
 rw [wrG_enc]
 simp only [putS]
 split
 ·right; rfl
 ·left; rfl
theorem encDs_lt : ∀ (ds : List (Int × Int)), ∀ y ∈ encDs ds, y < 256
 | [], _, h => by simp [encDs] at h
 | d :: r, y, h => by
  simp only [encDs, List.mem_append] at h
  rcases h with (h | h) | h
  ·exact numB_lt _ y h
  ·exact numB_lt _ y h
  ·exact encDs_lt r y h
theorem encG_lt {key : ByteArray} {f : Nat → Int} {ds : List (Int × Int)} : ∀ y ∈ encG (keyL key) f ds, y < 256 := by
 intro y h
 simp only [encG, List.mem_append] at h
 rcases h with (h | h) | h | h | h
 ·exact numB_lt _ y h
 ·exact keyL_lt key y h
 ·exact encV_lt f 8 y h
 ·exact numB_lt _ y h
 ·exact encDs_lt ds y h
def dtNx (s : RS) : RS := (intS (numS s).2).2
theorem dtSt_in (s : RS) : ∀ n, dtSt s (n + 1) = dtSt (dtNx s) n
 | 0 => rfl
 | n + 1 => by show dtNx (dtSt s (n + 1)) = dtNx (dtSt (dtNx s) n); rw [dtSt_in s n]
theorem rdDs_in (nd : Nat → Int) (s : RS) (n : Nat) : rdDs nd (n + 1) s = rdDt nd s :: rdDs nd n (dtNx s) := by
 unfold rdDs
 rw [List.range_succ_eq_map, List.map_cons, List.map_map]
 have e : List.map ((fun i => rdDt nd (dtSt s i)) ∘ Nat.succ) (List.range n) = List.map (fun i => rdDt nd (dtSt (dtNx s) i)) (List.range n) :=
  List.map_congr_left fun i _ => by
   simp only [Function.comp_apply, Nat.succ_eq_add_one]
   rw [dtSt_in]
 rw [e]
 simp only [dtSt]
theorem bk_dots : ∀ {ds : List (Int × Int)}, RgD ds → ∀ r, dtSt (encDs ds ++ r, 0) ds.length = (r, 0) ∧ rdDs nodeP ds.length (encDs ds ++ r, 0) = ds
 | [], _, r => ⟨rfl, rfl⟩
 | d :: l, h, r => by
  have hd := h.rg d (by simp)
  have e : encDs (d :: l) ++ r = numB (u64N d.1) ++ (numB (zig d.2) ++ (encDs l ++ r)) := by simp [encDs, List.append_assoc]
  have n1 := bk_num (u64N_lt d.1) (numB (zig d.2) ++ (encDs l ++ r))
  have n2 := bk_int hd.2.1 hd.2.2 (encDs l ++ r)
  have v1 : dtNx (numB (u64N d.1) ++ (numB (zig d.2) ++ (encDs l ++ r)), 0) = (encDs l ++ r, 0) := by unfold dtNx; rw [n1, n2]
  have v2 : rdDt nodeP (numB (u64N d.1) ++ (numB (zig d.2) ++ (encDs l ++ r)), 0) = d := by unfold rdDt; rw [n1, n2, node_back hd.1.1 hd.1.2]
  obtain ⟨l1, l2⟩ := bk_dots (ds := l) ⟨fun y hy => h.rg y (by simp [hy])⟩ r
  rw [e, List.length_cons, dtSt_in, rdDs_in, v1, v2]
  exact ⟨l1, by rw [l2]⟩
theorem cov_congr {f g : Nat → Int} (h : ∀ j, j < 8 → f j = g j) (n N : Int) : coversB f n N = coversB g n N := by
 unfold coversB
 rw [decide_eq_decide]
 constructor
 ·rintro ⟨a, b, c, d⟩
  exact ⟨a, b, c, by rw [← h n.toNat (by omega)]; exact d⟩
 ·rintro ⟨a, b, c, d⟩
  exact ⟨a, b, c, by rw [h n.toNat (by omega)]; exact d⟩
theorem okD_congr {f g : Nat → Int} (h : ∀ j, j < 8 → f j = g j) : ∀ (p : Option (Int × Int)) (ds : List (Int × Int)), okD f p ds = okD g p ds
 | none, [] => rfl
 | some _, [] => rfl
 | none, d :: r => by unfold okD; rw [cov_congr h, okD_congr h]
 | some _, d :: r => by unfold okD; rw [cov_congr h, okD_congr h]
theorem mayD_congr {k : ByteArray} {f g : Nat → Int} {ds : List (Int × Int)} (h : ∀ j, j < 8 → f j = g j) : mayD ⟨k, f, ds⟩ = mayD ⟨k, g, ds⟩ := by
 unfold mayD
 show (keyB k && (mayB f && (decide (ds.length ≤ 16) && okD f none ds))) = (keyB k && (mayB g && (decide (ds.length ≤ 16) && okD g none ds)))
 rw [mayB_congr h, okD_congr h]
theorem bk_dr {key : ByteArray} {f : Nat → Int} {ds : List (Int × Int)} (hks : key.size ≤ 140737488351232) (hr : ∀ j, j < 8 → -9223372036854775808 ≤ f j ∧ f j ≤ 9223372036854775807) (hl : RgD ds) (hn : ds.length ≤ 1000) :
  drB nodeP (encG (keyL key) f ds, 0) = mayD ⟨key, f, ds⟩ ∧ (mayD ⟨key, f, ds⟩ = true → drKey nodeP (encG (keyL key) f ds, 0) = key ∧ (∀ j, j < 8 → drF nodeP (encG (keyL key) f ds, 0) j = f j) ∧ drL nodeP (encG (keyL key) f ds, 0) = ds ∧ endS (drS (encG (keyL key) f ds, 0)) = 0) := by
 have hkl := keyL_len key
 have hE : encG (keyL key) f ds = numB (keyL key).length ++ (keyL key ++ (encV f 8 ++ (numB ds.length ++ encDs ds))) := by unfold encG; simp only [List.append_assoc]
 by_cases h32 : (keyL key).length ≤ 32
 case neg =>
  have ht := bk_long (keyL key) (encV f 8 ++ (numB ds.length ++ encDs ds)) (by omega) (most := 32) (by omega)
  have eT : drT (encG (keyL key) f ds, 0) = ([], 4) := by unfold drT; rw [hE, ht]
  have hm : mayD ⟨key, f, ds⟩ = false := by
   unfold mayD
   show (keyB key && _) = false
   have : keyB key = false := by unfold keyB; rw [decide_eq_false (p := key.size ≤ 32) (by omega)]; simp
   rw [this]
   rfl
  have hb : drB nodeP (encG (keyL key) f ds, 0) = false := by
   unfold drB readB
   rw [eT, er_vec (by decide)]
   rfl
  rw [hb, hm]
  exact ⟨rfl, fun h => by cases h⟩
 have ht := bk_text (keyL key) (encV f 8 ++ (numB ds.length ++ encDs ds)) (by omega) h32
 have eT : drT (encG (keyL key) f ds, 0) = (encV f 8 ++ (numB ds.length ++ encDs ds), 0) := by unfold drT; rw [hE, ht]
 have eK : drK (encG (keyL key) f ds, 0) = key := by unfold drK; rw [hE, ht]; exact strOf_key key
 have hv := bk_vec hr 8 (by omega) (numB ds.length ++ encDs ds)
 have hF : ∀ j, j < 8 → rdF (encV f 8 ++ (numB ds.length ++ encDs ds), 0) j = f j := fun j hj => bk_vecF hr hj _
 have hrb : readB (encV f 8 ++ (numB ds.length ++ encDs ds), 0) = mayB f := by
  unfold readB
  rw [hv, mayB_congr hF]
  simp
 by_cases h16 : ds.length ≤ 16
 case neg =>
  have hc := bk_over (n := ds.length) (by omega) (encDs ds) (most := 16) (by omega)
  have hm : mayD ⟨key, f, ds⟩ = false := by
   unfold mayD
   show (keyB key && (mayB f && (decide (ds.length ≤ 16) && _))) = false
   rw [decide_eq_false h16]
   simp
  have eS : drS (encG (keyL key) f ds, 0) = ([], 4) := by
   unfold drS
   rw [eT, hv, hc]
   rfl
  have hb : drB nodeP (encG (keyL key) f ds, 0) = false := by
   unfold drB
   rw [eS]
   simp
  rw [hb, hm]
  exact ⟨rfl, fun h => by cases h⟩
 have hc := bk_count (n := ds.length) (by omega) (encDs ds) h16
 have hd := bk_dots hl []
 rw [List.append_nil] at hd
 have eS : drS (encG (keyL key) f ds, 0) = ([], 0) := by
  unfold drS
  rw [eT, hv, hc]
  exact hd.1
 have eD : drD nodeP (encG (keyL key) f ds, 0) = ds := by
  unfold drD
  rw [eT, hv, hc]
  exact hd.2
 have hb : drB nodeP (encG (keyL key) f ds, 0) = mayD ⟨key, f, ds⟩ := by
  unfold drB
  rw [eS, eD, eK, eT, hrb]
  cases hmb : mayB f
  ·unfold mayD
   show _ = (keyB key && (mayB f && _))
   rw [hmb]
   simp
  ·have e : readF (encV f 8 ++ (numB ds.length ++ encDs ds), 0) = rdF (encV f 8 ++ (numB ds.length ++ encDs ds), 0) := by unfold readF; rw [hrb, hmb]; rfl
   rw [e, mayD_congr hF]
   simp
 refine ⟨hb, fun hm => ?_⟩
 rw [hm] at hb
 have hmb : mayB f = true := by
  unfold mayD at hm
  have hm : (keyB key && (mayB f && (decide (ds.length ≤ 16) && okD f none ds))) = true := hm
  simp only [Bool.and_eq_true] at hm
  exact hm.2.1
 refine ⟨by unfold drKey; rw [if_pos hb]; exact eK, fun j hj => ?_, by unfold drL; rw [if_pos hb]; exact eD, by rw [eS]; rfl⟩
 unfold drF
 rw [if_pos hb, eT]
 unfold readF
 rw [hrb, hmb]
 exact hF j hj
end Go.Proofs.Ytpnnpdfmoldiiaa
