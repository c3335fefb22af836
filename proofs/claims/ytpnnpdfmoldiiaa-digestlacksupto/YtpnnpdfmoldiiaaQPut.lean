/- Items of several texts. -/
import Derived.Lib.Bytealg
import Derived.Lib.BytesEntry
import Derived.Laws.Externs
import Derived.Deep.RegionWith
import Derived.Deep.Cut
import Derived.Test.YtpnnpdfmoldiiaaQVal
namespace Go.Proofs.Ytpnnpdfmoldiiaa
open Go.RowKit
structure MayP (f : Nat → Int) (l : List A) : Prop where
 seen : ∀ j, j < 8 → 0 ≤ f j ∧ f j ≤ 1099511627776
 few : l.length ≤ 16
 less : ∀ i x y, l[i]? = some x → l[i + 1]? = some y → lessB x.node x.num y.node y.num = true
 cov : ∀ x, x ∈ l → coversB f x.node x.num = true ∧ okData x.data.length x.dead = true
def lessAll : List A → Bool
 | [] => true
 | [_] => true
 | x :: y :: l => lessB x.node x.num y.node y.num && lessAll (y :: l)
theorem lessAll_iff : ∀ l : List A, lessAll l = true ↔ ∀ i x y, l[i]? = some x → l[i + 1]? = some y → lessB x.node x.num y.node y.num = true
 | [] => by simp [lessAll]
 | [_] => by simp [lessAll]
 | x :: y :: l => by
  rw [lessAll, Bool.and_eq_true, lessAll_iff (y :: l)]
  constructor
  ·rintro ⟨h1, h2⟩ i a b ha hb
   cases i with
   | zero =>
    simp at ha hb
    subst ha hb
    exact h1
   | succ i => exact h2 i a b (by simpa using ha) (by simpa using hb)
  ·intro h
   exact ⟨h 0 x y rfl rfl, fun i a b ha hb => h (i + 1) a b (by simpa using ha) (by simpa using hb)⟩
def mayS (f : Nat → Int) (l : List A) : Bool := mayB f && (decide (l.length ≤ 16) && (lessAll l && l.all fun x => coversB f x.node x.num && okData x.data.length x.dead))
theorem may_iff {f : Nat → Int} {l : List A} : mayS f l = true ↔ MayP f l := by
 simp only [mayS, mayB, Bool.and_eq_true, decide_eq_true_eq, lessAll_iff, List.all_eq_true]
 exact ⟨fun ⟨a, b, c, d⟩ => ⟨a, b, c, d⟩, fun h => ⟨h.seen, h.few, h.less, h.cov⟩⟩
theorem may_yes {f : Nat → Int} {l : List A} (h : MayP f l) : mayS f l = true := may_iff.2 h
theorem may_no {f : Nat → Int} {l : List A} (h : ¬ MayP f l) : mayS f l = false := by
 cases e : mayS f l
 ·rfl
 ·exact absurd (may_iff.1 e) h
theorem mem_cont {l : List V} {i : Nat} {v : V} (h : l[i]? = some v) : v.abs ∈ cont l := List.mem_map.2 ⟨v, List.mem_of_getElem? h, rfl⟩
theorem get_cont {l : List V} {i : Nat} {v : V} (h : l[i]? = some v) : (cont l)[i]? = some v.abs := by simp [cont, h]
theorem get_cont' {l : List V} {i : Nat} {x : A} (h : (cont l)[i]? = some x) : ∃ v, l[i]? = some v ∧ x = v.abs := by
 simp only [cont, List.getElem?_map, Option.map_eq_some_iff] at h
 obtain ⟨v, h1, h2⟩ := h
 exact ⟨v, h1, h2.symm⟩
structure Upto (f : Nat → Int) (l : List V) (n : Nat) : Prop where
 less : ∀ i x y, i + 1 < n → l[i]? = some x → l[i + 1]? = some y → lessB x.node x.num y.node y.num = true
 cov : ∀ i x, i < n → l[i]? = some x → coversB f x.node x.num = true ∧ okData x.data.length x.dead = true
theorem Upto.zero (f : Nat → Int) (l : List V) : Upto f l 0 := ⟨fun _ _ _ h => by omega, fun _ _ h => by omega⟩
theorem Upto.step {f : Nat → Int} {l : List V} {n : Nat} (h : Upto f l n) {v : V} (hv : l[n]? = some v) (hc : coversB f v.abs.node v.abs.num = true ∧ okData v.abs.data.length v.abs.dead = true) (hl : ∀ i u, i + 1 = n → l[i]? = some u → lessB u.node u.num v.node v.num = true) : Upto f l (n + 1) := by
 refine ⟨fun i x y hi hx hy => ?_, fun i x hi hx => ?_⟩
 ·rcases Nat.lt_or_ge (i + 1) n with h1 | h1
  ·exact h.less i x y h1 hx hy
  ·obtain rfl : n = i + 1 := by omega
   rw [hv] at hy
   cases hy
   exact hl i x rfl hx
 ·rcases Nat.lt_or_ge i n with h1 | h1
  ·exact h.cov i x h1 hx
  ·obtain rfl : n = i := by omega
   rw [hv] at hx
   cases hx
   exact hc
theorem Upto.may {f : Nat → Int} {l : List V} (h : Upto f l l.length) (hs : ∀ j, j < 8 → 0 ≤ f j ∧ f j ≤ 1099511627776) (hl : l.length ≤ 16) : MayP f (cont l) := by
 refine ⟨hs, by rw [cont_len]; exact hl, fun i x y hx hy => ?_, fun x hx => ?_⟩
 ·obtain ⟨u, hu, rfl⟩ := get_cont' hx
  obtain ⟨v, hv, rfl⟩ := get_cont' hy
  have : i + 1 < l.length := by
   obtain ⟨h, -⟩ := List.getElem?_eq_some_iff.1 hv
   exact h
  exact h.less i u v this hu hv
 ·simp only [cont, List.mem_map] at hx
  obtain ⟨v, hv, rfl⟩ := hx
  obtain ⟨i, hi⟩ := List.getElem?_of_mem hv
  have : i < l.length := by
   obtain ⟨h, -⟩ := List.getElem?_eq_some_iff.1 hi
   exact h
  exact h.cov i v this hi
theorem less_at {l : List V} {n m : Nat} {u v : V} (hm : n = m + 1) (hu : l[m]? = some u) (h : lessB u.node u.num v.node v.num = true) : ∀ i x, i + 1 = n → l[i]? = some x → lessB x.node x.num v.node v.num = true := by
 intro i x hi hx
 obtain rfl : i = m := by omega
 rw [hu] at hx
 cases hx
 exact h
set_option maxRecDepth 100000 in
set_option maxHeartbeats 2000000 in
theorem smay_any (f : Nat → Int) (a : Option Addr) (cap : Nat) (l : List V) (w : World) (hr : Row w a cap l) :
  Calls Try.prog 83 #[.agg #[.int .i64 (f 0), .int .i64 (f 1), .int .i64 (f 2), .int .i64 (f 3), .int .i64 (f 4), .int .i64 (f 5), .int .i64 (f 6), .int .i64 (f 7), .slice a l.length cap]] w fun e w' => e = .returned (.bool (mayS f (cont l))) ∧ Off (fun _ => False) w w' := by
 have hnot := not_any
 have B0 := Cel.new w 38 #[.int .i64 (f 0), .int .i64 (f 1), .int .i64 (f 2), .int .i64 (f 3), .int .i64 (f 4), .int .i64 (f 5), .int .i64 (f 6), .int .i64 (f 7), .slice a l.length cap]
 have O0 : Off (fun _ => False) w (w.alloc (.cells #[.int .i64 (f 0), .int .i64 (f 1), .int .i64 (f 2), .int .i64 (f 3), .int .i64 (f 4), .int .i64 (f 5), .int .i64 (f 6), .int .i64 (f 7), .slice a l.length cap] 38)) := (Off.refl _ w).alloc _
 cases hm : mayB f
 ·go_enter Try.func83, Try.ntmps83
  go_wp2_with fail
  refine (may_any f _).mono ?_
  rw [hm]
  rintro e w1 ⟨rfl, o1⟩
  go_wp2_with fail
  go_ret
  refine ⟨?_, O0.trans o1 (fun _ _ h => h)⟩
  rw [may_no (fun hM => by simp [mayB] at hm; obtain ⟨j, hj, h⟩ := hm; have := hM.seen j hj; have := h this.1; omega)]
  rfl
 have hseen : ∀ j, j < 8 → 0 ≤ f j ∧ f j ≤ 1099511627776 := by simpa [mayB] using hm
 have HSN : Hid _ := hseen
 clear hseen
 by_cases hl : l.length ≤ 16
 ·have d1 : decide ((16 : Int) < (l.length : Int)) = false := decide_eq_false (by omega)
  have d2 : decide (16 < l.length) = false := decide_eq_false (by omega)
  have R0 := hr.off O0
  have HB0 : Hid _ := B0
  have HO0 : Hid _ := O0
  have HR0 : Hid _ := R0
  have HHL : Hid _ := hl
  clear B0 O0 R0 hr
  go_enter Try.func83, Try.ntmps83
  go_wp2_with fail
  refine (may_any f _).mono ?_
  rw [hm]
  rintro e w1 ⟨rfl, o1⟩
  have B1 := HB0.out.off o1 (fun h => h)
  have O1 := HO0.out.trans o1 (fun _ _ h => h)
  have R1 := HR0.out.off o1
  have c8 : w1.cell? ⟨w.heap.size, 8, none⟩ = some (.slice a l.length cap) := B1.cell 8
  have HB1 : Hid _ := B1
  have HO1 : Hid _ := O1
  have HR1 : Hid _ := R1
  clear B1 O1 R1 o1
  go_wp2_with fail
  go_loopw [18] (fun y wr => ∃ n : Nat, y = .int .i64 (n : Int) ∧ n ≤ l.length ∧ Upto f l n ∧ Off (fun _ => False) w wr ∧ Cel w.heap.size 38 #[.int .i64 (f 0), .int .i64 (f 1), .int .i64 (f 2), .int .i64 (f 3), .int .i64 (f 4), .int .i64 (f 5), .int .i64 (f 6), .int .i64 (f 7), .slice a l.length cap] wr ∧ Row wr a cap l) (fun y _ => (l.length - intOf y).toNat)
  case atStart => exact ⟨0, rfl, by omega, Upto.zero f l, HO1.out, HB1.out, HR1.out⟩
  case round =>
   clear HB1 HO1 HR1 HB0 HO0 HR0 c8
   obtain ⟨n, rfl, hn, hg, O, cb, hr1⟩ := hrel
   have HG : Hid _ := hg
   clear hg
   by_cases hlt : n < l.length
   ·have e1 : decide ((n : Int) < (l.length : Int)) = true := decide_eq_true (by omega)
    have e2 : decide (n < l.length) = true := decide_eq_true hlt
    obtain ⟨v, hv⟩ : ∃ v, l[n]? = some v := ⟨_, List.getElem?_eq_getElem hlt⟩
    obtain ⟨b, off, rfl, k, -⟩ := hr1.at_ n v hv
    obtain ⟨k0, k1, k2, k3⟩ := k
    have k : At4 wr b (off + n * 4) v := ⟨k0, k1, k2, k3⟩
    rcases Nat.eq_zero_or_pos n with hn0 | hn0
    ·have e5 : decide ((0 : Int) < (n : Int)) = false := decide_eq_false (by omega)
     have e6 : decide (0 < n) = false := decide_eq_false (by omega)
     have HN0 : Hid _ := hn0
     clear hn0
     go_wp2_with fail
     have C1 := Cel.new wr 117 #[.int .i64 v.node, .int .i64 v.num, .slice v.ad v.data.length v.cap, .bool v.dead]
     have CB1 := cb.alloc (.cells #[.int .i64 v.node, .int .i64 v.num, .slice v.ad v.data.length v.cap, .bool v.dead] 117)
     have R1 := hr1.off ((Off.refl _ wr).alloc (.cells #[.int .i64 v.node, .int .i64 v.num, .slice v.ad v.data.length v.cap, .bool v.dead] 117))
     have O1 := O.alloc (.cells #[.int .i64 v.node, .int .i64 v.num, .slice v.ad v.data.length v.cap, .bool v.dead] 117)
     have := k.off ((Off.refl (fun _ => False) wr).alloc (.cells #[.int .i64 v.node, .int .i64 v.num, .slice v.ad v.data.length v.cap, .bool v.dead] 117)) (fun _ h => h)
     generalize hZ : wr.heap.size = Z at C1 ⊢
     generalize hW : wr.alloc (.cells #[.int .i64 v.node, .int .i64 v.num, .slice v.ad v.data.length v.cap, .bool v.dead] 117) = W at C1 CB1 R1 O1 ⊢
     have CV : Hid _ := C1
     have CB : Hid _ := CB1
     have HR : Hid _ := R1
     have HO : Hid _ := O1
     clear C1 CB1 R1 O1 cb hr1 O hZ hW k0 k1 k2 k3 k
     refine wp_region_held_drew (S := fun w' => Off (fun _ => False) W w') (by kernel_rfl) ((Off.refl _ W).drew) (fun hS => ?_)
     refine take_at (i := 0) 23 (v := .int .i64 (n : Int)) rfl rfl (by kernel_rfl) (by kernel_rfl) (by kernel_rfl) (fun _ _ _ h => h) (Or.inl ⟨by rfl, fun w' hw' => by go_simp⟩) hS ?_
     simp only [Act.put, lsA, lsZ, lsS]
     refine take_at (i := 1) 24 (v := .bool false) rfl rfl (by kernel_rfl) (by kernel_rfl) (by kernel_rfl) (fun _ _ _ h => h) (Or.inl ⟨by rfl, fun w' hw' => by go_simp⟩) hS ?_
     simp only [Act.put, lsA, lsZ, lsS]
     refine take_at (i := 2) 25 (v := .bool false) rfl rfl (by kernel_rfl) (by kernel_rfl) (by kernel_rfl) (fun _ _ _ h => h) (Or.inl ⟨by rfl, fun w' hw' => by go_simp⟩) hS ?_
     simp only [Act.put, lsA, lsZ, lsS]
     refine take_at (i := 3) 26 (v := undef) rfl rfl (by kernel_rfl) (by kernel_rfl) (by kernel_rfl) (fun _ _ _ h => h) (Or.inr ⟨by rfl, rfl⟩) hS ?_
     simp only [Act.put, lsA, lsZ, lsS]
     refine take_at (i := 4) 27 (v := undef) rfl rfl (by kernel_rfl) (by kernel_rfl) (by kernel_rfl) (fun _ _ _ h => h) (Or.inr ⟨by rfl, rfl⟩) hS ?_
     simp only [Act.put, lsA, lsZ, lsS]
     refine take_at (i := 5) 28 (v := undef) rfl rfl (by kernel_rfl) (by kernel_rfl) (by kernel_rfl) (fun _ _ _ h => h) (Or.inr ⟨by rfl, rfl⟩) hS ?_
     simp only [Act.put, lsA, lsZ, lsS]
     refine take_at (i := 6) 29 (v := undef) rfl rfl (by kernel_rfl) (by kernel_rfl) (by kernel_rfl) (fun _ _ _ h => h) (Or.inr ⟨by rfl, rfl⟩) hS ?_
     simp only [Act.put, lsA, lsZ, lsS]
     refine take_at (i := 7) 30 (v := undef) rfl rfl (by kernel_rfl) (by kernel_rfl) (by kernel_rfl) (fun _ _ _ h => h) (Or.inr ⟨by rfl, rfl⟩) hS ?_
     simp only [Act.put, lsA, lsZ, lsS]
     refine take_at (i := 8) 31 (v := undef) rfl rfl (by kernel_rfl) (by kernel_rfl) (by kernel_rfl) (fun _ _ _ h => h) (Or.inr ⟨by rfl, rfl⟩) hS ?_
     simp only [Act.put, lsA, lsZ, lsS]
     refine take_at (i := 9) 32 (v := undef) rfl rfl (by kernel_rfl) (by kernel_rfl) (by kernel_rfl) (fun _ _ _ h => h) (Or.inr ⟨by rfl, rfl⟩) hS ?_
     simp only [Act.put, lsA, lsZ, lsS]
     refine take_at (i := 10) 33 (v := undef) rfl rfl (by kernel_rfl) (by kernel_rfl) (by kernel_rfl) (fun _ _ _ h => h) (Or.inr ⟨by rfl, rfl⟩) hS ?_
     simp only [Act.put, lsA, lsZ, lsS]
     refine take_at (i := 11) 34 (v := undef) rfl rfl (by kernel_rfl) (by kernel_rfl) (by kernel_rfl) (fun _ _ _ h => h) (Or.inr ⟨by rfl, rfl⟩) hS ?_
     simp only [Act.put, lsA, lsZ, lsS]
     refine take_at (i := 12) 35 (v := undef) rfl rfl (by kernel_rfl) (by kernel_rfl) (by kernel_rfl) (fun _ _ _ h => h) (Or.inr ⟨by rfl, rfl⟩) hS ?_
     simp only [Act.put, lsA, lsZ, lsS]
     refine take_at (i := 13) 36 (v := undef) rfl rfl (by kernel_rfl) (by kernel_rfl) (by kernel_rfl) (fun _ _ _ h => h) (Or.inr ⟨by rfl, rfl⟩) hS ?_
     simp only [Act.put, lsA, lsZ, lsS]
     refine take_at (i := 14) 37 (v := .bool false) rfl rfl (by kernel_rfl) (by kernel_rfl) (by kernel_rfl) (fun _ _ _ h => h) (Or.inl ⟨by rfl, fun w' hw' => by go_simp⟩) hS ?_
     simp only [Act.put, lsA, lsZ, lsS]
     refine wpAnyH_done (by kernel_rfl) ?_ _
     obtain ⟨y0, y1, y2, y3, y4, y5, y6, y7, y8⟩ := cel9 (CB.out.off hS (fun h => h))
     obtain ⟨z0, z1, z2, z3⟩ := cel4 (CV.out.off hS (fun h => h))
     cases hcov : coversB f v.node v.num
     ·go_wp2_with fail
      refine (covers_any f _ _ _).mono ?_
      rw [hcov]
      rintro e w3 ⟨rfl, o3⟩
      go_wp2_with fail
      go_ret
      refine ⟨?_, HO.out.trans (hS.trans o3 (fun _ _ h => h)) (fun _ _ h => h)⟩
      rw [may_no (fun hM => by have := (hM.cov v.abs (mem_cont hv)).1; simp [V.abs, hcov] at this)]
      rfl
     ·go_wp2_with fail
      refine (covers_any f _ _ _).mono ?_
      rw [hcov]
      rintro e w3 ⟨rfl, o3⟩
      have O3 := hS.trans o3 (fun _ _ h => h)
      obtain ⟨x0, x1, x2, x3⟩ := cel4 (CV.out.off O3 (fun h => h))
      have HO3 : Hid _ := O3
      clear O3 o3 hS y0 y1 y2 y3 y4 y5 y6 y7 y8 z0 z1 z2 z3
      cases hdat : okData v.data.length v.dead
      ·go_wp2_with fail
       refine (mayData_any _ _ _ _ _).mono ?_
       rw [hdat]
       rintro e w4 ⟨rfl, hw⟩
       rw [hw]
       clear hw w4
       go_wp2_with fail
       go_ret
       refine ⟨?_, HO.out.trans HO3.out (fun _ _ h => h)⟩
       rw [may_no (fun hM => by have := (hM.cov v.abs (mem_cont hv)).2; simp [V.abs, hdat] at this)]
       rfl
      ·go_wp2_with fail
       refine (mayData_any _ _ _ _ _).mono ?_
       rw [hdat]
       rintro e w4 ⟨rfl, hw⟩
       rw [hw]
       clear hw w4
       go_wp2_with fail
       go_roundw
       case rel =>
        refine ⟨n + 1, by go_num, by omega, ?_, HO.out.trans HO3.out (fun _ _ h => h), CB.out.off HO3.out (fun h => h), HR.out.off HO3.out⟩
        exact HG.out.step hv (by simp [V.abs, hcov, hdat]) (fun i u h => by have := HN0.out; omega)
       case measure => simp [intOf]; omega
    ·obtain ⟨m, hm1⟩ : ∃ m, n = m + 1 := ⟨n - 1, by omega⟩
     have e5 : decide ((0 : Int) < (n : Int)) = true := decide_eq_true (by omega)
     have e6 : decide (0 < n) = true := decide_eq_true (by omega)
     obtain ⟨u, hu⟩ : ∃ u, l[m]? = some u := ⟨_, List.getElem?_eq_getElem (by omega)⟩
     obtain ⟨b', off', eb, p, -⟩ := hr1.at_ m u hu
     simp only [Option.some.injEq, Addr.mk.injEq, and_true] at eb
     obtain ⟨rfl, rfl⟩ := eb
     have hw2 : IntKind.i64.wrap ((n : Int) - 1) = (m : Int) := by
      rw [show (n : Int) - 1 = (m : Int) by omega]
      have := hr1.bound
      have := hr1.len
      exact wrap64 (by omega) (by omega)
     have hpp := p.off ((Off.refl (fun _ => False) wr).alloc (.cells #[.int .i64 v.node, .int .i64 v.num, .slice v.ad v.data.length v.cap, .bool v.dead] 117)) (fun _ h => h)
     have e3 : decide ((m : Int) < (l.length : Int)) = true := decide_eq_true (by omega)
     have e4 : decide (m < l.length) = true := decide_eq_true (by omega)
     have HM1 : Hid _ := hm1
     have hml : m < l.length := by omega
     clear p hm1 hn0
     go_wp2_with fail
     have C1 := Cel.new wr 117 #[.int .i64 v.node, .int .i64 v.num, .slice v.ad v.data.length v.cap, .bool v.dead]
     have CB1 := cb.alloc (.cells #[.int .i64 v.node, .int .i64 v.num, .slice v.ad v.data.length v.cap, .bool v.dead] 117)
     have R1 := hr1.off ((Off.refl _ wr).alloc (.cells #[.int .i64 v.node, .int .i64 v.num, .slice v.ad v.data.length v.cap, .bool v.dead] 117))
     have O1 := O.alloc (.cells #[.int .i64 v.node, .int .i64 v.num, .slice v.ad v.data.length v.cap, .bool v.dead] 117)
     have := k.off ((Off.refl (fun _ => False) wr).alloc (.cells #[.int .i64 v.node, .int .i64 v.num, .slice v.ad v.data.length v.cap, .bool v.dead] 117)) (fun _ h => h)
     generalize hZ : wr.heap.size = Z at C1 ⊢
     generalize hW : wr.alloc (.cells #[.int .i64 v.node, .int .i64 v.num, .slice v.ad v.data.length v.cap, .bool v.dead] 117) = W at C1 CB1 R1 O1 hpp ⊢
     have CV : Hid _ := C1
     have CB : Hid _ := CB1
     have HR : Hid _ := R1
     have HO : Hid _ := O1
     clear C1 CB1 R1 O1 cb hr1 O hZ hW k0 k1 k2 k3 k
     have HP : Hid (At4 W b (off + m * 4) u) := hpp
     clear hpp
     refine wp_region_held_drew (S := fun w' => Off (fun _ => False) W w') (by kernel_rfl) ((Off.refl _ W).drew) (fun hS => ?_)
     cases hls : lessB u.node u.num v.node v.num
     ·refine take_at (i := 0) 23 (v := .int .i64 (n : Int)) rfl rfl (by kernel_rfl) (by kernel_rfl) (by kernel_rfl) (fun _ _ _ h => h) (Or.inl ⟨by rfl, fun w' hw' => by go_simp⟩) hS ?_
      simp only [Act.put, lsA, lsZ, lsS]
      refine take_at (i := 1) 24 (v := .bool true) rfl rfl (by kernel_rfl) (by kernel_rfl) (by kernel_rfl) (fun _ _ _ h => h) (Or.inl ⟨by rfl, fun w' hw' => by go_simp⟩) hS ?_
      simp only [Act.put, lsA, lsZ, lsS]
      refine take_at (i := 2) 25 (v := .bool true) rfl rfl (by kernel_rfl) (by kernel_rfl) (by kernel_rfl) (fun _ _ _ h => h) (Or.inl ⟨by rfl, fun w' hw' => by go_simp⟩) hS ?_
      simp only [Act.put, lsA, lsZ, lsS]
      refine take_at (i := 3) 26 (v := .pointer (some ⟨w.heap.size, 8, none⟩)) rfl rfl (by kernel_rfl) (by kernel_rfl) (by kernel_rfl) (fun _ _ _ h => h) (Or.inl ⟨by rfl, fun w' hw' => by go_simp⟩) hS ?_
      simp only [Act.put, lsA, lsZ, lsS]
      refine take_at (i := 4) 27 (v := .slice (some ⟨b, off, none⟩) l.length cap) rfl rfl (by kernel_rfl) (by kernel_rfl) (by kernel_rfl) (fun _ _ _ h => h) (Or.inl ⟨by rfl, fun w' hw' => by have x8 := (CB.out.off hw' (fun h => h)).cell 8; simp at x8; go_simp⟩) hS ?_
      simp only [Act.put, lsA, lsZ, lsS]
      refine take_at (i := 5) 28 (v := .int .i64 (n : Int)) rfl rfl (by kernel_rfl) (by kernel_rfl) (by kernel_rfl) (fun _ _ _ h => h) (Or.inl ⟨by rfl, fun w' hw' => by go_simp⟩) hS ?_
      simp only [Act.put, lsA, lsZ, lsS]
      refine take_at (i := 6) 29 (v := .int .i64 (m : Int)) rfl rfl (by kernel_rfl) (by kernel_rfl) (by kernel_rfl) (fun _ _ _ h => h) (Or.inl ⟨by rfl, fun w' hw' => by go_simp⟩) hS ?_
      simp only [Act.put, lsA, lsZ, lsS]
      refine take_at (i := 7) 30 (v := .pointer (some ⟨b, off + m * 4, none⟩)) rfl rfl (by kernel_rfl) (by kernel_rfl) (by kernel_rfl) (fun _ _ _ h => h) (Or.inl ⟨by rfl, fun w' hw' => by go_simp⟩) hS ?_
      simp only [Act.put, lsA, lsZ, lsS]
      refine take_at (i := 8) 31 (v := .pointer (some ⟨b, off + m * 4, none⟩)) rfl rfl (by kernel_rfl) (by kernel_rfl) (by kernel_rfl) (fun _ _ _ h => h) (Or.inl ⟨by rfl, fun w' hw' => by go_simp⟩) hS ?_
      simp only [Act.put, lsA, lsZ, lsS]
      refine take_at (i := 9) 32 (v := .agg #[.int .i64 u.node, .int .i64 u.num]) rfl rfl (by kernel_rfl) (by kernel_rfl) (by kernel_rfl) (fun _ _ _ h => h) (Or.inl ⟨by rfl, fun w' hw' => by obtain ⟨x0, x1, x2, x3⟩ := HP.out.off hw' (fun _ h => h); go_simp⟩) hS ?_
      simp only [Act.put, lsA, lsZ, lsS]
      refine take_at (i := 10) 33 (v := .pointer (some ⟨Z, 0, none⟩)) rfl rfl (by kernel_rfl) (by kernel_rfl) (by kernel_rfl) (fun _ _ _ h => h) (Or.inl ⟨by rfl, fun w' hw' => by go_simp⟩) hS ?_
      simp only [Act.put, lsA, lsZ, lsS]
      refine take_at (i := 11) 34 (v := .agg #[.int .i64 v.node, .int .i64 v.num]) rfl rfl (by kernel_rfl) (by kernel_rfl) (by kernel_rfl) (fun _ _ _ h => h) (Or.inl ⟨by rfl, fun w' hw' => by obtain ⟨x0, x1, x2, x3⟩ := cel4 (CV.out.off hw' (fun h => h)); go_simp⟩) hS ?_
      simp only [Act.put, lsA, lsZ, lsS]
      refine wpAnyH_ready (rs := [12]) (by kernel_rfl) (by simp) ?_
      refine AllReadyH.cons rfl (fun K' hK' => ?_) AllReadyH.nil
      go_simp
      refine (less_any _ _ _ _ _).mono ?_
      rw [hls]
      rintro e v1 ⟨rfl, o1⟩
      refine hK'.out _ _ (hS.trans o1 (fun _ _ h => h)) (fun hS => ?_)
      clear hK' K' o1
      refine take_at (i := 13) 36 (v := .bool true) rfl rfl (by kernel_rfl) (by kernel_rfl) (by kernel_rfl) (fun _ _ _ h => h) (Or.inl ⟨by rfl, fun w' hw' => by go_simp⟩) hS ?_
      simp only [Act.put, lsA, lsZ, lsS]
      refine take_at (i := 14) 37 (v := .bool true) rfl rfl (by kernel_rfl) (by kernel_rfl) (by kernel_rfl) (fun _ _ _ h => h) (Or.inl ⟨by rfl, fun w' hw' => by go_simp⟩) hS ?_
      simp only [Act.put, lsA, lsZ, lsS]
      refine wpAnyH_done (by kernel_rfl) ?_ _
      go_wp2_with fail
      go_ret
      refine ⟨?_, HO.out.trans hS (fun _ _ h => h)⟩
      rw [may_no (fun hM => by have := hM.less m u.abs v.abs (get_cont hu) (get_cont (HM1.out ▸ hv)); simp [V.abs, hls] at this)]
      rfl
     ·refine take_at (i := 0) 23 (v := .int .i64 (n : Int)) rfl rfl (by kernel_rfl) (by kernel_rfl) (by kernel_rfl) (fun _ _ _ h => h) (Or.inl ⟨by rfl, fun w' hw' => by go_simp⟩) hS ?_
      simp only [Act.put, lsA, lsZ, lsS]
      refine take_at (i := 1) 24 (v := .bool true) rfl rfl (by kernel_rfl) (by kernel_rfl) (by kernel_rfl) (fun _ _ _ h => h) (Or.inl ⟨by rfl, fun w' hw' => by go_simp⟩) hS ?_
      simp only [Act.put, lsA, lsZ, lsS]
      refine take_at (i := 2) 25 (v := .bool true) rfl rfl (by kernel_rfl) (by kernel_rfl) (by kernel_rfl) (fun _ _ _ h => h) (Or.inl ⟨by rfl, fun w' hw' => by go_simp⟩) hS ?_
      simp only [Act.put, lsA, lsZ, lsS]
      refine take_at (i := 3) 26 (v := .pointer (some ⟨w.heap.size, 8, none⟩)) rfl rfl (by kernel_rfl) (by kernel_rfl) (by kernel_rfl) (fun _ _ _ h => h) (Or.inl ⟨by rfl, fun w' hw' => by go_simp⟩) hS ?_
      simp only [Act.put, lsA, lsZ, lsS]
      refine take_at (i := 4) 27 (v := .slice (some ⟨b, off, none⟩) l.length cap) rfl rfl (by kernel_rfl) (by kernel_rfl) (by kernel_rfl) (fun _ _ _ h => h) (Or.inl ⟨by rfl, fun w' hw' => by have x8 := (CB.out.off hw' (fun h => h)).cell 8; simp at x8; go_simp⟩) hS ?_
      simp only [Act.put, lsA, lsZ, lsS]
      refine take_at (i := 5) 28 (v := .int .i64 (n : Int)) rfl rfl (by kernel_rfl) (by kernel_rfl) (by kernel_rfl) (fun _ _ _ h => h) (Or.inl ⟨by rfl, fun w' hw' => by go_simp⟩) hS ?_
      simp only [Act.put, lsA, lsZ, lsS]
      refine take_at (i := 6) 29 (v := .int .i64 (m : Int)) rfl rfl (by kernel_rfl) (by kernel_rfl) (by kernel_rfl) (fun _ _ _ h => h) (Or.inl ⟨by rfl, fun w' hw' => by go_simp⟩) hS ?_
      simp only [Act.put, lsA, lsZ, lsS]
      refine take_at (i := 7) 30 (v := .pointer (some ⟨b, off + m * 4, none⟩)) rfl rfl (by kernel_rfl) (by kernel_rfl) (by kernel_rfl) (fun _ _ _ h => h) (Or.inl ⟨by rfl, fun w' hw' => by go_simp⟩) hS ?_
      simp only [Act.put, lsA, lsZ, lsS]
      refine take_at (i := 8) 31 (v := .pointer (some ⟨b, off + m * 4, none⟩)) rfl rfl (by kernel_rfl) (by kernel_rfl) (by kernel_rfl) (fun _ _ _ h => h) (Or.inl ⟨by rfl, fun w' hw' => by go_simp⟩) hS ?_
      simp only [Act.put, lsA, lsZ, lsS]
      refine take_at (i := 9) 32 (v := .agg #[.int .i64 u.node, .int .i64 u.num]) rfl rfl (by kernel_rfl) (by kernel_rfl) (by kernel_rfl) (fun _ _ _ h => h) (Or.inl ⟨by rfl, fun w' hw' => by obtain ⟨x0, x1, x2, x3⟩ := HP.out.off hw' (fun _ h => h); go_simp⟩) hS ?_
      simp only [Act.put, lsA, lsZ, lsS]
      refine take_at (i := 10) 33 (v := .pointer (some ⟨Z, 0, none⟩)) rfl rfl (by kernel_rfl) (by kernel_rfl) (by kernel_rfl) (fun _ _ _ h => h) (Or.inl ⟨by rfl, fun w' hw' => by go_simp⟩) hS ?_
      simp only [Act.put, lsA, lsZ, lsS]
      refine take_at (i := 11) 34 (v := .agg #[.int .i64 v.node, .int .i64 v.num]) rfl rfl (by kernel_rfl) (by kernel_rfl) (by kernel_rfl) (fun _ _ _ h => h) (Or.inl ⟨by rfl, fun w' hw' => by obtain ⟨x0, x1, x2, x3⟩ := cel4 (CV.out.off hw' (fun h => h)); go_simp⟩) hS ?_
      simp only [Act.put, lsA, lsZ, lsS]
      refine wpAnyH_ready (rs := [12]) (by kernel_rfl) (by simp) ?_
      refine AllReadyH.cons rfl (fun K' hK' => ?_) AllReadyH.nil
      go_simp
      refine (less_any _ _ _ _ _).mono ?_
      rw [hls]
      rintro e v1 ⟨rfl, o1⟩
      refine hK'.out _ _ (hS.trans o1 (fun _ _ h => h)) (fun hS => ?_)
      clear hK' K' o1
      refine take_at (i := 13) 36 (v := .bool false) rfl rfl (by kernel_rfl) (by kernel_rfl) (by kernel_rfl) (fun _ _ _ h => h) (Or.inl ⟨by rfl, fun w' hw' => by go_simp⟩) hS ?_
      simp only [Act.put, lsA, lsZ, lsS]
      refine take_at (i := 14) 37 (v := .bool false) rfl rfl (by kernel_rfl) (by kernel_rfl) (by kernel_rfl) (fun _ _ _ h => h) (Or.inl ⟨by rfl, fun w' hw' => by go_simp⟩) hS ?_
      simp only [Act.put, lsA, lsZ, lsS]
      refine wpAnyH_done (by kernel_rfl) ?_ _
      obtain ⟨y0, y1, y2, y3, y4, y5, y6, y7, y8⟩ := cel9 (CB.out.off hS (fun h => h))
      obtain ⟨z0, z1, z2, z3⟩ := cel4 (CV.out.off hS (fun h => h))
      cases hcov : coversB f v.node v.num
      ·go_wp2_with fail
       refine (covers_any f _ _ _).mono ?_
       rw [hcov]
       rintro e w3 ⟨rfl, o3⟩
       go_wp2_with fail
       go_ret
       refine ⟨?_, HO.out.trans (hS.trans o3 (fun _ _ h => h)) (fun _ _ h => h)⟩
       rw [may_no (fun hM => by have := (hM.cov v.abs (mem_cont hv)).1; simp [V.abs, hcov] at this)]
       rfl
      ·go_wp2_with fail
       refine (covers_any f _ _ _).mono ?_
       rw [hcov]
       rintro e w3 ⟨rfl, o3⟩
       have O3 := hS.trans o3 (fun _ _ h => h)
       obtain ⟨x0, x1, x2, x3⟩ := cel4 (CV.out.off O3 (fun h => h))
       have HO3 : Hid _ := O3
       clear O3 o3 hS y0 y1 y2 y3 y4 y5 y6 y7 y8 z0 z1 z2 z3
       cases hdat : okData v.data.length v.dead
       ·go_wp2_with fail
        refine (mayData_any _ _ _ _ _).mono ?_
        rw [hdat]
        rintro e w4 ⟨rfl, hw⟩
        rw [hw]
        clear hw w4
        go_wp2_with fail
        go_ret
        refine ⟨?_, HO.out.trans HO3.out (fun _ _ h => h)⟩
        rw [may_no (fun hM => by have := (hM.cov v.abs (mem_cont hv)).2; simp [V.abs, hdat] at this)]
        rfl
       ·go_wp2_with fail
        refine (mayData_any _ _ _ _ _).mono ?_
        rw [hdat]
        rintro e w4 ⟨rfl, hw⟩
        rw [hw]
        clear hw w4
        go_wp2_with fail
        go_roundw
        case rel =>
         refine ⟨n + 1, by go_num, by omega, ?_, HO.out.trans HO3.out (fun _ _ h => h), CB.out.off HO3.out (fun h => h), HR.out.off HO3.out⟩
         exact HG.out.step hv (by simp [V.abs, hcov, hdat]) (less_at HM1.out hu hls)
        case measure => simp [intOf]; omega
   ·obtain rfl : n = l.length := by omega
    have e1 : decide ((l.length : Int) < (l.length : Int)) = false := decide_eq_false (by omega)
    have e2 : decide (l.length < l.length) = false := decide_eq_false (by omega)
    go_wp2_with fail
    go_ret
    refine ⟨?_, O⟩
    rw [may_yes (HG.out.may HSN.out HHL.out)]
    rfl
 ·have d1 : decide ((16 : Int) < (l.length : Int)) = true := decide_eq_true (by omega)
  have d2 : decide (16 < l.length) = true := decide_eq_true (by omega)
  go_enter Try.func83, Try.ntmps83
  go_wp2_with fail
  refine (may_any f _).mono ?_
  rw [hm]
  rintro e w1 ⟨rfl, o1⟩
  have c8 : w1.cell? ⟨w.heap.size, 8, none⟩ = some (.slice a l.length cap) := (B0.off o1 (fun h => h)).cell 8
  go_wp2_with fail
  go_ret
  refine ⟨?_, O0.trans o1 (fun _ _ h => h)⟩
  rw [may_no (fun hM => by have := hM.few; rw [cont_len] at this; omega)]
  rfl
end Go.Proofs.Ytpnnpdfmoldiiaa

namespace Go.Proofs.Ytpnnpdfmoldiiaa
open Go.RowKit
theorem bclone_any (t : Option Addr) (c : Nat) (bs : List Nat) (hb : bs.length ≤ 140737488355328) (w : World) (hs : Src w t c bs) :
  Calls Try.prog 105 #[.slice t bs.length c] w fun e w' => ∃ t' c', e = .returned (.slice t' bs.length c') ∧ OwnR w' t' c' bs ∧ (∀ k, blk t' = some k → w.heap.size ≤ k) ∧ Off (fun _ => False) w w' := by
 have hq := eql_nil
 rcases hs.is with ⟨rfl, rfl, rfl⟩ | ⟨ad, rfl, -⟩
 ·go_enter Try.func105, Try.ntmps105
  go_wp2
  go_ret
  exact ⟨none, 0, rfl, OwnR.nil w, fun k hk => by simp [blk] at hk, Off.refl _ w⟩
 ·have HS : Hid (Src w (some ad) c bs) := hs
  clear hs
  have L0 : OwnR (w.alloc (.cells #[] 5)) (some ⟨w.heap.size, 0, none⟩) 0 [] := ⟨World.ownsRow_lit w #[] 0 (Nat.zero_le _) (by decide) rfl⟩
  have O0 : Off (fun _ => False) w (w.alloc (.cells #[] 5)) := (Off.refl _ w).alloc _
  go_enter Try.func105, Try.ntmps105
  go_wp2_with (at_builtin; refine wpList_app rfl (.tmp 5) (.tmp 6) rfl _ 0 [] rfl L0 _ c bs rfl (HS.out.off O0 (fun _ _ _ h => h)) (by simpa using hb) ?_; intro t' c' w' ys hys own' off' at')
  go_ret
  obtain rfl : ys = bs := hys.out
  refine ⟨t', c', rfl, own', fun k hk => ?_, O0.trans off' (fun i hi hb => ?_)⟩
  ·rcases at' with a | a
   ·rw [a] at hk
    simp [blk] at hk
    omega
   ·rw [a] at hk
    simp at hk
    omega
  ·simp [blk] at hb
   omega
theorem results_val {fn : Func} {p : Tmp} (h : fn.results = #[.cell p 117]) {tmps : Array Value} {w : World} {b : Nat} {v : V} (hp : tmps.getD p undef = .pointer (some ⟨b, 0, none⟩)) (hc : Cel b 117 #[.int .i64 v.node, .int .i64 v.num, .slice v.ad v.data.length v.cap, .bool v.dead] w) :
  (results fn tmps).run Try.prog w = .ok (.agg #[.int .i64 v.node, .int .i64 v.num, .slice v.ad v.data.length v.cap, .bool v.dead]) w := by
 obtain ⟨d, hd⟩ : ∃ d, Try.prog.underlying 117 = some (.struct d) := ⟨_, Try.underlying117⟩
 exact results_cell_row h tmps w b 117 _ (0, 0) (.struct d) hp hc.is hd rfl (by kernel_rfl)
theorem Cel.st4 {b : Nat} {t : TypeId} {v : V} {w : World} (h : Cel b t #[.int .i64 v.node, .int .i64 v.num, .slice v.ad v.data.length v.cap, .bool v.dead] w) (u : V) : Cel b t #[.int .i64 u.node, .int .i64 u.num, .slice u.ad u.data.length u.cap, .bool u.dead] ((((w.setCell ⟨b, 0, none⟩ (.int .i64 u.node)).setCell ⟨b, 1, none⟩ (.int .i64 u.num)).setCell ⟨b, 2, none⟩ (.slice u.ad u.data.length u.cap)).setCell ⟨b, 3, none⟩ (.bool u.dead)) := by
 replace h := h.set 0 (.int .i64 u.node)
 simp only [List.setIfInBounds_toArray, List.set_cons_zero] at h
 replace h := h.set 1 (.int .i64 u.num)
 simp only [lsA, lsZ, lsS] at h
 replace h := h.set 2 (.slice u.ad u.data.length u.cap)
 simp only [lsA, lsZ, lsS] at h
 replace h := h.set 3 (.bool u.dead)
 simp only [lsA, lsZ, lsS] at h
 exact h
theorem Off.st4 {D : Nat → Prop} {a w : World} {b : Nat} (h : Off D a w) (hb : D b ∨ a.heap.size ≤ b) (u : V) : Off D a ((((w.setCell ⟨b, 0, none⟩ (.int .i64 u.node)).setCell ⟨b, 1, none⟩ (.int .i64 u.num)).setCell ⟨b, 2, none⟩ (.slice u.ad u.data.length u.cap)).setCell ⟨b, 3, none⟩ (.bool u.dead)) :=
 (((h.setCell hb _).setCell hb _).setCell hb _).setCell hb _
def zeroV : V := ⟨0, 0, none, 0, [], false⟩
def ltL : List Nat → List Nat → Bool
 | [], [] => false
 | [], _ :: _ => true
 | _ :: _, [] => false
 | a :: xs, b :: ys => if a < b then true else if b < a then false else ltL xs ys
theorem u8_lt {a b : Nat} (ha : a < 256) (hb : b < 256) : (((a : Int).toNat.toUInt8 < (b : Int).toNat.toUInt8) ↔ a < b) := by
 rw [UInt8.lt_iff_toNat_lt]
 simp [Nat.toUInt8, UInt8.toNat_ofNat', Nat.mod_eq_of_lt ha, Nat.mod_eq_of_lt hb]
end Go.Proofs.Ytpnnpdfmoldiiaa

namespace Go.Proofs.Ytpnnpdfmoldiiaa
open Go.RowKit
def firstB (d1 d2 : Bool) (b1 b2 : List Nat) : Bool := if d1 = d2 then !ltL b2 b1 else d2
def firstA (x y : A) : A := if firstB x.dead y.dead x.data y.data then x else y
def firstV (x y : V) : V := if firstB x.dead y.dead x.data y.data then x else y
theorem firstV_abs (x y : V) : (firstV x y).abs = firstA x.abs y.abs := by
 unfold firstV firstA
 by_cases h : firstB x.dead y.dead x.data y.data = true
 ·simp [V.abs, h]
 ·simp [V.abs, h]
theorem firstV_ok {w : World} {x y : V} (hx : VOk w x) (hy : VOk w y) : VOk w (firstV x y) := by
 unfold firstV
 split
 ·exact hx
 ·exact hy
end Go.Proofs.Ytpnnpdfmoldiiaa

namespace Go.Proofs.Ytpnnpdfmoldiiaa
open Go.RowKit
def vcs : List V → List Value
 | [] => []
 | v :: l => .int .i64 v.node :: .int .i64 v.num :: .slice v.ad v.data.length v.cap :: .bool v.dead :: vcs l
theorem vcs_append (a b : List V) : vcs (a ++ b) = vcs a ++ vcs b := by
 induction a with
 | nil => rfl
 | cons v l ih => simp [vcs, ih]
theorem vcs_len (l : List V) : (vcs l).length = l.length * 4 := by
 induction l with
 | nil => rfl
 | cons v l ih => simp [vcs, ih]; omega
theorem vcs_get {l : List V} {i : Nat} {v : V} (h : l[i]? = some v) : (vcs l)[i * 4]? = some (.int .i64 v.node) ∧ (vcs l)[i * 4 + 1]? = some (.int .i64 v.num) ∧ (vcs l)[i * 4 + 2]? = some (.slice v.ad v.data.length v.cap) ∧ (vcs l)[i * 4 + 3]? = some (.bool v.dead) := by
 induction l generalizing i with
 | nil => simp at h
 | cons u l ih =>
  cases i with
  | zero => simp at h; subst h; simp [vcs]
  | succ i =>
   have := ih (i := i) (by simpa using h)
   simpa [vcs, Nat.succ_mul, Nat.add_right_comm] using this
structure OwnV (w : World) (a : Option Addr) (cap : Nat) (l : List V) : Prop where
 row : w.ownsRow 0 117 4 (.slice a l.length cap) l.length (vcs l)
theorem OwnV.off {D : Nat → Prop} {w w' : World} {a : Option Addr} {cap : Nat} {l : List V} (h : OwnV w a cap l) (k : Off D w w') (hD : ∀ c, blk a = some c → ¬ D c) : OwnV w' a cap l := by
 refine ⟨h.row.1, ?_⟩
 rcases h.row.2 with h2 | ⟨g, c, cur, hv, hg, hh, r⟩
 ·exact .inl h2
 ·have hlt := lt_of_block hh
  simp only [Value.slice.injEq] at hv
  obtain ⟨rfl, -, rfl⟩ := hv
  exact .inr ⟨g, _, cur, rfl, hg, (k.block g hlt (hD g rfl)).trans hh, r⟩
theorem OwnV.nil (w : World) : OwnV w none 0 [] := ⟨World.ownsRow_nil w 0 _ 4⟩
theorem OwnV.lt {w : World} {a : Option Addr} {cap : Nat} {l : List V} (h : OwnV w a cap l) : ∀ c, blk a = some c → c < w.heap.size := fun c hc =>
 (World.ownsRow.lt h.row c (by rw [blk_own]; exact hc)).2
theorem OwnV.toRow {w : World} {a : Option Addr} {cap : Nat} {l : List V} (h : OwnV w a cap l) (hk : ∀ v ∈ l, VOk w v) : Row w a cap l := by
 rcases h.row.2 with ⟨hv, h0⟩ | ⟨g, c, cur, hv, hb, hh, hc, hm, -⟩
 ·simp only [Value.slice.injEq] at hv
  obtain rfl : l = [] := List.eq_nil_of_length_eq_zero h0
  exact ⟨by simp, by omega, fun i v h => by simp at h⟩
 ·simp only [Value.slice.injEq] at hv
  obtain ⟨rfl, -, rfl⟩ := hv
  refine ⟨hc, by unfold maxLen at hm; omega, fun i v hi => ⟨g, 0, rfl, ?_, hk v (List.mem_of_getElem? hi)⟩⟩
  have hx := World.ownsRow.cells h.row (g := g) rfl
  obtain ⟨g0, g1, g2, g3⟩ := vcs_get hi
  have k0 := hx _ _ g0
  have k1 := hx _ _ g1
  have k2 := hx _ _ g2
  have k3 := hx _ _ g3
  rw [add_lit] at k0 k1 k2 k3
  exact ⟨k0, k1, k2, k3⟩
theorem wp_append_if {P : Program} {o : Oper} {a : Act} {w w' : World} {K : Act → World → Prop} {Q : Exit → Act → World → Prop} {y : Nat → Option Bool} {E : Prop} (hw : Region.wanted o y = true) (s x : Operand) {t u : TypeId}
  (ho : o.op = .call { callee := .builtin .append, args := #[s, x], argTypes := #[t, u] }) {v v' X : Value} (hs : a.eval s = v) (hx : a.eval x = X) (hr : (Builtin.append_ #[t, u] o.type #[v, X]).run P w = .ok v' w')
  (d : Nat) (hd : o.dst = some d) (h : K (a.put (some d) v') w') : if Region.wanted o y = true then Oper.wp P o a w K Q else E := by
 rw [if_pos hw]
 unfold Oper.wp execOp
 simp only [ho, resolve, invoke, builtin, Sem.run_bind, Sem.run_pure, Result.andThen_ok, List.map_toArray, List.map_cons, List.map_nil, hs, hx, hr]
 rw [← hd] at h
 exact h
def keep (b : Bool) (x : A) : List A := if b then [x] else []
theorem cont_append (a b : List V) : cont (a ++ b) = cont a ++ cont b := by simp [cont]
end Go.Proofs.Ytpnnpdfmoldiiaa

namespace Go.Proofs.Ytpnnpdfmoldiiaa
open Go.RowKit
def lessA (x y : A) : Bool := lessB x.node x.num y.node y.num
def nc (f : Nat → Int) (x : A) : Bool := !coversB f x.node x.num
def mergeIn (p q : A → Bool) (x : A) (xs : List A) (rest : List A → List A) : List A → List A
 | [] => (x :: xs).filter p
 | y :: ys => if lessA x y then keep (p x) x ++ rest (y :: ys) else if lessA y x then keep (q y) y ++ mergeIn p q x xs rest ys else firstA x y :: rest ys
def mergeA (p q : A → Bool) : List A → List A → List A
 | [], ys => ys.filter q
 | x :: xs, ys => mergeIn p q x xs (mergeA p q xs) ys
theorem mergeA_ind {motive : List A → List A → Prop} (case1 : ∀ ys, motive [] ys) (case2 : ∀ x xs, motive (x :: xs) []) (case3 : ∀ x xs y ys, lessA x y = true → motive xs (y :: ys) → motive (x :: xs) (y :: ys))
  (case4 : ∀ x xs y ys, ¬ lessA x y = true → lessA y x = true → motive (x :: xs) ys → motive (x :: xs) (y :: ys)) (case5 : ∀ x xs y ys, ¬ lessA x y = true → ¬ lessA y x = true → motive xs ys → motive (x :: xs) (y :: ys)) : ∀ xs ys, motive xs ys
 | [] => case1
 | x :: xs => by
  intro ys
  induction ys with
  | nil => exact case2 x xs
  | cons y ys ih =>
   by_cases h : lessA x y = true
   ·exact case3 x xs y ys h (mergeA_ind case1 case2 case3 case4 case5 xs (y :: ys))
   ·by_cases h2 : lessA y x = true
    ·exact case4 x xs y ys h h2 ih
    ·exact case5 x xs y ys h h2 (mergeA_ind case1 case2 case3 case4 case5 xs ys)
theorem mergeA_nil (p q : A → Bool) (xs ys : List A) (h : xs = [] ∨ ys = []) : mergeA p q xs ys = xs.filter p ++ ys.filter q := by
 rcases h with rfl | rfl
 ·simp [mergeA]
 ·cases xs with
  | nil => simp [mergeA]
  | cons x xs => simp [mergeA, mergeIn]
theorem mergeA_lt (p q : A → Bool) {x y : A} (xs ys : List A) (h : lessA x y = true) : mergeA p q (x :: xs) (y :: ys) = keep (p x) x ++ mergeA p q xs (y :: ys) := by simp [mergeA, mergeIn, h]
theorem mergeA_gt (p q : A → Bool) {x y : A} (xs ys : List A) (h : lessA x y = false) (h2 : lessA y x = true) : mergeA p q (x :: xs) (y :: ys) = keep (q y) y ++ mergeA p q (x :: xs) ys := by simp [mergeA, mergeIn, h, h2]
theorem mergeA_eq (p q : A → Bool) {x y : A} (xs ys : List A) (h : lessA x y = false) (h2 : lessA y x = false) : mergeA p q (x :: xs) (y :: ys) = firstA x y :: mergeA p q xs ys := by simp [mergeA, mergeIn, h, h2]
end Go.Proofs.Ytpnnpdfmoldiiaa

namespace Go.Proofs.Ytpnnpdfmoldiiaa
open Go.RowKit
theorem vec_ext {f g : Nat → Int} (h : ∀ j, j < 8 → f j = g j) (s : Value) : (.agg #[.int .i64 (f 0), .int .i64 (f 1), .int .i64 (f 2), .int .i64 (f 3), .int .i64 (f 4), .int .i64 (f 5), .int .i64 (f 6), .int .i64 (f 7), s] : Value) = .agg #[.int .i64 (g 0), .int .i64 (g 1), .int .i64 (g 2), .int .i64 (g 3), .int .i64 (g 4), .int .i64 (g 5), .int .i64 (g 6), .int .i64 (g 7), s] := by
 rw [h 0 (by decide), h 1 (by decide), h 2 (by decide), h 3 (by decide), h 4 (by decide), h 5 (by decide), h 6 (by decide), h 7 (by decide)]
theorem Cel.st9 {b : Nat} {t : TypeId} {f : Nat → Int} {s : Value} {w : World} (h : Cel b t #[.int .i64 (f 0), .int .i64 (f 1), .int .i64 (f 2), .int .i64 (f 3), .int .i64 (f 4), .int .i64 (f 5), .int .i64 (f 6), .int .i64 (f 7), s] w) (g : Nat → Int) (r : Value) : Cel b t #[.int .i64 (g 0), .int .i64 (g 1), .int .i64 (g 2), .int .i64 (g 3), .int .i64 (g 4), .int .i64 (g 5), .int .i64 (g 6), .int .i64 (g 7), r] (((((((((w.setCell ⟨b, 0, none⟩ (.int .i64 (g 0))).setCell ⟨b, 1, none⟩ (.int .i64 (g 1))).setCell ⟨b, 2, none⟩ (.int .i64 (g 2))).setCell ⟨b, 3, none⟩ (.int .i64 (g 3))).setCell ⟨b, 4, none⟩ (.int .i64 (g 4))).setCell ⟨b, 5, none⟩ (.int .i64 (g 5))).setCell ⟨b, 6, none⟩ (.int .i64 (g 6))).setCell ⟨b, 7, none⟩ (.int .i64 (g 7))).setCell ⟨b, 8, none⟩ r) := by
 replace h := h.set 0 (.int .i64 (g 0))
 simp only [List.setIfInBounds_toArray, List.set_cons_zero] at h
 replace h := h.set 1 (.int .i64 (g 1))
 simp only [lsA, lsZ, lsS] at h
 replace h := h.set 2 (.int .i64 (g 2))
 simp only [lsA, lsZ, lsS] at h
 replace h := h.set 3 (.int .i64 (g 3))
 simp only [lsA, lsZ, lsS] at h
 replace h := h.set 4 (.int .i64 (g 4))
 simp only [lsA, lsZ, lsS] at h
 replace h := h.set 5 (.int .i64 (g 5))
 simp only [lsA, lsZ, lsS] at h
 replace h := h.set 6 (.int .i64 (g 6))
 simp only [lsA, lsZ, lsS] at h
 replace h := h.set 7 (.int .i64 (g 7))
 simp only [lsA, lsZ, lsS] at h
 replace h := h.set 8 r
 simp only [lsA, lsZ, lsS] at h
 exact h
theorem Off.st9 {D : Nat → Prop} {a w : World} {b : Nat} (h : Off D a w) (hb : D b ∨ a.heap.size ≤ b) (g : Nat → Int) (r : Value) : Off D a (((((((((w.setCell ⟨b, 0, none⟩ (.int .i64 (g 0))).setCell ⟨b, 1, none⟩ (.int .i64 (g 1))).setCell ⟨b, 2, none⟩ (.int .i64 (g 2))).setCell ⟨b, 3, none⟩ (.int .i64 (g 3))).setCell ⟨b, 4, none⟩ (.int .i64 (g 4))).setCell ⟨b, 5, none⟩ (.int .i64 (g 5))).setCell ⟨b, 6, none⟩ (.int .i64 (g 6))).setCell ⟨b, 7, none⟩ (.int .i64 (g 7))).setCell ⟨b, 8, none⟩ r) :=
 ((((((((h.setCell hb _).setCell hb _).setCell hb _).setCell hb _).setCell hb _).setCell hb _).setCell hb _).setCell hb _).setCell hb _
theorem Cel.clr9 {b : Nat} {t : TypeId} {f : Nat → Int} {s : Value} {w : World} (h : Cel b t #[.int .i64 (f 0), .int .i64 (f 1), .int .i64 (f 2), .int .i64 (f 3), .int .i64 (f 4), .int .i64 (f 5), .int .i64 (f 6), .int .i64 (f 7), s] w) : Cel b t #[.int .i64 0, .int .i64 0, .int .i64 0, .int .i64 0, .int .i64 0, .int .i64 0, .int .i64 0, .int .i64 0, .slice none 0 0] (((((((((w.setCell ⟨b, 0, none⟩ (.int .i64 0)).setCell ⟨b, 1, none⟩ (.int .i64 0)).setCell ⟨b, 2, none⟩ (.int .i64 0)).setCell ⟨b, 3, none⟩ (.int .i64 0)).setCell ⟨b, 4, none⟩ (.int .i64 0)).setCell ⟨b, 5, none⟩ (.int .i64 0)).setCell ⟨b, 6, none⟩ (.int .i64 0)).setCell ⟨b, 7, none⟩ (.int .i64 0)).setCell ⟨b, 8, none⟩ (.slice none 0 0)) := by
 have := h.st9 zer (.slice none 0 0)
 simp only [zer] at this
 exact this
theorem Off.clr9 {D : Nat → Prop} {a w : World} {b : Nat} (h : Off D a w) (hb : D b ∨ a.heap.size ≤ b) : Off D a (((((((((w.setCell ⟨b, 0, none⟩ (.int .i64 0)).setCell ⟨b, 1, none⟩ (.int .i64 0)).setCell ⟨b, 2, none⟩ (.int .i64 0)).setCell ⟨b, 3, none⟩ (.int .i64 0)).setCell ⟨b, 4, none⟩ (.int .i64 0)).setCell ⟨b, 5, none⟩ (.int .i64 0)).setCell ⟨b, 6, none⟩ (.int .i64 0)).setCell ⟨b, 7, none⟩ (.int .i64 0)).setCell ⟨b, 8, none⟩ (.slice none 0 0)) :=
 ((((((((h.setCell hb _).setCell hb _).setCell hb _).setCell hb _).setCell hb _).setCell hb _).setCell hb _).setCell hb _).setCell hb _
theorem results_none9 {fn : Func} {p : Tmp} (h : fn.results = #[.cell p 38]) {tmps : Array Value} {w : World} {b : Nat} (hp : tmps.getD p undef = .pointer (some ⟨b, 0, none⟩)) (hc : Cel b 38 #[.int .i64 0, .int .i64 0, .int .i64 0, .int .i64 0, .int .i64 0, .int .i64 0, .int .i64 0, .int .i64 0, .slice none 0 0] w) :
  (results fn tmps).run Try.prog w = .ok (.agg #[.int .i64 0, .int .i64 0, .int .i64 0, .int .i64 0, .int .i64 0, .int .i64 0, .int .i64 0, .int .i64 0, .slice none 0 0]) w := by
 obtain ⟨d, hd⟩ : ∃ d, Try.prog.underlying 38 = some (.struct d) := ⟨_, Try.underlying38⟩
 exact results_cell_row h tmps w b 38 _ (0, 0) (.struct d) hp hc.is hd rfl (by kernel_rfl)
theorem results_sibs {fn : Func} {p : Tmp} (h : fn.results = #[.cell p 38]) {tmps : Array Value} {w : World} {b : Nat} {f : Nat → Int} {s : Value} (hp : tmps.getD p undef = .pointer (some ⟨b, 0, none⟩)) (hc : Cel b 38 #[.int .i64 (f 0), .int .i64 (f 1), .int .i64 (f 2), .int .i64 (f 3), .int .i64 (f 4), .int .i64 (f 5), .int .i64 (f 6), .int .i64 (f 7), s] w) :
  (results fn tmps).run Try.prog w = .ok (.agg #[.int .i64 (f 0), .int .i64 (f 1), .int .i64 (f 2), .int .i64 (f 3), .int .i64 (f 4), .int .i64 (f 5), .int .i64 (f 6), .int .i64 (f 7), s]) w := by
 obtain ⟨d, hd⟩ : ∃ d, Try.prog.underlying 38 = some (.struct d) := ⟨_, Try.underlying38⟩
 exact results_cell_row h tmps w b 38 _ (0, 0) (.struct d) hp hc.is hd rfl (by kernel_rfl)
def maxV (f g : Nat → Int) : Nat → Int := fun j => max (f j) (g j)
def joinV (f g : Nat → Int) (l1 l2 : List A) : Nat → Int := if mayS f l1 = true ∧ mayS g l2 = true then maxV f g else zer
def joinL (f g : Nat → Int) (l1 l2 : List A) : List A := if mayS f l1 = true ∧ mayS g l2 = true then (mergeA (nc g) (nc f) l1 l2).take 16 else []
end Go.Proofs.Ytpnnpdfmoldiiaa

namespace Go.Proofs.Ytpnnpdfmoldiiaa
open Go.RowKit
theorem results_sibs2 {fn : Func} {p u : Tmp} (h : fn.results = #[.cell p 38, .tmp u]) {tmps : Array Value} {w : World} {b : Nat} {f : Nat → Int} {s : Value} (hp : tmps.getD p undef = .pointer (some ⟨b, 0, none⟩)) {v : Value} (hu : tmps.getD u undef = v) (hc : Cel b 38 #[.int .i64 (f 0), .int .i64 (f 1), .int .i64 (f 2), .int .i64 (f 3), .int .i64 (f 4), .int .i64 (f 5), .int .i64 (f 6), .int .i64 (f 7), s] w) :
  (results fn tmps).run Try.prog w = .ok (.tuple #[.agg #[.int .i64 (f 0), .int .i64 (f 1), .int .i64 (f 2), .int .i64 (f 3), .int .i64 (f 4), .int .i64 (f 5), .int .i64 (f 6), .int .i64 (f 7), s], v]) w := by
 rw [results_cell_tmp h]
 have ha : (asAddr (.pointer (some ⟨b, 0, none⟩))).run Try.prog w = .ok ⟨b, 0, none⟩ w := rfl
 rw [hp, hu, ha]
 obtain ⟨d, hd⟩ : ∃ d, Try.prog.underlying 38 = some (.struct d) := ⟨_, Try.underlying38⟩
 have hv := run_loadVar_row (P := Try.prog) w b 38 38 _ (0, 0) (.struct d) hc.is hd rfl (by kernel_rfl)
 simp only [Result.andThen, hv]
theorem row_one {b : Nat} {v : V} {w : World} (h : Cel b 117 #[.int .i64 v.node, .int .i64 v.num, .slice v.ad v.data.length v.cap, .bool v.dead] w) (hv : VOk w v) : Row w (some ⟨b, 0, none⟩) 1 [v] := by
 refine ⟨by simp, by omega, fun i u hi => ?_⟩
 match i, hi with
 | 0, hi =>
  simp at hi
  subst hi
  obtain ⟨x0, x1, x2, x3⟩ := cel4 h
  exact ⟨b, 0, rfl, ⟨x0, x1, x2, x3⟩, hv⟩
end Go.Proofs.Ytpnnpdfmoldiiaa
