/- Items of several texts. -/
import Derived.Test.YtmjmgdbhmbjmaaaEVal
namespace Go.Proofs.Ytmjmgdbhmbjmaaa
open Go.RowKit
structure MayP (f : Nat → Int) (l : List A) : Prop where
 seen : ∀ j, j < 8 → 0 ≤ f j ∧ f j ≤ 1099511627776
 few : l.length ≤ 16
 less : ∀ i x y, l[i]? = some x → l[i + 1]? = some y → lessB x.node x.num y.node y.num = true
 cov : ∀ x, x ∈ l → coversB f x.node x.num = true ∧ okData x.data.length x.dead = true
def lessAll : List A → Bool
 | [] => true
 | [_] => true
 | x :: y :: l => lessB x.node x.num y.node y.num && lessAll (y :: l)
theorem lessAll_iff : ∀ l : List A, lessAll l = true ↔ ∀ i x y, l[i]? = some x → l[i + 1]? = some y → lessB x.node x.num y.node y.num = true
 | [] => by simp [lessAll]
 | [_] => by simp [lessAll]
 | x :: y :: l => by
  rw [lessAll, Bool.and_eq_true, lessAll_iff (y :: l)]
  constructor
  ·rintro ⟨h1, h2⟩ i a b ha hb
   cases i with
   | zero =>
    simp at ha hb
    subst ha hb
    exact h1
   | succ i => exact h2 i a b (by simpa using ha) (by simpa using hb)
  ·intro h
   exact ⟨h 0 x y rfl rfl, fun i a b ha hb => h (i + 1) a b (by simpa using ha) (by simpa using hb)⟩
def mayS (f : Nat → Int) (l : List A) : Bool := mayB f && (decide (l.length ≤ 16) && (lessAll l && l.all fun x => coversB f x.node x.num && okData x.data.length x.dead))
theorem may_iff {f : Nat → Int} {l : List A} : mayS f l = true ↔ MayP f l := by
 simp only [mayS, mayB, Bool.and_eq_true, decide_eq_true_eq, lessAll_iff, List.all_eq_true]
 exact ⟨fun ⟨a, b, c, d⟩ => ⟨a, b, c, d⟩, fun h => ⟨h.seen, h.few, h.less, h.cov⟩⟩
theorem may_yes {f : Nat → Int} {l : List A} (h : MayP f l) : mayS f l = true := may_iff.2 h
theorem may_no {f : Nat → Int} {l : List A} (h : ¬ MayP f l) : mayS f l = false := by
 cases e : mayS f l
 ·rfl
 ·exact absurd (may_iff.1 e) h
theorem mem_cont {l : List V} {i : Nat} {v : V} (h : l[i]? = some v) : v.abs ∈ cont l := List.mem_map.2 ⟨v, List.mem_of_getElem? h, rfl⟩
theorem get_cont {l : List V} {i : Nat} {v : V} (h : l[i]? = some v) : (cont l)[i]? = some v.abs := by simp [cont, h]
theorem get_cont' {l : List V} {i : Nat} {x : A} (h : (cont l)[i]? = some x) : ∃ v, l[i]? = some v ∧ x = v.abs := by
 simp only [cont, List.getElem?_map, Option.map_eq_some_iff] at h
 obtain ⟨v, h1, h2⟩ := h
 exact ⟨v, h1, h2.symm⟩
structure Upto (f : Nat → Int) (l : List V) (n : Nat) : Prop where
 less : ∀ i x y, i + 1 < n → l[i]? = some x → l[i + 1]? = some y → lessB x.node x.num y.node y.num = true
 cov : ∀ i x, i < n → l[i]? = some x → coversB f x.node x.num = true ∧ okData x.data.length x.dead = true
theorem Upto.zero (f : Nat → Int) (l : List V) : Upto f l 0 := ⟨fun _ _ _ h => by omega, fun _ _ h => by omega⟩
theorem Upto.step {f : Nat → Int} {l : List V} {n : Nat} (h : Upto f l n) {v : V} (hv : l[n]? = some v) (hc : coversB f v.abs.node v.abs.num = true ∧ okData v.abs.data.length v.abs.dead = true) (hl : ∀ i u, i + 1 = n → l[i]? = some u → lessB u.node u.num v.node v.num = true) : Upto f l (n + 1) := by
 refine ⟨fun i x y hi hx hy => ?_, fun i x hi hx => ?_⟩
 ·rcases Nat.lt_or_ge (i + 1) n with h1 | h1
  ·exact h.less i x y h1 hx hy
  ·obtain rfl : n = i + 1 := by omega
   rw [hv] at hy
   cases hy
   exact hl i x rfl hx
 ·rcases Nat.lt_or_ge i n with h1 | h1
  ·exact h.cov i x h1 hx
  ·obtain rfl : n = i := by omega
   rw [hv] at hx
   cases hx
   exact hc
theorem Upto.may {f : Nat → Int} {l : List V} (h : Upto f l l.length) (hs : ∀ j, j < 8 → 0 ≤ f j ∧ f j ≤ 1099511627776) (hl : l.length ≤ 16) : MayP f (cont l) := by
 refine ⟨hs, by rw [cont_len]; exact hl, fun i x y hx hy => ?_, fun x hx => ?_⟩
 ·obtain ⟨u, hu, rfl⟩ := get_cont' hx
  obtain ⟨v, hv, rfl⟩ := get_cont' hy
  have : i + 1 < l.length := by
   obtain ⟨h, -⟩ := List.getElem?_eq_some_iff.1 hv
   exact h
  exact h.less i u v this hu hv
 ·simp only [cont, List.mem_map] at hx
  obtain ⟨v, hv, rfl⟩ := hx
  obtain ⟨i, hi⟩ := List.getElem?_of_mem hv
  have : i < l.length := by
   obtain ⟨h, -⟩ := List.getElem?_eq_some_iff.1 hi
   exact h
  exact h.cov i v this hi
theorem less_at {l : List V} {n m : Nat} {u v : V} (hm : n = m + 1) (hu : l[m]? = some u) (h : lessB u.node u.num v.node v.num = true) : ∀ i x, i + 1 = n → l[i]? = some x → lessB x.node x.num v.node v.num = true := by
 intro i x hi hx
 obtain rfl : i = m := by omega
 rw [hu] at hx
 cases hx
 exact h
set_option maxRecDepth 100000 in
set_option maxHeartbeats 2000000 in
theorem smay_any (f : Nat → Int) (a : Option Addr) (cap : Nat) (l : List V) (w : World) (hr : Row w a cap l) :
  Calls Try.prog 62 #[.agg #[.int .i64 (f 0), .int .i64 (f 1), .int .i64 (f 2), .int .i64 (f 3), .int .i64 (f 4), .int .i64 (f 5), .int .i64 (f 6), .int .i64 (f 7), .slice a l.length cap]] w fun e w' => e = .returned (.bool (mayS f (cont l))) ∧ Off (fun _ => False) w w' := by
 have hnot := not_any
 have B0 := Cel.new w 33 #[.int .i64 (f 0), .int .i64 (f 1), .int .i64 (f 2), .int .i64 (f 3), .int .i64 (f 4), .int .i64 (f 5), .int .i64 (f 6), .int .i64 (f 7), .slice a l.length cap]
 have O0 : Off (fun _ => False) w (w.alloc (.cells #[.int .i64 (f 0), .int .i64 (f 1), .int .i64 (f 2), .int .i64 (f 3), .int .i64 (f 4), .int .i64 (f 5), .int .i64 (f 6), .int .i64 (f 7), .slice a l.length cap] 33)) := (Off.refl _ w).alloc _
 cases hm : mayB f
 ·go_enter Try.func62, Try.ntmps62
  go_wp2_with fail
  refine (may_any f _).mono ?_
  rw [hm]
  rintro e w1 ⟨rfl, o1⟩
  go_wp2_with fail
  go_ret
  refine ⟨?_, O0.trans o1 (fun _ _ h => h)⟩
  rw [may_no (fun hM => by simp [mayB] at hm; obtain ⟨j, hj, h⟩ := hm; have := hM.seen j hj; have := h this.1; omega)]
  rfl
 have hseen : ∀ j, j < 8 → 0 ≤ f j ∧ f j ≤ 1099511627776 := by simpa [mayB] using hm
 have HSN : Hid _ := hseen
 clear hseen
 by_cases hl : l.length ≤ 16
 ·have d1 : decide ((16 : Int) < (l.length : Int)) = false := decide_eq_false (by omega)
  have d2 : decide (16 < l.length) = false := decide_eq_false (by omega)
  have R0 := hr.off O0
  have HB0 : Hid _ := B0
  have HO0 : Hid _ := O0
  have HR0 : Hid _ := R0
  have HHL : Hid _ := hl
  clear B0 O0 R0 hr
  go_enter Try.func62, Try.ntmps62
  go_wp2_with fail
  refine (may_any f _).mono ?_
  rw [hm]
  rintro e w1 ⟨rfl, o1⟩
  have B1 := HB0.out.off o1 (fun h => h)
  have O1 := HO0.out.trans o1 (fun _ _ h => h)
  have R1 := HR0.out.off o1
  have c8 : w1.cell? ⟨w.heap.size, 8, none⟩ = some (.slice a l.length cap) := B1.cell 8
  have HB1 : Hid _ := B1
  have HO1 : Hid _ := O1
  have HR1 : Hid _ := R1
  clear B1 O1 R1 o1
  go_wp2_with fail
  go_loopw [18] (fun y wr => ∃ n : Nat, y = .int .i64 (n : Int) ∧ n ≤ l.length ∧ Upto f l n ∧ Off (fun _ => False) w wr ∧ Cel w.heap.size 33 #[.int .i64 (f 0), .int .i64 (f 1), .int .i64 (f 2), .int .i64 (f 3), .int .i64 (f 4), .int .i64 (f 5), .int .i64 (f 6), .int .i64 (f 7), .slice a l.length cap] wr ∧ Row wr a cap l) (fun y _ => (l.length - intOf y).toNat)
  case atStart => exact ⟨0, rfl, by omega, Upto.zero f l, HO1.out, HB1.out, HR1.out⟩
  case round =>
   clear HB1 HO1 HR1 HB0 HO0 HR0 c8
   obtain ⟨n, rfl, hn, hg, O, cb, hr1⟩ := hrel
   have HG : Hid _ := hg
   clear hg
   by_cases hlt : n < l.length
   ·have e1 : decide ((n : Int) < (l.length : Int)) = true := decide_eq_true (by omega)
    have e2 : decide (n < l.length) = true := decide_eq_true hlt
    obtain ⟨v, hv⟩ : ∃ v, l[n]? = some v := ⟨_, List.getElem?_eq_getElem hlt⟩
    obtain ⟨b, off, rfl, k, -⟩ := hr1.at_ n v hv
    obtain ⟨k0, k1, k2, k3⟩ := k
    have k : At4 wr b (off + n * 4) v := ⟨k0, k1, k2, k3⟩
    rcases Nat.eq_zero_or_pos n with hn0 | hn0
    ·have e5 : decide ((0 : Int) < (n : Int)) = false := decide_eq_false (by omega)
     have e6 : decide (0 < n) = false := decide_eq_false (by omega)
     have HN0 : Hid _ := hn0
     clear hn0
     go_wp2_with fail
     have C1 := Cel.new wr 92 #[.int .i64 v.node, .int .i64 v.num, .slice v.ad v.data.length v.cap, .bool v.dead]
     have CB1 := cb.alloc (.cells #[.int .i64 v.node, .int .i64 v.num, .slice v.ad v.data.length v.cap, .bool v.dead] 92)
     have R1 := hr1.off ((Off.refl _ wr).alloc (.cells #[.int .i64 v.node, .int .i64 v.num, .slice v.ad v.data.length v.cap, .bool v.dead] 92))
     have O1 := O.alloc (.cells #[.int .i64 v.node, .int .i64 v.num, .slice v.ad v.data.length v.cap, .bool v.dead] 92)
     have := k.off ((Off.refl (fun _ => False) wr).alloc (.cells #[.int .i64 v.node, .int .i64 v.num, .slice v.ad v.data.length v.cap, .bool v.dead] 92)) (fun _ h => h)
     generalize hZ : wr.heap.size = Z at C1 ⊢
     generalize hW : wr.alloc (.cells #[.int .i64 v.node, .int .i64 v.num, .slice v.ad v.data.length v.cap, .bool v.dead] 92) = W at C1 CB1 R1 O1 ⊢
     have CV : Hid _ := C1
     have CB : Hid _ := CB1
     have HR : Hid _ := R1
     have HO : Hid _ := O1
     clear C1 CB1 R1 O1 cb hr1 O hZ hW k0 k1 k2 k3 k
     refine wp_region_held_drew (S := fun w' => Off (fun _ => False) W w') (by kernel_rfl) ((Off.refl _ W).drew) (fun hS => ?_)
     refine take_at (i := 0) 23 (v := .int .i64 (n : Int)) rfl rfl (by kernel_rfl) (by kernel_rfl) (by kernel_rfl) (fun _ _ _ h => h) (Or.inl ⟨by rfl, fun w' hw' => by go_simp⟩) hS ?_
     simp only [Act.put, lsA, lsZ, lsS]
     refine take_at (i := 1) 24 (v := .bool false) rfl rfl (by kernel_rfl) (by kernel_rfl) (by kernel_rfl) (fun _ _ _ h => h) (Or.inl ⟨by rfl, fun w' hw' => by go_simp⟩) hS ?_
     simp only [Act.put, lsA, lsZ, lsS]
     refine take_at (i := 2) 25 (v := .bool false) rfl rfl (by kernel_rfl) (by kernel_rfl) (by kernel_rfl) (fun _ _ _ h => h) (Or.inl ⟨by rfl, fun w' hw' => by go_simp⟩) hS ?_
     simp only [Act.put, lsA, lsZ, lsS]
     refine take_at (i := 3) 26 (v := undef) rfl rfl (by kernel_rfl) (by kernel_rfl) (by kernel_rfl) (fun _ _ _ h => h) (Or.inr ⟨by rfl, rfl⟩) hS ?_
     simp only [Act.put, lsA, lsZ, lsS]
     refine take_at (i := 4) 27 (v := undef) rfl rfl (by kernel_rfl) (by kernel_rfl) (by kernel_rfl) (fun _ _ _ h => h) (Or.inr ⟨by rfl, rfl⟩) hS ?_
     simp only [Act.put, lsA, lsZ, lsS]
     refine take_at (i := 5) 28 (v := undef) rfl rfl (by kernel_rfl) (by kernel_rfl) (by kernel_rfl) (fun _ _ _ h => h) (Or.inr ⟨by rfl, rfl⟩) hS ?_
     simp only [Act.put, lsA, lsZ, lsS]
     refine take_at (i := 6) 29 (v := undef) rfl rfl (by kernel_rfl) (by kernel_rfl) (by kernel_rfl) (fun _ _ _ h => h) (Or.inr ⟨by rfl, rfl⟩) hS ?_
     simp only [Act.put, lsA, lsZ, lsS]
     refine take_at (i := 7) 30 (v := undef) rfl rfl (by kernel_rfl) (by kernel_rfl) (by kernel_rfl) (fun _ _ _ h => h) (Or.inr ⟨by rfl, rfl⟩) hS ?_
     simp only [Act.put, lsA, lsZ, lsS]
     refine take_at (i := 8) 31 (v := undef) rfl rfl (by kernel_rfl) (by kernel_rfl) (by kernel_rfl) (fun _ _ _ h => h) (Or.inr ⟨by rfl, rfl⟩) hS ?_
     simp only [Act.put, lsA, lsZ, lsS]
     refine take_at (i := 9) 32 (v := undef) rfl rfl (by kernel_rfl) (by kernel_rfl) (by kernel_rfl) (fun _ _ _ h => h) (Or.inr ⟨by rfl, rfl⟩) hS ?_
     simp only [Act.put, lsA, lsZ, lsS]
     refine take_at (i := 10) 33 (v := undef) rfl rfl (by kernel_rfl) (by kernel_rfl) (by kernel_rfl) (fun _ _ _ h => h) (Or.inr ⟨by rfl, rfl⟩) hS ?_
     simp only [Act.put, lsA, lsZ, lsS]
     refine take_at (i := 11) 34 (v := undef) rfl rfl (by kernel_rfl) (by kernel_rfl) (by kernel_rfl) (fun _ _ _ h => h) (Or.inr ⟨by rfl, rfl⟩) hS ?_
     simp only [Act.put, lsA, lsZ, lsS]
     refine take_at (i := 12) 35 (v := undef) rfl rfl (by kernel_rfl) (by kernel_rfl) (by kernel_rfl) (fun _ _ _ h => h) (Or.inr ⟨by rfl, rfl⟩) hS ?_
     simp only [Act.put, lsA, lsZ, lsS]
     refine take_at (i := 13) 36 (v := undef) rfl rfl (by kernel_rfl) (by kernel_rfl) (by kernel_rfl) (fun _ _ _ h => h) (Or.inr ⟨by rfl, rfl⟩) hS ?_
     simp only [Act.put, lsA, lsZ, lsS]
     refine take_at (i := 14) 37 (v := .bool false) rfl rfl (by kernel_rfl) (by kernel_rfl) (by kernel_rfl) (fun _ _ _ h => h) (Or.inl ⟨by rfl, fun w' hw' => by go_simp⟩) hS ?_
     simp only [Act.put, lsA, lsZ, lsS]
     refine wpAnyH_done (by kernel_rfl) ?_ _
     obtain ⟨y0, y1, y2, y3, y4, y5, y6, y7, y8⟩ := cel9 (CB.out.off hS (fun h => h))
     obtain ⟨z0, z1, z2, z3⟩ := cel4 (CV.out.off hS (fun h => h))
     cases hcov : coversB f v.node v.num
     ·go_wp2_with fail
      refine (covers_any f _ _ _).mono ?_
      rw [hcov]
      rintro e w3 ⟨rfl, o3⟩
      go_wp2_with fail
      go_ret
      refine ⟨?_, HO.out.trans (hS.trans o3 (fun _ _ h => h)) (fun _ _ h => h)⟩
      rw [may_no (fun hM => by have := (hM.cov v.abs (mem_cont hv)).1; simp [V.abs, hcov] at this)]
      rfl
     ·go_wp2_with fail
      refine (covers_any f _ _ _).mono ?_
      rw [hcov]
      rintro e w3 ⟨rfl, o3⟩
      have O3 := hS.trans o3 (fun _ _ h => h)
      obtain ⟨x0, x1, x2, x3⟩ := cel4 (CV.out.off O3 (fun h => h))
      have HO3 : Hid _ := O3
      clear O3 o3 hS y0 y1 y2 y3 y4 y5 y6 y7 y8 z0 z1 z2 z3
      cases hdat : okData v.data.length v.dead
      ·go_wp2_with fail
       refine (mayData_any _ _ _ _ _).mono ?_
       rw [hdat]
       rintro e w4 ⟨rfl, hw⟩
       rw [hw]
       clear hw w4
       go_wp2_with fail
       go_ret
       refine ⟨?_, HO.out.trans HO3.out (fun _ _ h => h)⟩
       rw [may_no (fun hM => by have := (hM.cov v.abs (mem_cont hv)).2; simp [V.abs, hdat] at this)]
       rfl
      ·go_wp2_with fail
       refine (mayData_any _ _ _ _ _).mono ?_
       rw [hdat]
       rintro e w4 ⟨rfl, hw⟩
       rw [hw]
       clear hw w4
       go_wp2_with fail
       go_roundw
       case rel =>
        refine ⟨n + 1, by go_num, by omega, ?_, HO.out.trans HO3.out (fun _ _ h => h), CB.out.off HO3.out (fun h => h), HR.out.off HO3.out⟩
        exact HG.out.step hv (by simp [V.abs, hcov, hdat]) (fun i u h => by have := HN0.out; omega)
       case measure => simp [intOf]; omega
    ·obtain ⟨m, hm1⟩ : ∃ m, n = m + 1 := ⟨n - 1, by omega⟩
     have e5 : decide ((0 : Int) < (n : Int)) = true := decide_eq_true (by omega)
     have e6 : decide (0 < n) = true := decide_eq_true (by omega)
     obtain ⟨u, hu⟩ : ∃ u, l[m]? = some u := ⟨_, List.getElem?_eq_getElem (by omega)⟩
     obtain ⟨b', off', eb, p, -⟩ := hr1.at_ m u hu
     simp only [Option.some.injEq, Addr.mk.injEq, and_true] at eb
     obtain ⟨rfl, rfl⟩ := eb
     have hw2 : IntKind.i64.wrap ((n : Int) - 1) = (m : Int) := by
      rw [show (n : Int) - 1 = (m : Int) by omega]
      have := hr1.bound
      have := hr1.len
      exact wrap64 (by omega) (by omega)
     have hpp := p.off ((Off.refl (fun _ => False) wr).alloc (.cells #[.int .i64 v.node, .int .i64 v.num, .slice v.ad v.data.length v.cap, .bool v.dead] 92)) (fun _ h => h)
     have e3 : decide ((m : Int) < (l.length : Int)) = true := decide_eq_true (by omega)
     have e4 : decide (m < l.length) = true := decide_eq_true (by omega)
     have HM1 : Hid _ := hm1
     have hml : m < l.length := by omega
     clear p hm1 hn0
     go_wp2_with fail
     have C1 := Cel.new wr 92 #[.int .i64 v.node, .int .i64 v.num, .slice v.ad v.data.length v.cap, .bool v.dead]
     have CB1 := cb.alloc (.cells #[.int .i64 v.node, .int .i64 v.num, .slice v.ad v.data.length v.cap, .bool v.dead] 92)
     have R1 := hr1.off ((Off.refl _ wr).alloc (.cells #[.int .i64 v.node, .int .i64 v.num, .slice v.ad v.data.length v.cap, .bool v.dead] 92))
     have O1 := O.alloc (.cells #[.int .i64 v.node, .int .i64 v.num, .slice v.ad v.data.length v.cap, .bool v.dead] 92)
     have := k.off ((Off.refl (fun _ => False) wr).alloc (.cells #[.int .i64 v.node, .int .i64 v.num, .slice v.ad v.data.length v.cap, .bool v.dead] 92)) (fun _ h => h)
     generalize hZ : wr.heap.size = Z at C1 ⊢
     generalize hW : wr.alloc (.cells #[.int .i64 v.node, .int .i64 v.num, .slice v.ad v.data.length v.cap, .bool v.dead] 92) = W at C1 CB1 R1 O1 hpp ⊢
     have CV : Hid _ := C1
     have CB : Hid _ := CB1
     have HR : Hid _ := R1
     have HO : Hid _ := O1
     clear C1 CB1 R1 O1 cb hr1 O hZ hW k0 k1 k2 k3 k
     have HP : Hid (At4 W b (off + m * 4) u) := hpp
     clear hpp
     refine wp_region_held_drew (S := fun w' => Off (fun _ => False) W w') (by kernel_rfl) ((Off.refl _ W).drew) (fun hS => ?_)
     cases hls : lessB u.node u.num v.node v.num
     ·refine take_at (i := 0) 23 (v := .int .i64 (n : Int)) rfl rfl (by kernel_rfl) (by kernel_rfl) (by kernel_rfl) (fun _ _ _ h => h) (Or.inl ⟨by rfl, fun w' hw' => by go_simp⟩) hS ?_
      simp only [Act.put, lsA, lsZ, lsS]
      refine take_at (i := 1) 24 (v := .bool true) rfl rfl (by kernel_rfl) (by kernel_rfl) (by kernel_rfl) (fun _ _ _ h => h) (Or.inl ⟨by rfl, fun w' hw' => by go_simp⟩) hS ?_
      simp only [Act.put, lsA, lsZ, lsS]
      refine take_at (i := 2) 25 (v := .bool true) rfl rfl (by kernel_rfl) (by kernel_rfl) (by kernel_rfl) (fun _ _ _ h => h) (Or.inl ⟨by rfl, fun w' hw' => by go_simp⟩) hS ?_
      simp only [Act.put, lsA, lsZ, lsS]
      refine take_at (i := 3) 26 (v := .pointer (some ⟨w.heap.size, 8, none⟩)) rfl rfl (by kernel_rfl) (by kernel_rfl) (by kernel_rfl) (fun _ _ _ h => h) (Or.inl ⟨by rfl, fun w' hw' => by go_simp⟩) hS ?_
      simp only [Act.put, lsA, lsZ, lsS]
      refine take_at (i := 4) 27 (v := .slice (some ⟨b, off, none⟩) l.length cap) rfl rfl (by kernel_rfl) (by kernel_rfl) (by kernel_rfl) (fun _ _ _ h => h) (Or.inl ⟨by rfl, fun w' hw' => by have x8 := (CB.out.off hw' (fun h => h)).cell 8; simp at x8; go_simp⟩) hS ?_
      simp only [Act.put, lsA, lsZ, lsS]
      refine take_at (i := 5) 28 (v := .int .i64 (n : Int)) rfl rfl (by kernel_rfl) (by kernel_rfl) (by kernel_rfl) (fun _ _ _ h => h) (Or.inl ⟨by rfl, fun w' hw' => by go_simp⟩) hS ?_
      simp only [Act.put, lsA, lsZ, lsS]
      refine take_at (i := 6) 29 (v := .int .i64 (m : Int)) rfl rfl (by kernel_rfl) (by kernel_rfl) (by kernel_rfl) (fun _ _ _ h => h) (Or.inl ⟨by rfl, fun w' hw' => by go_simp⟩) hS ?_
      simp only [Act.put, lsA, lsZ, lsS]
      refine take_at (i := 7) 30 (v := .pointer (some ⟨b, off + m * 4, none⟩)) rfl rfl (by kernel_rfl) (by kernel_rfl) (by kernel_rfl) (fun _ _ _ h => h) (Or.inl ⟨by rfl, fun w' hw' => by go_simp⟩) hS ?_
      simp only [Act.put, lsA, lsZ, lsS]
      refine take_at (i := 8) 31 (v := .pointer (some ⟨b, off + m * 4, none⟩)) rfl rfl (by kernel_rfl) (by kernel_rfl) (by kernel_rfl) (fun _ _ _ h => h) (Or.inl ⟨by rfl, fun w' hw' => by go_simp⟩) hS ?_
      simp only [Act.put, lsA, lsZ, lsS]
      refine take_at (i := 9) 32 (v := .agg #[.int .i64 u.node, .int .i64 u.num]) rfl rfl (by kernel_rfl) (by kernel_rfl) (by kernel_rfl) (fun _ _ _ h => h) (Or.inl ⟨by rfl, fun w' hw' => by obtain ⟨x0, x1, x2, x3⟩ := HP.out.off hw' (fun _ h => h); go_simp⟩) hS ?_
      simp only [Act.put, lsA, lsZ, lsS]
      refine take_at (i := 10) 33 (v := .pointer (some ⟨Z, 0, none⟩)) rfl rfl (by kernel_rfl) (by kernel_rfl) (by kernel_rfl) (fun _ _ _ h => h) (Or.inl ⟨by rfl, fun w' hw' => by go_simp⟩) hS ?_
      simp only [Act.put, lsA, lsZ, lsS]
      refine take_at (i := 11) 34 (v := .agg #[.int .i64 v.node, .int .i64 v.num]) rfl rfl (by kernel_rfl) (by kernel_rfl) (by kernel_rfl) (fun _ _ _ h => h) (Or.inl ⟨by rfl, fun w' hw' => by obtain ⟨x0, x1, x2, x3⟩ := cel4 (CV.out.off hw' (fun h => h)); go_simp⟩) hS ?_
      simp only [Act.put, lsA, lsZ, lsS]
      refine wpAnyH_ready (rs := [12]) (by kernel_rfl) (by simp) ?_
      refine AllReadyH.cons rfl (fun K' hK' => ?_) AllReadyH.nil
      go_simp
      refine (less_any _ _ _ _ _).mono ?_
      rw [hls]
      rintro e v1 ⟨rfl, o1⟩
      refine hK'.out _ _ (hS.trans o1 (fun _ _ h => h)) (fun hS => ?_)
      clear hK' K' o1
      refine take_at (i := 13) 36 (v := .bool true) rfl rfl (by kernel_rfl) (by kernel_rfl) (by kernel_rfl) (fun _ _ _ h => h) (Or.inl ⟨by rfl, fun w' hw' => by go_simp⟩) hS ?_
      simp only [Act.put, lsA, lsZ, lsS]
      refine take_at (i := 14) 37 (v := .bool true) rfl rfl (by kernel_rfl) (by kernel_rfl) (by kernel_rfl) (fun _ _ _ h => h) (Or.inl ⟨by rfl, fun w' hw' => by go_simp⟩) hS ?_
      simp only [Act.put, lsA, lsZ, lsS]
      refine wpAnyH_done (by kernel_rfl) ?_ _
      go_wp2_with fail
      go_ret
      refine ⟨?_, HO.out.trans hS (fun _ _ h => h)⟩
      rw [may_no (fun hM => by have := hM.less m u.abs v.abs (get_cont hu) (get_cont (HM1.out ▸ hv)); simp [V.abs, hls] at this)]
      rfl
     ·refine take_at (i := 0) 23 (v := .int .i64 (n : Int)) rfl rfl (by kernel_rfl) (by kernel_rfl) (by kernel_rfl) (fun _ _ _ h => h) (Or.inl ⟨by rfl, fun w' hw' => by go_simp⟩) hS ?_
      simp only [Act.put, lsA, lsZ, lsS]
      refine take_at (i := 1) 24 (v := .bool true) rfl rfl (by kernel_rfl) (by kernel_rfl) (by kernel_rfl) (fun _ _ _ h => h) (Or.inl ⟨by rfl, fun w' hw' => by go_simp⟩) hS ?_
      simp only [Act.put, lsA, lsZ, lsS]
      refine take_at (i := 2) 25 (v := .bool true) rfl rfl (by kernel_rfl) (by kernel_rfl) (by kernel_rfl) (fun _ _ _ h => h) (Or.inl ⟨by rfl, fun w' hw' => by go_simp⟩) hS ?_
      simp only [Act.put, lsA, lsZ, lsS]
      refine take_at (i := 3) 26 (v := .pointer (some ⟨w.heap.size, 8, none⟩)) rfl rfl (by kernel_rfl) (by kernel_rfl) (by kernel_rfl) (fun _ _ _ h => h) (Or.inl ⟨by rfl, fun w' hw' => by go_simp⟩) hS ?_
      simp only [Act.put, lsA, lsZ, lsS]
      refine take_at (i := 4) 27 (v := .slice (some ⟨b, off, none⟩) l.length cap) rfl rfl (by kernel_rfl) (by kernel_rfl) (by kernel_rfl) (fun _ _ _ h => h) (Or.inl ⟨by rfl, fun w' hw' => by have x8 := (CB.out.off hw' (fun h => h)).cell 8; simp at x8; go_simp⟩) hS ?_
      simp only [Act.put, lsA, lsZ, lsS]
      refine take_at (i := 5) 28 (v := .int .i64 (n : Int)) rfl rfl (by kernel_rfl) (by kernel_rfl) (by kernel_rfl) (fun _ _ _ h => h) (Or.inl ⟨by rfl, fun w' hw' => by go_simp⟩) hS ?_
      simp only [Act.put, lsA, lsZ, lsS]
      refine take_at (i := 6) 29 (v := .int .i64 (m : Int)) rfl rfl (by kernel_rfl) (by kernel_rfl) (by kernel_rfl) (fun _ _ _ h => h) (Or.inl ⟨by rfl, fun w' hw' => by go_simp⟩) hS ?_
      simp only [Act.put, lsA, lsZ, lsS]
      refine take_at (i := 7) 30 (v := .pointer (some ⟨b, off + m * 4, none⟩)) rfl rfl (by kernel_rfl) (by kernel_rfl) (by kernel_rfl) (fun _ _ _ h => h) (Or.inl ⟨by rfl, fun w' hw' => by go_simp⟩) hS ?_
      simp only [Act.put, lsA, lsZ, lsS]
      refine take_at (i := 8) 31 (v := .pointer (some ⟨b, off + m * 4, none⟩)) rfl rfl (by kernel_rfl) (by kernel_rfl) (by kernel_rfl) (fun _ _ _ h => h) (Or.inl ⟨by rfl, fun w' hw' => by go_simp⟩) hS ?_
      simp only [Act.put, lsA, lsZ, lsS]
      refine take_at (i := 9) 32 (v := .agg #[.int .i64 u.node, .int .i64 u.num]) rfl rfl (by kernel_rfl) (by kernel_rfl) (by kernel_rfl) (fun _ _ _ h => h) (Or.inl ⟨by rfl, fun w' hw' => by obtain ⟨x0, x1, x2, x3⟩ := HP.out.off hw' (fun _ h => h); go_simp⟩) hS ?_
      simp only [Act.put, lsA, lsZ, lsS]
      refine take_at (i := 10) 33 (v := .pointer (some ⟨Z, 0, none⟩)) rfl rfl (by kernel_rfl) (by kernel_rfl) (by kernel_rfl) (fun _ _ _ h => h) (Or.inl ⟨by rfl, fun w' hw' => by go_simp⟩) hS ?_
      simp only [Act.put, lsA, lsZ, lsS]
      refine take_at (i := 11) 34 (v := .agg #[.int .i64 v.node, .int .i64 v.num]) rfl rfl (by kernel_rfl) (by kernel_rfl) (by kernel_rfl) (fun _ _ _ h => h) (Or.inl ⟨by rfl, fun w' hw' => by obtain ⟨x0, x1, x2, x3⟩ := cel4 (CV.out.off hw' (fun h => h)); go_simp⟩) hS ?_
      simp only [Act.put, lsA, lsZ, lsS]
      refine wpAnyH_ready (rs := [12]) (by kernel_rfl) (by simp) ?_
      refine AllReadyH.cons rfl (fun K' hK' => ?_) AllReadyH.nil
      go_simp
      refine (less_any _ _ _ _ _).mono ?_
      rw [hls]
      rintro e v1 ⟨rfl, o1⟩
      refine hK'.out _ _ (hS.trans o1 (fun _ _ h => h)) (fun hS => ?_)
      clear hK' K' o1
      refine take_at (i := 13) 36 (v := .bool false) rfl rfl (by kernel_rfl) (by kernel_rfl) (by kernel_rfl) (fun _ _ _ h => h) (Or.inl ⟨by rfl, fun w' hw' => by go_simp⟩) hS ?_
      simp only [Act.put, lsA, lsZ, lsS]
      refine take_at (i := 14) 37 (v := .bool false) rfl rfl (by kernel_rfl) (by kernel_rfl) (by kernel_rfl) (fun _ _ _ h => h) (Or.inl ⟨by rfl, fun w' hw' => by go_simp⟩) hS ?_
      simp only [Act.put, lsA, lsZ, lsS]
      refine wpAnyH_done (by kernel_rfl) ?_ _
      obtain ⟨y0, y1, y2, y3, y4, y5, y6, y7, y8⟩ := cel9 (CB.out.off hS (fun h => h))
      obtain ⟨z0, z1, z2, z3⟩ := cel4 (CV.out.off hS (fun h => h))
      cases hcov : coversB f v.node v.num
      ·go_wp2_with fail
       refine (covers_any f _ _ _).mono ?_
       rw [hcov]
       rintro e w3 ⟨rfl, o3⟩
       go_wp2_with fail
       go_ret
       refine ⟨?_, HO.out.trans (hS.trans o3 (fun _ _ h => h)) (fun _ _ h => h)⟩
       rw [may_no (fun hM => by have := (hM.cov v.abs (mem_cont hv)).1; simp [V.abs, hcov] at this)]
       rfl
      ·go_wp2_with fail
       refine (covers_any f _ _ _).mono ?_
       rw [hcov]
       rintro e w3 ⟨rfl, o3⟩
       have O3 := hS.trans o3 (fun _ _ h => h)
       obtain ⟨x0, x1, x2, x3⟩ := cel4 (CV.out.off O3 (fun h => h))
       have HO3 : Hid _ := O3
       clear O3 o3 hS y0 y1 y2 y3 y4 y5 y6 y7 y8 z0 z1 z2 z3
       cases hdat : okData v.data.length v.dead
       ·go_wp2_with fail
        refine (mayData_any _ _ _ _ _).mono ?_
        rw [hdat]
        rintro e w4 ⟨rfl, hw⟩
        rw [hw]
        clear hw w4
        go_wp2_with fail
        go_ret
        refine ⟨?_, HO.out.trans HO3.out (fun _ _ h => h)⟩
        rw [may_no (fun hM => by have := (hM.cov v.abs (mem_cont hv)).2; simp [V.abs, hdat] at this)]
        rfl
       ·go_wp2_with fail
        refine (mayData_any _ _ _ _ _).mono ?_
        rw [hdat]
        rintro e w4 ⟨rfl, hw⟩
        rw [hw]
        clear hw w4
        go_wp2_with fail
        go_roundw
        case rel =>
         refine ⟨n + 1, by go_num, by omega, ?_, HO.out.trans HO3.out (fun _ _ h => h), CB.out.off HO3.out (fun h => h), HR.out.off HO3.out⟩
         exact HG.out.step hv (by simp [V.abs, hcov, hdat]) (less_at HM1.out hu hls)
        case measure => simp [intOf]; omega
   ·obtain rfl : n = l.length := by omega
    have e1 : decide ((l.length : Int) < (l.length : Int)) = false := decide_eq_false (by omega)
    have e2 : decide (l.length < l.length) = false := decide_eq_false (by omega)
    go_wp2_with fail
    go_ret
    refine ⟨?_, O⟩
    rw [may_yes (HG.out.may HSN.out HHL.out)]
    rfl
 ·have d1 : decide ((16 : Int) < (l.length : Int)) = true := decide_eq_true (by omega)
  have d2 : decide (16 < l.length) = true := decide_eq_true (by omega)
  go_enter Try.func62, Try.ntmps62
  go_wp2_with fail
  refine (may_any f _).mono ?_
  rw [hm]
  rintro e w1 ⟨rfl, o1⟩
  have c8 : w1.cell? ⟨w.heap.size, 8, none⟩ = some (.slice a l.length cap) := (B0.off o1 (fun h => h)).cell 8
  go_wp2_with fail
  go_ret
  refine ⟨?_, O0.trans o1 (fun _ _ h => h)⟩
  rw [may_no (fun hM => by have := hM.few; rw [cont_len] at this; omega)]
  rfl
end Go.Proofs.Ytmjmgdbhmbjmaaa
