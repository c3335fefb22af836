/- Items of several texts. -/
import Derived.Test.YtmbphlkohlggfaaGreatAGSame
import Derived.Test.YtmbphlkohlggfaaGreatAQz18
import Derived.Test.YtmbphlkohlggfaaGreatABks
namespace Go.Proofs.YtmbphlkohlggfaaGreat
set_option maxRecDepth 100000
open Go.RowKit
theorem neq_str_yes (a : ByteArray) (W : World) : (binOp .neq 9 (.string a) (.string a)).run Tryz.prog W = .ok (.bool false) W := by
 go_simp
theorem neq_str_same {a b : ByteArray} (h : a = b) (W : World) : (binOp .neq 9 (.string a) (.string b)).run Tryz.prog W = .ok (.bool false) W := by
 rw [h]
 exact neq_str_yes b W
theorem neq_str_no (a b : ByteArray) (h : a ≠ b) (W : World) : (binOp .neq 9 (.string a) (.string b)).run Tryz.prog W = .ok (.bool true) W := by
 have h2 : ¬ a.toList = b.toList := fun e => h (kb_inj (by rw [toL, toL] at e; exact e))
 go_simp
theorem neq_mem (a b c d : Int) (W : World) : (binOp .neq 60 (.agg #[.int .i64 a, .int .i64 b]) (.agg #[.int .i64 c, .int .i64 d])).run Tryz.prog W = .ok (.bool (!decide (a = c ∧ b = d))) W := by
 go_simp
 by_cases h1 : a = c <;> by_cases h2 : b = d <;> simp [h1, h2]
theorem take_map_step {α β : Type} {f : α → β} {xs ys : List α} {i : Nat} {x y : α} (h : (xs.take i).map f = (ys.take i).map f) (hx : xs[i]? = some x) (hy : ys[i]? = some y) (e : f x = f y) : (xs.take (i + 1)).map f = (ys.take (i + 1)).map f := by
 rw [List.take_add_one, List.take_add_one, hx, hy, List.map_append, List.map_append, h]
 simp [e]
theorem map_apart {α β : Type} {f : α → β} {xs ys : List α} {i : Nat} {x y : α} (hx : xs[i]? = some x) (hy : ys[i]? = some y) (e : f x ≠ f y) : xs.map f ≠ ys.map f := by
 intro h
 have := congrArg (fun z => z[i]?) h
 simp only [List.getElem?_map, hx, hy, Option.map_some, Option.some.injEq] at this
 exact e this
theorem map_len {α β : Type} {f : α → β} {xs ys : List α} (h : xs.length ≠ ys.length) : xs.map f ≠ ys.map f := by
 intro e
 have := congrArg List.length e
 rw [List.length_map, List.length_map] at this
 exact h this
theorem map_done {α β : Type} {f : α → β} {xs ys : List α} {i : Nat} (h : (xs.take i).map f = (ys.take i).map f) (hx : i = xs.length) (hy : i = ys.length) : xs.map f = ys.map f := by
 rw [List.take_of_length_le (by omega), List.take_of_length_le (by omega)] at h
 exact h
def v8 (f : Nat → Int) : List Int := [f 0, f 1, f 2, f 3, f 4, f 5, f 6, f 7]
theorem v8_iff {f g : Nat → Int} : eqB f g = true ↔ v8 f = v8 g := by
 unfold eqB v8
 rw [decide_eq_true_iff]
 simp only [List.cons.injEq, and_true]
 constructor
 ·intro h
  exact ⟨h 0 (by omega), h 1 (by omega), h 2 (by omega), h 3 (by omega), h 4 (by omega), h 5 (by omega), h 6 (by omega), h 7 (by omega)⟩
 ·rintro ⟨h0, h1, h2, h3, h4, h5, h6, h7⟩ j hj
  match j, hj with
  | 0, _ => exact h0
  | 1, _ => exact h1
  | 2, _ => exact h2
  | 3, _ => exact h3
  | 4, _ => exact h4
  | 5, _ => exact h5
  | 6, _ => exact h6
  | 7, _ => exact h7
def nK (k : K) : ByteArray × List Int × List A := (k.key, v8 k.f, k.l)
def nE (e : E) : ByteArray × List Int × List A := nK e.abs
def nGK (g : GK) : ByteArray × List Int × List (Int × Int) := (g.key, v8 g.f, g.ds)
def nG (g : G) : ByteArray × List Int × List (Int × Int) := nGK g.abs
theorem sameS_iff {f g : Nat → Int} {l k : List A} : sameS f g l k = true ↔ v8 f = v8 g ∧ l = k := by
 unfold sameS sameR
 rw [Bool.and_eq_true, v8_iff]
 simp
theorem nE_iff {x y : E} : nE x = nE y ↔ x.key = y.key ∧ sameS x.f y.f (cont x.l) (cont y.l) = true := by
 rw [sameS_iff]
 show (x.key, v8 x.f, cont x.l) = (y.key, v8 y.f, cont y.l) ↔ _
 simp only [Prod.mk.injEq]
theorem nG_iff {x y : G} : nG x = nG y ↔ x.key = y.key ∧ eqB x.f y.f = true ∧ x.ds = y.ds := by
 rw [v8_iff]
 show (x.key, v8 x.f, x.ds) = (y.key, v8 y.f, y.ds) ↔ _
 simp only [Prod.mk.injEq]
set_option maxHeartbeats 4000000 in
theorem sdots_dec (ta tb : Option Addr) (ca cb : Nat) (xs ys : List (Int × Int)) (w : World) (h1 : RowD w ta ca xs) (h2 : RowD w tb cb ys) :
  Calls Tryz.prog 70 #[.slice ta xs.length ca, .slice tb ys.length cb] w fun e w' => ∃ b : Bool, e = .returned (.bool b) ∧ (b = true ↔ xs.map id = ys.map id) ∧ Off (fun _ => False) w w' := by
 have hxl : xs.length ≤ 9223372036854775807 := Nat.le_trans h1.len h1.bound
 have hyl : ys.length ≤ 9223372036854775807 := Nat.le_trans h2.len h2.bound
 have H1 : Hid _ := h1
 have H2 : Hid _ := h2
 clear h1 h2
 by_cases hlen : xs.length = ys.length
 ·have d0 : ((xs.length : Int) != (ys.length : Int)) = false := by rw [hlen]; simp
  have HLEN : Hid (ys.length = xs.length) := hlen.symm
  clear hlen
  go_enter Tryz.func70, Tryz.ntmps70
  go_wp2_with fail
  go_loopw [13] (fun y wr => ∃ i : Nat, y = .int .i64 (i : Int) ∧ i ≤ xs.length ∧ Hid ((xs.take i).map id = (ys.take i).map id) ∧ Hid (Off (fun _ => False) w wr)) (fun y _ => ((xs.length : Int) - intOf y).toNat)
  case atStart => exact ⟨0, rfl, by omega, rfl, Off.refl _ _⟩
  case round =>
   obtain ⟨i, rfl, hi, HM, HO⟩ := hrel
   by_cases hil : i < xs.length
   ·have i1 : decide ((i : Int) < (xs.length : Int)) = true := decide_eq_true (by omega)
    have i2 : decide (i < xs.length) = true := decide_eq_true hil
    have hil2 : i < ys.length := by have := HLEN.out; omega
    obtain ⟨x, hx⟩ : ∃ x, xs[i]? = some x := ⟨_, List.getElem?_eq_getElem hil⟩
    obtain ⟨y, hy⟩ : ∃ y, ys[i]? = some y := ⟨_, List.getElem?_eq_getElem hil2⟩
    obtain ⟨ba, oa, rfl, -, -⟩ := H1.out.at_ i x hx
    obtain ⟨bb, ob, rfl, -, -⟩ := H2.out.at_ i y hy
    have LX : Hid (∀ w', Off (fun _ => False) w w' → w'.cell? ⟨ba, oa + i * 2, none⟩ = some (.int .i64 x.1) ∧ w'.cell? ⟨ba, oa + i * 2 + 1, none⟩ = some (.int .i64 x.2)) := fun w' hw' => by
     obtain ⟨b', o', e', k0, k1⟩ := (H1.out.off hw').at_ i x hx
     simp only [Option.some.injEq, Addr.mk.injEq, and_true] at e'
     obtain ⟨rfl, rfl⟩ := e'
     exact ⟨k0, k1⟩
    have LY : Hid (∀ w', Off (fun _ => False) w w' → w'.cell? ⟨bb, ob + i * 2, none⟩ = some (.int .i64 y.1) ∧ w'.cell? ⟨bb, ob + i * 2 + 1, none⟩ = some (.int .i64 y.2)) := fun w' hw' => by
     obtain ⟨b', o', e', k0, k1⟩ := (H2.out.off hw').at_ i y hy
     simp only [Option.some.injEq, Addr.mk.injEq, and_true] at e'
     obtain ⟨rfl, rfl⟩ := e'
     exact ⟨k0, k1⟩
    have HX : Hid _ := hx
    have HY : Hid _ := hy
    clear hx hy
    go_upto_region 6 with fail
    by_cases hxy : x.1 = y.1 ∧ x.2 = y.2
    ·have HNF : Hid (id x = id y) := by
      show x = y
      exact Prod.ext hxy.1 hxy.2
     have hdd : decide (x.1 = y.1 ∧ x.2 = y.2) = true := decide_eq_true hxy
     refine wp_region_held_drew (S := Off (fun _ => False) w) (by kernel_rfl) HO.out.drew (fun hS => ?_)
     refine take_at (i := 0) 16 (v := .slice (some ⟨ba, oa, none⟩) xs.length ca) rfl rfl (by kernel_rfl) (by kernel_rfl) (by kernel_rfl) (fun _ _ _ h => h) (Or.inl ⟨by rfl, fun w' hw' => by go_simp⟩) hS ?_
     simp only [Act.put, lsA, lsZ, lsS]
     refine take_at (i := 1) 17 (v := .int .i64 (i : Int)) rfl rfl (by kernel_rfl) (by kernel_rfl) (by kernel_rfl) (fun _ _ _ h => h) (Or.inl ⟨by rfl, fun w' hw' => by go_simp⟩) hS ?_
     simp only [Act.put, lsA, lsZ, lsS]
     refine take_at (i := 2) 18 (v := .pointer (some ⟨ba, oa + i * 2, none⟩)) rfl rfl (by kernel_rfl) (by kernel_rfl) (by kernel_rfl) (fun _ _ _ h => h) (Or.inl ⟨by rfl, fun w' hw' => exec_idx10 rfl (idx_dots hil ca ba oa w')⟩) hS ?_
     simp only [Act.put, lsA, lsZ, lsS]
     refine take_at (i := 3) 19 (v := .agg #[.int .i64 x.1, .int .i64 x.2]) rfl rfl (by kernel_rfl) (by kernel_rfl) (by kernel_rfl) (fun _ _ _ h => h) (Or.inl ⟨by rfl, fun w' hw' => by obtain ⟨z0, z1⟩ := LX.out w' hw'; go_simp⟩) hS ?_
     simp only [Act.put, lsA, lsZ, lsS]
     refine take_at (i := 4) 20 (v := .slice (some ⟨bb, ob, none⟩) ys.length cb) rfl rfl (by kernel_rfl) (by kernel_rfl) (by kernel_rfl) (fun _ _ _ h => h) (Or.inl ⟨by rfl, fun w' hw' => by go_simp⟩) hS ?_
     simp only [Act.put, lsA, lsZ, lsS]
     refine take_at (i := 5) 21 (v := .int .i64 (i : Int)) rfl rfl (by kernel_rfl) (by kernel_rfl) (by kernel_rfl) (fun _ _ _ h => h) (Or.inl ⟨by rfl, fun w' hw' => by go_simp⟩) hS ?_
     simp only [Act.put, lsA, lsZ, lsS]
     refine take_at (i := 6) 22 (v := .pointer (some ⟨bb, ob + i * 2, none⟩)) rfl rfl (by kernel_rfl) (by kernel_rfl) (by kernel_rfl) (fun _ _ _ h => h) (Or.inl ⟨by rfl, fun w' hw' => exec_idx10 rfl (idx_dots hil2 cb bb ob w')⟩) hS ?_
     simp only [Act.put, lsA, lsZ, lsS]
     refine take_at (i := 7) 23 (v := .agg #[.int .i64 y.1, .int .i64 y.2]) rfl rfl (by kernel_rfl) (by kernel_rfl) (by kernel_rfl) (fun _ _ _ h => h) (Or.inl ⟨by rfl, fun w' hw' => by obtain ⟨z0, z1⟩ := LY.out w' hw'; go_simp⟩) hS ?_
     simp only [Act.put, lsA, lsZ, lsS]
     refine take_at (i := 8) 24 (v := .bool false) rfl rfl (by kernel_rfl) (by kernel_rfl) (by kernel_rfl) (fun _ _ _ h => h) (Or.inl ⟨by rfl, fun w' hw' => exec_bin10 rfl (by go_simp) ((neq_dot5 x.1 x.2 y.1 y.2 w').trans (by rw [hdd]; rfl))⟩) hS ?_
     simp only [Act.put, lsA, lsZ, lsS]
     refine wpAnyH_done (by kernel_rfl) ?_ _
     have HO9 : Hid _ := hS
     clear hS
     go_wp2_with fail
     go_roundw
     case rel => exact ⟨i + 1, by go_num, by omega, take_map_step HM.out HX.out HY.out HNF.out, HO9.out⟩
     case measure => simp [intOf]; omega
    ·have HNF : Hid (id x ≠ id y) := fun e => hxy (by have e : x = y := e; rw [e]; exact ⟨rfl, rfl⟩)
     have hdd : decide (x.1 = y.1 ∧ x.2 = y.2) = false := decide_eq_false hxy
     refine wp_region_held_drew (S := Off (fun _ => False) w) (by kernel_rfl) HO.out.drew (fun hS => ?_)
     refine take_at (i := 0) 16 (v := .slice (some ⟨ba, oa, none⟩) xs.length ca) rfl rfl (by kernel_rfl) (by kernel_rfl) (by kernel_rfl) (fun _ _ _ h => h) (Or.inl ⟨by rfl, fun w' hw' => by go_simp⟩) hS ?_
     simp only [Act.put, lsA, lsZ, lsS]
     refine take_at (i := 1) 17 (v := .int .i64 (i : Int)) rfl rfl (by kernel_rfl) (by kernel_rfl) (by kernel_rfl) (fun _ _ _ h => h) (Or.inl ⟨by rfl, fun w' hw' => by go_simp⟩) hS ?_
     simp only [Act.put, lsA, lsZ, lsS]
     refine take_at (i := 2) 18 (v := .pointer (some ⟨ba, oa + i * 2, none⟩)) rfl rfl (by kernel_rfl) (by kernel_rfl) (by kernel_rfl) (fun _ _ _ h => h) (Or.inl ⟨by rfl, fun w' hw' => exec_idx10 rfl (idx_dots hil ca ba oa w')⟩) hS ?_
     simp only [Act.put, lsA, lsZ, lsS]
     refine take_at (i := 3) 19 (v := .agg #[.int .i64 x.1, .int .i64 x.2]) rfl rfl (by kernel_rfl) (by kernel_rfl) (by kernel_rfl) (fun _ _ _ h => h) (Or.inl ⟨by rfl, fun w' hw' => by obtain ⟨z0, z1⟩ := LX.out w' hw'; go_simp⟩) hS ?_
     simp only [Act.put, lsA, lsZ, lsS]
     refine take_at (i := 4) 20 (v := .slice (some ⟨bb, ob, none⟩) ys.length cb) rfl rfl (by kernel_rfl) (by kernel_rfl) (by kernel_rfl) (fun _ _ _ h => h) (Or.inl ⟨by rfl, fun w' hw' => by go_simp⟩) hS ?_
     simp only [Act.put, lsA, lsZ, lsS]
     refine take_at (i := 5) 21 (v := .int .i64 (i : Int)) rfl rfl (by kernel_rfl) (by kernel_rfl) (by kernel_rfl) (fun _ _ _ h => h) (Or.inl ⟨by rfl, fun w' hw' => by go_simp⟩) hS ?_
     simp only [Act.put, lsA, lsZ, lsS]
     refine take_at (i := 6) 22 (v := .pointer (some ⟨bb, ob + i * 2, none⟩)) rfl rfl (by kernel_rfl) (by kernel_rfl) (by kernel_rfl) (fun _ _ _ h => h) (Or.inl ⟨by rfl, fun w' hw' => exec_idx10 rfl (idx_dots hil2 cb bb ob w')⟩) hS ?_
     simp only [Act.put, lsA, lsZ, lsS]
     refine take_at (i := 7) 23 (v := .agg #[.int .i64 y.1, .int .i64 y.2]) rfl rfl (by kernel_rfl) (by kernel_rfl) (by kernel_rfl) (fun _ _ _ h => h) (Or.inl ⟨by rfl, fun w' hw' => by obtain ⟨z0, z1⟩ := LY.out w' hw'; go_simp⟩) hS ?_
     simp only [Act.put, lsA, lsZ, lsS]
     refine take_at (i := 8) 24 (v := .bool true) rfl rfl (by kernel_rfl) (by kernel_rfl) (by kernel_rfl) (fun _ _ _ h => h) (Or.inl ⟨by rfl, fun w' hw' => exec_bin10 rfl (by go_simp) ((neq_dot5 x.1 x.2 y.1 y.2 w').trans (by rw [hdd]; rfl))⟩) hS ?_
     simp only [Act.put, lsA, lsZ, lsS]
     refine wpAnyH_done (by kernel_rfl) ?_ _
     have HO9 : Hid _ := hS
     clear hS
     go_wp2_with fail
     go_ret
     exact ⟨false, rfl, ⟨fun h => (by cases h), fun h => absurd h (map_apart HX.out HY.out HNF.out)⟩, HO9.out⟩
   ·obtain rfl : i = xs.length := by omega
    have i1 : decide ((xs.length : Int) < (xs.length : Int)) = false := decide_eq_false (by omega)
    have i2 : decide (xs.length < xs.length) = false := decide_eq_false (by omega)
    go_wp2_with fail
    go_ret
    exact ⟨true, rfl, ⟨fun _ => map_done HM.out rfl HLEN.out.symm, fun _ => rfl⟩, HO.out⟩
 ·have d0 : ((xs.length : Int) != (ys.length : Int)) = true := by rw [bne_iff_ne]; omega
  have HNE : Hid (xs.length ≠ ys.length) := hlen
  clear hlen
  go_enter Tryz.func70, Tryz.ntmps70
  go_wp2_with fail
  go_ret
  exact ⟨false, rfl, ⟨fun h => (by cases h), fun h => absurd h (map_len HNE.out)⟩, Off.refl _ w⟩
theorem cellsX_off {w w' : World} {b o : Nat} {u : List Value} (k : Off (fun _ => False) w w') (h : ∀ j v, u[j]? = some v → w.cell? ⟨b, o + j, none⟩ = some v) : ∀ j v, u[j]? = some v → w'.cell? ⟨b, o + j, none⟩ = some v := fun j v hj => by
 have h1 := h j v hj
 rw [← h1]
 exact World.cell?_of_block (a := ⟨b, o + j, none⟩) (k.block b (cell_lt h1) (fun h => h))
set_option maxHeartbeats 4000000 in
theorem sents_dec (ta tb : Option Addr) (ca cb : Nat) (xs ys : List E) (w : World) (h1 : Ens w ta ca xs) (h2 : Ens w tb cb ys) :
  Calls Tryz.prog 31 #[.slice ta xs.length ca, .slice tb ys.length cb] w fun e w' => ∃ b : Bool, e = .returned (.bool b) ∧ (b = true ↔ xs.map nE = ys.map nE) ∧ Off (fun _ => False) w w' := by
 have hxl : xs.length ≤ 9223372036854775807 := Nat.le_trans h1.len h1.bound
 have hyl : ys.length ≤ 9223372036854775807 := Nat.le_trans h2.len h2.bound
 have H1 : Hid _ := h1
 have H2 : Hid _ := h2
 clear h1 h2
 by_cases hlen : xs.length = ys.length
 ·have d0 : ((xs.length : Int) != (ys.length : Int)) = false := by rw [hlen]; simp
  have HLEN : Hid (ys.length = xs.length) := hlen.symm
  clear hlen
  go_enter Tryz.func31, Tryz.ntmps31
  go_wp2_with fail
  go_loopw [13] (fun y wr => ∃ i : Nat, y = .int .i64 (i : Int) ∧ i ≤ xs.length ∧ Hid ((xs.take i).map nE = (ys.take i).map nE) ∧ Hid (Off (fun _ => False) w wr)) (fun y _ => ((xs.length : Int) - intOf y).toNat)
  case atStart => exact ⟨0, rfl, by omega, rfl, Off.refl _ _⟩
  case round =>
   obtain ⟨i, rfl, hi, HM, HO⟩ := hrel
   by_cases hil : i < xs.length
   ·have i1 : decide ((i : Int) < (xs.length : Int)) = true := decide_eq_true (by omega)
    have i2 : decide (i < xs.length) = true := decide_eq_true hil
    have hil2 : i < ys.length := by have := HLEN.out; omega
    obtain ⟨x, hx⟩ : ∃ x, xs[i]? = some x := ⟨_, List.getElem?_eq_getElem hil⟩
    obtain ⟨y, hy⟩ : ∃ y, ys[i]? = some y := ⟨_, List.getElem?_eq_getElem hil2⟩
    obtain ⟨ba, oa, rfl, ka, ra⟩ := H1.out.at_ i x hx
    obtain ⟨bb, ob, rfl, kb, rb⟩ := H2.out.at_ i y hy
    have HKA : Hid _ := ka
    have HKB : Hid _ := kb
    have HRX : Hid _ := ra
    have HRY : Hid _ := rb
    clear ka kb ra rb
    have HX : Hid _ := hx
    have HY : Hid _ := hy
    clear hx hy
    go_upto_region 6 with fail
    by_cases hk : x.key = y.key
    ·cases hsm : sameS x.f y.f (cont x.l) (cont y.l)
     ·have HNF : Hid (nE x ≠ nE y) := fun e => by have := (nE_iff.1 e).2; rw [hsm] at this; cases this
      refine wp_region_held_drew (S := Off (fun _ => False) w) (by kernel_rfl) HO.out.drew (fun hS => ?_)
      refine take_at (i := 0) 16 (v := .slice (some ⟨ba, oa, none⟩) xs.length ca) rfl rfl (by kernel_rfl) (by kernel_rfl) (by kernel_rfl) (fun _ _ _ h => h) (Or.inl ⟨by rfl, fun w' hw' => by go_simp⟩) hS ?_
      simp only [Act.put, lsA, lsZ, lsS]
      refine take_at (i := 1) 17 (v := .int .i64 (i : Int)) rfl rfl (by kernel_rfl) (by kernel_rfl) (by kernel_rfl) (fun _ _ _ h => h) (Or.inl ⟨by rfl, fun w' hw' => by go_simp⟩) hS ?_
      simp only [Act.put, lsA, lsZ, lsS]
      refine take_at (i := 2) 18 (v := .pointer (some ⟨ba, oa + i * 10, none⟩)) rfl rfl (by kernel_rfl) (by kernel_rfl) (by kernel_rfl) (fun _ _ _ h => h) (Or.inl ⟨by rfl, fun w' hw' => exec_idx10 rfl (idx_ents hil ca ba oa w')⟩) hS ?_
      simp only [Act.put, lsA, lsZ, lsS]
      refine take_at (i := 3) 19 (v := .pointer (some ⟨ba, oa + i * 10, none⟩)) rfl rfl (by kernel_rfl) (by kernel_rfl) (by kernel_rfl) (fun _ _ _ h => h) (Or.inl ⟨by rfl, fun w' hw' => by go_simp⟩) hS ?_
      simp only [Act.put, lsA, lsZ, lsS]
      refine take_at (i := 4) 20 (v := .string x.key) rfl rfl (by kernel_rfl) (by kernel_rfl) (by kernel_rfl) (fun _ _ _ h => h) (Or.inl ⟨by rfl, fun w' hw' => by obtain ⟨k0, k1, k2, k3, k4, k5, k6, k7, k8, k9⟩ := ent10 (cellsX_off hw' HKA.out); go_simp⟩) hS ?_
      simp only [Act.put, lsA, lsZ, lsS]
      refine take_at (i := 5) 21 (v := .slice (some ⟨bb, ob, none⟩) ys.length cb) rfl rfl (by kernel_rfl) (by kernel_rfl) (by kernel_rfl) (fun _ _ _ h => h) (Or.inl ⟨by rfl, fun w' hw' => by go_simp⟩) hS ?_
      simp only [Act.put, lsA, lsZ, lsS]
      refine take_at (i := 6) 22 (v := .int .i64 (i : Int)) rfl rfl (by kernel_rfl) (by kernel_rfl) (by kernel_rfl) (fun _ _ _ h => h) (Or.inl ⟨by rfl, fun w' hw' => by go_simp⟩) hS ?_
      simp only [Act.put, lsA, lsZ, lsS]
      refine take_at (i := 7) 23 (v := .pointer (some ⟨bb, ob + i * 10, none⟩)) rfl rfl (by kernel_rfl) (by kernel_rfl) (by kernel_rfl) (fun _ _ _ h => h) (Or.inl ⟨by rfl, fun w' hw' => exec_idx10 rfl (idx_ents hil2 cb bb ob w')⟩) hS ?_
      simp only [Act.put, lsA, lsZ, lsS]
      refine take_at (i := 8) 24 (v := .pointer (some ⟨bb, ob + i * 10, none⟩)) rfl rfl (by kernel_rfl) (by kernel_rfl) (by kernel_rfl) (fun _ _ _ h => h) (Or.inl ⟨by rfl, fun w' hw' => by go_simp⟩) hS ?_
      simp only [Act.put, lsA, lsZ, lsS]
      refine take_at (i := 9) 25 (v := .string y.key) rfl rfl (by kernel_rfl) (by kernel_rfl) (by kernel_rfl) (fun _ _ _ h => h) (Or.inl ⟨by rfl, fun w' hw' => by obtain ⟨k0, k1, k2, k3, k4, k5, k6, k7, k8, k9⟩ := ent10 (cellsX_off hw' HKB.out); go_simp⟩) hS ?_
      simp only [Act.put, lsA, lsZ, lsS]
      refine take_at (i := 10) 26 (v := .bool false) rfl rfl (by kernel_rfl) (by kernel_rfl) (by kernel_rfl) (fun _ _ _ h => h) (Or.inl ⟨by rfl, fun w' hw' => exec_bin10 rfl (by go_simp) (neq_str_same hk w')⟩) hS ?_
      simp only [Act.put, lsA, lsZ, lsS]
      refine take_at (i := 11) 27 (v := .bool false) rfl rfl (by kernel_rfl) (by kernel_rfl) (by kernel_rfl) (fun _ _ _ h => h) (Or.inl ⟨by rfl, fun w' hw' => by go_simp⟩) hS ?_
      simp only [Act.put, lsA, lsZ, lsS]
      refine take_at (i := 12) 28 (v := .slice (some ⟨ba, oa, none⟩) xs.length ca) rfl rfl (by kernel_rfl) (by kernel_rfl) (by kernel_rfl) (fun _ _ _ h => h) (Or.inl ⟨by rfl, fun w' hw' => by go_simp⟩) hS ?_
      simp only [Act.put, lsA, lsZ, lsS]
      refine take_at (i := 13) 29 (v := .int .i64 (i : Int)) rfl rfl (by kernel_rfl) (by kernel_rfl) (by kernel_rfl) (fun _ _ _ h => h) (Or.inl ⟨by rfl, fun w' hw' => by go_simp⟩) hS ?_
      simp only [Act.put, lsA, lsZ, lsS]
      refine take_at (i := 14) 30 (v := .pointer (some ⟨ba, oa + i * 10, none⟩)) rfl rfl (by kernel_rfl) (by kernel_rfl) (by kernel_rfl) (fun _ _ _ h => h) (Or.inl ⟨by rfl, fun w' hw' => exec_idx10 rfl (idx_ents hil ca ba oa w')⟩) hS ?_
      simp only [Act.put, lsA, lsZ, lsS]
      refine take_at (i := 15) 31 (v := .pointer (some ⟨ba, oa + i * 10 + 1, none⟩)) rfl rfl (by kernel_rfl) (by kernel_rfl) (by kernel_rfl) (fun _ _ _ h => h) (Or.inl ⟨by rfl, fun w' hw' => by go_simp⟩) hS ?_
      simp only [Act.put, lsA, lsZ, lsS]
      refine take_at (i := 16) 32 (v := .agg #[.int .i64 (x.f 0), .int .i64 (x.f 1), .int .i64 (x.f 2), .int .i64 (x.f 3), .int .i64 (x.f 4), .int .i64 (x.f 5), .int .i64 (x.f 6), .int .i64 (x.f 7), .slice x.a x.l.length x.cap]) rfl rfl (by kernel_rfl) (by kernel_rfl) (by kernel_rfl) (fun _ _ _ h => h) (Or.inl ⟨by rfl, fun w' hw' => by obtain ⟨k0, k1, k2, k3, k4, k5, k6, k7, k8, k9⟩ := ent10 (cellsX_off hw' HKA.out); go_simp⟩) hS ?_
      simp only [Act.put, lsA, lsZ, lsS]
      refine take_at (i := 17) 33 (v := .slice (some ⟨bb, ob, none⟩) ys.length cb) rfl rfl (by kernel_rfl) (by kernel_rfl) (by kernel_rfl) (fun _ _ _ h => h) (Or.inl ⟨by rfl, fun w' hw' => by go_simp⟩) hS ?_
      simp only [Act.put, lsA, lsZ, lsS]
      refine take_at (i := 18) 34 (v := .int .i64 (i : Int)) rfl rfl (by kernel_rfl) (by kernel_rfl) (by kernel_rfl) (fun _ _ _ h => h) (Or.inl ⟨by rfl, fun w' hw' => by go_simp⟩) hS ?_
      simp only [Act.put, lsA, lsZ, lsS]
      refine take_at (i := 19) 35 (v := .pointer (some ⟨bb, ob + i * 10, none⟩)) rfl rfl (by kernel_rfl) (by kernel_rfl) (by kernel_rfl) (fun _ _ _ h => h) (Or.inl ⟨by rfl, fun w' hw' => exec_idx10 rfl (idx_ents hil2 cb bb ob w')⟩) hS ?_
      simp only [Act.put, lsA, lsZ, lsS]
      refine take_at (i := 20) 36 (v := .pointer (some ⟨bb, ob + i * 10 + 1, none⟩)) rfl rfl (by kernel_rfl) (by kernel_rfl) (by kernel_rfl) (fun _ _ _ h => h) (Or.inl ⟨by rfl, fun w' hw' => by go_simp⟩) hS ?_
      simp only [Act.put, lsA, lsZ, lsS]
      refine take_at (i := 21) 37 (v := .agg #[.int .i64 (y.f 0), .int .i64 (y.f 1), .int .i64 (y.f 2), .int .i64 (y.f 3), .int .i64 (y.f 4), .int .i64 (y.f 5), .int .i64 (y.f 6), .int .i64 (y.f 7), .slice y.a y.l.length y.cap]) rfl rfl (by kernel_rfl) (by kernel_rfl) (by kernel_rfl) (fun _ _ _ h => h) (Or.inl ⟨by rfl, fun w' hw' => by obtain ⟨k0, k1, k2, k3, k4, k5, k6, k7, k8, k9⟩ := ent10 (cellsX_off hw' HKB.out); go_simp⟩) hS ?_
      simp only [Act.put, lsA, lsZ, lsS]
      refine wpAnyH_ready (rs := [22]) (by kernel_rfl) (by simp) ?_
      refine AllReadyH.cons rfl (fun K' hK' => ?_) AllReadyH.nil
      go_simp
      have rx := HRX.out.off hS
      have ry := HRY.out.off hS
      refine (gsame_any x.f y.f x.a y.a x.cap y.cap x.l y.l _ rx ry).mono ?_
      rintro e0 w3 ⟨rfl, o3⟩
      rw [hsm]
      refine hK'.out _ _ (hS.trans o3 (fun _ _ h => h)) (fun hS => ?_)
      clear hK' K' rx ry o3
      refine take_at (i := 23) 39 (v := .bool true) rfl rfl (by kernel_rfl) (by kernel_rfl) (by kernel_rfl) (fun _ _ _ h => h) (Or.inl ⟨by rfl, fun w' hw' => by go_simp⟩) hS ?_
      simp only [Act.put, lsA, lsZ, lsS]
      refine take_at (i := 24) 40 (v := .bool true) rfl rfl (by kernel_rfl) (by kernel_rfl) (by kernel_rfl) (fun _ _ _ h => h) (Or.inl ⟨by rfl, fun w' hw' => by go_simp⟩) hS ?_
      simp only [Act.put, lsA, lsZ, lsS]
      refine wpAnyH_done (by kernel_rfl) ?_ _
      have HO9 : Hid _ := hS
      clear hS
      go_wp2_with fail
      go_ret
      exact ⟨false, rfl, ⟨fun h => (by cases h), fun h => absurd h (map_apart HX.out HY.out HNF.out)⟩, HO9.out⟩
     ·have HNF : Hid (nE x = nE y) := nE_iff.2 ⟨hk, hsm⟩
      refine wp_region_held_drew (S := Off (fun _ => False) w) (by kernel_rfl) HO.out.drew (fun hS => ?_)
      refine take_at (i := 0) 16 (v := .slice (some ⟨ba, oa, none⟩) xs.length ca) rfl rfl (by kernel_rfl) (by kernel_rfl) (by kernel_rfl) (fun _ _ _ h => h) (Or.inl ⟨by rfl, fun w' hw' => by go_simp⟩) hS ?_
      simp only [Act.put, lsA, lsZ, lsS]
      refine take_at (i := 1) 17 (v := .int .i64 (i : Int)) rfl rfl (by kernel_rfl) (by kernel_rfl) (by kernel_rfl) (fun _ _ _ h => h) (Or.inl ⟨by rfl, fun w' hw' => by go_simp⟩) hS ?_
      simp only [Act.put, lsA, lsZ, lsS]
      refine take_at (i := 2) 18 (v := .pointer (some ⟨ba, oa + i * 10, none⟩)) rfl rfl (by kernel_rfl) (by kernel_rfl) (by kernel_rfl) (fun _ _ _ h => h) (Or.inl ⟨by rfl, fun w' hw' => exec_idx10 rfl (idx_ents hil ca ba oa w')⟩) hS ?_
      simp only [Act.put, lsA, lsZ, lsS]
      refine take_at (i := 3) 19 (v := .pointer (some ⟨ba, oa + i * 10, none⟩)) rfl rfl (by kernel_rfl) (by kernel_rfl) (by kernel_rfl) (fun _ _ _ h => h) (Or.inl ⟨by rfl, fun w' hw' => by go_simp⟩) hS ?_
      simp only [Act.put, lsA, lsZ, lsS]
      refine take_at (i := 4) 20 (v := .string x.key) rfl rfl (by kernel_rfl) (by kernel_rfl) (by kernel_rfl) (fun _ _ _ h => h) (Or.inl ⟨by rfl, fun w' hw' => by obtain ⟨k0, k1, k2, k3, k4, k5, k6, k7, k8, k9⟩ := ent10 (cellsX_off hw' HKA.out); go_simp⟩) hS ?_
      simp only [Act.put, lsA, lsZ, lsS]
      refine take_at (i := 5) 21 (v := .slice (some ⟨bb, ob, none⟩) ys.length cb) rfl rfl (by kernel_rfl) (by kernel_rfl) (by kernel_rfl) (fun _ _ _ h => h) (Or.inl ⟨by rfl, fun w' hw' => by go_simp⟩) hS ?_
      simp only [Act.put, lsA, lsZ, lsS]
      refine take_at (i := 6) 22 (v := .int .i64 (i : Int)) rfl rfl (by kernel_rfl) (by kernel_rfl) (by kernel_rfl) (fun _ _ _ h => h) (Or.inl ⟨by rfl, fun w' hw' => by go_simp⟩) hS ?_
      simp only [Act.put, lsA, lsZ, lsS]
      refine take_at (i := 7) 23 (v := .pointer (some ⟨bb, ob + i * 10, none⟩)) rfl rfl (by kernel_rfl) (by kernel_rfl) (by kernel_rfl) (fun _ _ _ h => h) (Or.inl ⟨by rfl, fun w' hw' => exec_idx10 rfl (idx_ents hil2 cb bb ob w')⟩) hS ?_
      simp only [Act.put, lsA, lsZ, lsS]
      refine take_at (i := 8) 24 (v := .pointer (some ⟨bb, ob + i * 10, none⟩)) rfl rfl (by kernel_rfl) (by kernel_rfl) (by kernel_rfl) (fun _ _ _ h => h) (Or.inl ⟨by rfl, fun w' hw' => by go_simp⟩) hS ?_
      simp only [Act.put, lsA, lsZ, lsS]
      refine take_at (i := 9) 25 (v := .string y.key) rfl rfl (by kernel_rfl) (by kernel_rfl) (by kernel_rfl) (fun _ _ _ h => h) (Or.inl ⟨by rfl, fun w' hw' => by obtain ⟨k0, k1, k2, k3, k4, k5, k6, k7, k8, k9⟩ := ent10 (cellsX_off hw' HKB.out); go_simp⟩) hS ?_
      simp only [Act.put, lsA, lsZ, lsS]
      refine take_at (i := 10) 26 (v := .bool false) rfl rfl (by kernel_rfl) (by kernel_rfl) (by kernel_rfl) (fun _ _ _ h => h) (Or.inl ⟨by rfl, fun w' hw' => exec_bin10 rfl (by go_simp) (neq_str_same hk w')⟩) hS ?_
      simp only [Act.put, lsA, lsZ, lsS]
      refine take_at (i := 11) 27 (v := .bool false) rfl rfl (by kernel_rfl) (by kernel_rfl) (by kernel_rfl) (fun _ _ _ h => h) (Or.inl ⟨by rfl, fun w' hw' => by go_simp⟩) hS ?_
      simp only [Act.put, lsA, lsZ, lsS]
      refine take_at (i := 12) 28 (v := .slice (some ⟨ba, oa, none⟩) xs.length ca) rfl rfl (by kernel_rfl) (by kernel_rfl) (by kernel_rfl) (fun _ _ _ h => h) (Or.inl ⟨by rfl, fun w' hw' => by go_simp⟩) hS ?_
      simp only [Act.put, lsA, lsZ, lsS]
      refine take_at (i := 13) 29 (v := .int .i64 (i : Int)) rfl rfl (by kernel_rfl) (by kernel_rfl) (by kernel_rfl) (fun _ _ _ h => h) (Or.inl ⟨by rfl, fun w' hw' => by go_simp⟩) hS ?_
      simp only [Act.put, lsA, lsZ, lsS]
      refine take_at (i := 14) 30 (v := .pointer (some ⟨ba, oa + i * 10, none⟩)) rfl rfl (by kernel_rfl) (by kernel_rfl) (by kernel_rfl) (fun _ _ _ h => h) (Or.inl ⟨by rfl, fun w' hw' => exec_idx10 rfl (idx_ents hil ca ba oa w')⟩) hS ?_
      simp only [Act.put, lsA, lsZ, lsS]
      refine take_at (i := 15) 31 (v := .pointer (some ⟨ba, oa + i * 10 + 1, none⟩)) rfl rfl (by kernel_rfl) (by kernel_rfl) (by kernel_rfl) (fun _ _ _ h => h) (Or.inl ⟨by rfl, fun w' hw' => by go_simp⟩) hS ?_
      simp only [Act.put, lsA, lsZ, lsS]
      refine take_at (i := 16) 32 (v := .agg #[.int .i64 (x.f 0), .int .i64 (x.f 1), .int .i64 (x.f 2), .int .i64 (x.f 3), .int .i64 (x.f 4), .int .i64 (x.f 5), .int .i64 (x.f 6), .int .i64 (x.f 7), .slice x.a x.l.length x.cap]) rfl rfl (by kernel_rfl) (by kernel_rfl) (by kernel_rfl) (fun _ _ _ h => h) (Or.inl ⟨by rfl, fun w' hw' => by obtain ⟨k0, k1, k2, k3, k4, k5, k6, k7, k8, k9⟩ := ent10 (cellsX_off hw' HKA.out); go_simp⟩) hS ?_
      simp only [Act.put, lsA, lsZ, lsS]
      refine take_at (i := 17) 33 (v := .slice (some ⟨bb, ob, none⟩) ys.length cb) rfl rfl (by kernel_rfl) (by kernel_rfl) (by kernel_rfl) (fun _ _ _ h => h) (Or.inl ⟨by rfl, fun w' hw' => by go_simp⟩) hS ?_
      simp only [Act.put, lsA, lsZ, lsS]
      refine take_at (i := 18) 34 (v := .int .i64 (i : Int)) rfl rfl (by kernel_rfl) (by kernel_rfl) (by kernel_rfl) (fun _ _ _ h => h) (Or.inl ⟨by rfl, fun w' hw' => by go_simp⟩) hS ?_
      simp only [Act.put, lsA, lsZ, lsS]
      refine take_at (i := 19) 35 (v := .pointer (some ⟨bb, ob + i * 10, none⟩)) rfl rfl (by kernel_rfl) (by kernel_rfl) (by kernel_rfl) (fun _ _ _ h => h) (Or.inl ⟨by rfl, fun w' hw' => exec_idx10 rfl (idx_ents hil2 cb bb ob w')⟩) hS ?_
      simp only [Act.put, lsA, lsZ, lsS]
      refine take_at (i := 20) 36 (v := .pointer (some ⟨bb, ob + i * 10 + 1, none⟩)) rfl rfl (by kernel_rfl) (by kernel_rfl) (by kernel_rfl) (fun _ _ _ h => h) (Or.inl ⟨by rfl, fun w' hw' => by go_simp⟩) hS ?_
      simp only [Act.put, lsA, lsZ, lsS]
      refine take_at (i := 21) 37 (v := .agg #[.int .i64 (y.f 0), .int .i64 (y.f 1), .int .i64 (y.f 2), .int .i64 (y.f 3), .int .i64 (y.f 4), .int .i64 (y.f 5), .int .i64 (y.f 6), .int .i64 (y.f 7), .slice y.a y.l.length y.cap]) rfl rfl (by kernel_rfl) (by kernel_rfl) (by kernel_rfl) (fun _ _ _ h => h) (Or.inl ⟨by rfl, fun w' hw' => by obtain ⟨k0, k1, k2, k3, k4, k5, k6, k7, k8, k9⟩ := ent10 (cellsX_off hw' HKB.out); go_simp⟩) hS ?_
      simp only [Act.put, lsA, lsZ, lsS]
      refine wpAnyH_ready (rs := [22]) (by kernel_rfl) (by simp) ?_
      refine AllReadyH.cons rfl (fun K' hK' => ?_) AllReadyH.nil
      go_simp
      have rx := HRX.out.off hS
      have ry := HRY.out.off hS
      refine (gsame_any x.f y.f x.a y.a x.cap y.cap x.l y.l _ rx ry).mono ?_
      rintro e0 w3 ⟨rfl, o3⟩
      rw [hsm]
      refine hK'.out _ _ (hS.trans o3 (fun _ _ h => h)) (fun hS => ?_)
      clear hK' K' rx ry o3
      refine take_at (i := 23) 39 (v := .bool false) rfl rfl (by kernel_rfl) (by kernel_rfl) (by kernel_rfl) (fun _ _ _ h => h) (Or.inl ⟨by rfl, fun w' hw' => by go_simp⟩) hS ?_
      simp only [Act.put, lsA, lsZ, lsS]
      refine take_at (i := 24) 40 (v := .bool false) rfl rfl (by kernel_rfl) (by kernel_rfl) (by kernel_rfl) (fun _ _ _ h => h) (Or.inl ⟨by rfl, fun w' hw' => by go_simp⟩) hS ?_
      simp only [Act.put, lsA, lsZ, lsS]
      refine wpAnyH_done (by kernel_rfl) ?_ _
      have HO9 : Hid _ := hS
      clear hS
      go_wp2_with fail
      go_roundw
      case rel => exact ⟨i + 1, by go_num, by omega, take_map_step HM.out HX.out HY.out HNF.out, HO9.out⟩
      case measure => simp [intOf]; omega
    ·have HNF : Hid (nE x ≠ nE y) := fun e => hk (nE_iff.1 e).1
     refine wp_region_held_drew (S := Off (fun _ => False) w) (by kernel_rfl) HO.out.drew (fun hS => ?_)
     refine take_at (i := 0) 16 (v := .slice (some ⟨ba, oa, none⟩) xs.length ca) rfl rfl (by kernel_rfl) (by kernel_rfl) (by kernel_rfl) (fun _ _ _ h => h) (Or.inl ⟨by rfl, fun w' hw' => by go_simp⟩) hS ?_
     simp only [Act.put, lsA, lsZ, lsS]
     refine take_at (i := 1) 17 (v := .int .i64 (i : Int)) rfl rfl (by kernel_rfl) (by kernel_rfl) (by kernel_rfl) (fun _ _ _ h => h) (Or.inl ⟨by rfl, fun w' hw' => by go_simp⟩) hS ?_
     simp only [Act.put, lsA, lsZ, lsS]
     refine take_at (i := 2) 18 (v := .pointer (some ⟨ba, oa + i * 10, none⟩)) rfl rfl (by kernel_rfl) (by kernel_rfl) (by kernel_rfl) (fun _ _ _ h => h) (Or.inl ⟨by rfl, fun w' hw' => exec_idx10 rfl (idx_ents hil ca ba oa w')⟩) hS ?_
     simp only [Act.put, lsA, lsZ, lsS]
     refine take_at (i := 3) 19 (v := .pointer (some ⟨ba, oa + i * 10, none⟩)) rfl rfl (by kernel_rfl) (by kernel_rfl) (by kernel_rfl) (fun _ _ _ h => h) (Or.inl ⟨by rfl, fun w' hw' => by go_simp⟩) hS ?_
     simp only [Act.put, lsA, lsZ, lsS]
     refine take_at (i := 4) 20 (v := .string x.key) rfl rfl (by kernel_rfl) (by kernel_rfl) (by kernel_rfl) (fun _ _ _ h => h) (Or.inl ⟨by rfl, fun w' hw' => by obtain ⟨k0, k1, k2, k3, k4, k5, k6, k7, k8, k9⟩ := ent10 (cellsX_off hw' HKA.out); go_simp⟩) hS ?_
     simp only [Act.put, lsA, lsZ, lsS]
     refine take_at (i := 5) 21 (v := .slice (some ⟨bb, ob, none⟩) ys.length cb) rfl rfl (by kernel_rfl) (by kernel_rfl) (by kernel_rfl) (fun _ _ _ h => h) (Or.inl ⟨by rfl, fun w' hw' => by go_simp⟩) hS ?_
     simp only [Act.put, lsA, lsZ, lsS]
     refine take_at (i := 6) 22 (v := .int .i64 (i : Int)) rfl rfl (by kernel_rfl) (by kernel_rfl) (by kernel_rfl) (fun _ _ _ h => h) (Or.inl ⟨by rfl, fun w' hw' => by go_simp⟩) hS ?_
     simp only [Act.put, lsA, lsZ, lsS]
     refine take_at (i := 7) 23 (v := .pointer (some ⟨bb, ob + i * 10, none⟩)) rfl rfl (by kernel_rfl) (by kernel_rfl) (by kernel_rfl) (fun _ _ _ h => h) (Or.inl ⟨by rfl, fun w' hw' => exec_idx10 rfl (idx_ents hil2 cb bb ob w')⟩) hS ?_
     simp only [Act.put, lsA, lsZ, lsS]
     refine take_at (i := 8) 24 (v := .pointer (some ⟨bb, ob + i * 10, none⟩)) rfl rfl (by kernel_rfl) (by kernel_rfl) (by kernel_rfl) (fun _ _ _ h => h) (Or.inl ⟨by rfl, fun w' hw' => by go_simp⟩) hS ?_
     simp only [Act.put, lsA, lsZ, lsS]
     refine take_at (i := 9) 25 (v := .string y.key) rfl rfl (by kernel_rfl) (by kernel_rfl) (by kernel_rfl) (fun _ _ _ h => h) (Or.inl ⟨by rfl, fun w' hw' => by obtain ⟨k0, k1, k2, k3, k4, k5, k6, k7, k8, k9⟩ := ent10 (cellsX_off hw' HKB.out); go_simp⟩) hS ?_
     simp only [Act.put, lsA, lsZ, lsS]
     refine take_at (i := 10) 26 (v := .bool true) rfl rfl (by kernel_rfl) (by kernel_rfl) (by kernel_rfl) (fun _ _ _ h => h) (Or.inl ⟨by rfl, fun w' hw' => exec_bin10 rfl (by go_simp) (neq_str_no _ _ hk w')⟩) hS ?_
     simp only [Act.put, lsA, lsZ, lsS]
     refine take_at (i := 11) 27 (v := .bool true) rfl rfl (by kernel_rfl) (by kernel_rfl) (by kernel_rfl) (fun _ _ _ h => h) (Or.inl ⟨by rfl, fun w' hw' => by go_simp⟩) hS ?_
     simp only [Act.put, lsA, lsZ, lsS]
     refine take_at (i := 12) 28 (v := undef) rfl rfl (by kernel_rfl) (by kernel_rfl) (by kernel_rfl) (fun _ _ _ h => h) (Or.inr ⟨by rfl, rfl⟩) hS ?_
     simp only [Act.put, lsA, lsZ, lsS]
     refine take_at (i := 13) 29 (v := undef) rfl rfl (by kernel_rfl) (by kernel_rfl) (by kernel_rfl) (fun _ _ _ h => h) (Or.inr ⟨by rfl, rfl⟩) hS ?_
     simp only [Act.put, lsA, lsZ, lsS]
     refine take_at (i := 14) 30 (v := undef) rfl rfl (by kernel_rfl) (by kernel_rfl) (by kernel_rfl) (fun _ _ _ h => h) (Or.inr ⟨by rfl, rfl⟩) hS ?_
     simp only [Act.put, lsA, lsZ, lsS]
     refine take_at (i := 15) 31 (v := undef) rfl rfl (by kernel_rfl) (by kernel_rfl) (by kernel_rfl) (fun _ _ _ h => h) (Or.inr ⟨by rfl, rfl⟩) hS ?_
     simp only [Act.put, lsA, lsZ, lsS]
     refine take_at (i := 16) 32 (v := undef) rfl rfl (by kernel_rfl) (by kernel_rfl) (by kernel_rfl) (fun _ _ _ h => h) (Or.inr ⟨by rfl, rfl⟩) hS ?_
     simp only [Act.put, lsA, lsZ, lsS]
     refine take_at (i := 17) 33 (v := undef) rfl rfl (by kernel_rfl) (by kernel_rfl) (by kernel_rfl) (fun _ _ _ h => h) (Or.inr ⟨by rfl, rfl⟩) hS ?_
     simp only [Act.put, lsA, lsZ, lsS]
     refine take_at (i := 18) 34 (v := undef) rfl rfl (by kernel_rfl) (by kernel_rfl) (by kernel_rfl) (fun _ _ _ h => h) (Or.inr ⟨by rfl, rfl⟩) hS ?_
     simp only [Act.put, lsA, lsZ, lsS]
     refine take_at (i := 19) 35 (v := undef) rfl rfl (by kernel_rfl) (by kernel_rfl) (by kernel_rfl) (fun _ _ _ h => h) (Or.inr ⟨by rfl, rfl⟩) hS ?_
     simp only [Act.put, lsA, lsZ, lsS]
     refine take_at (i := 20) 36 (v := undef) rfl rfl (by kernel_rfl) (by kernel_rfl) (by kernel_rfl) (fun _ _ _ h => h) (Or.inr ⟨by rfl, rfl⟩) hS ?_
     simp only [Act.put, lsA, lsZ, lsS]
     refine take_at (i := 21) 37 (v := undef) rfl rfl (by kernel_rfl) (by kernel_rfl) (by kernel_rfl) (fun _ _ _ h => h) (Or.inr ⟨by rfl, rfl⟩) hS ?_
     simp only [Act.put, lsA, lsZ, lsS]
     refine take_at (i := 22) 38 (v := undef) rfl rfl (by kernel_rfl) (by kernel_rfl) (by kernel_rfl) (fun _ _ _ h => h) (Or.inr ⟨by rfl, rfl⟩) hS ?_
     simp only [Act.put, lsA, lsZ, lsS]
     refine take_at (i := 23) 39 (v := undef) rfl rfl (by kernel_rfl) (by kernel_rfl) (by kernel_rfl) (fun _ _ _ h => h) (Or.inr ⟨by rfl, rfl⟩) hS ?_
     simp only [Act.put, lsA, lsZ, lsS]
     refine take_at (i := 24) 40 (v := .bool true) rfl rfl (by kernel_rfl) (by kernel_rfl) (by kernel_rfl) (fun _ _ _ h => h) (Or.inl ⟨by rfl, fun w' hw' => by go_simp⟩) hS ?_
     simp only [Act.put, lsA, lsZ, lsS]
     refine wpAnyH_done (by kernel_rfl) ?_ _
     have HO9 : Hid _ := hS
     clear hS
     go_wp2_with fail
     go_ret
     exact ⟨false, rfl, ⟨fun h => (by cases h), fun h => absurd h (map_apart HX.out HY.out HNF.out)⟩, HO9.out⟩
   ·obtain rfl : i = xs.length := by omega
    have i1 : decide ((xs.length : Int) < (xs.length : Int)) = false := decide_eq_false (by omega)
    have i2 : decide (xs.length < xs.length) = false := decide_eq_false (by omega)
    go_wp2_with fail
    go_ret
    exact ⟨true, rfl, ⟨fun _ => map_done HM.out rfl HLEN.out.symm, fun _ => rfl⟩, HO.out⟩
 ·have d0 : ((xs.length : Int) != (ys.length : Int)) = true := by rw [bne_iff_ne]; omega
  have HNE : Hid (xs.length ≠ ys.length) := hlen
  clear hlen
  go_enter Tryz.func31, Tryz.ntmps31
  go_wp2_with fail
  go_ret
  exact ⟨false, rfl, ⟨fun h => (by cases h), fun h => absurd h (map_len HNE.out)⟩, Off.refl _ w⟩
set_option maxHeartbeats 4000000 in
theorem sdgs_dec (ta tb : Option Addr) (ca cb : Nat) (xs ys : List G) (w : World) (h1 : Dgs w ta ca xs) (h2 : Dgs w tb cb ys) :
  Calls Tryz.prog 32 #[.slice ta xs.length ca, .slice tb ys.length cb] w fun e w' => ∃ b : Bool, e = .returned (.bool b) ∧ (b = true ↔ xs.map nG = ys.map nG) ∧ Off (fun _ => False) w w' := by
 have hxl : xs.length ≤ 9223372036854775807 := Nat.le_trans h1.len h1.bound
 have hyl : ys.length ≤ 9223372036854775807 := Nat.le_trans h2.len h2.bound
 have H1 : Hid _ := h1
 have H2 : Hid _ := h2
 clear h1 h2
 by_cases hlen : xs.length = ys.length
 ·have d0 : ((xs.length : Int) != (ys.length : Int)) = false := by rw [hlen]; simp
  have HLEN : Hid (ys.length = xs.length) := hlen.symm
  clear hlen
  go_enter Tryz.func32, Tryz.ntmps32
  go_wp2_with fail
  go_loopw [13] (fun y wr => ∃ i : Nat, y = .int .i64 (i : Int) ∧ i ≤ xs.length ∧ Hid ((xs.take i).map nG = (ys.take i).map nG) ∧ Hid (Off (fun _ => False) w wr)) (fun y _ => ((xs.length : Int) - intOf y).toNat)
  case atStart => exact ⟨0, rfl, by omega, rfl, Off.refl _ _⟩
  case round =>
   obtain ⟨i, rfl, hi, HM, HO⟩ := hrel
   by_cases hil : i < xs.length
   ·have i1 : decide ((i : Int) < (xs.length : Int)) = true := decide_eq_true (by omega)
    have i2 : decide (i < xs.length) = true := decide_eq_true hil
    have hil2 : i < ys.length := by have := HLEN.out; omega
    obtain ⟨x, hx⟩ : ∃ x, xs[i]? = some x := ⟨_, List.getElem?_eq_getElem hil⟩
    obtain ⟨y, hy⟩ : ∃ y, ys[i]? = some y := ⟨_, List.getElem?_eq_getElem hil2⟩
    obtain ⟨ba, oa, rfl, ka, ra⟩ := H1.out.at_ i x hx
    obtain ⟨bb, ob, rfl, kb, rb⟩ := H2.out.at_ i y hy
    have HKA : Hid _ := ka
    have HKB : Hid _ := kb
    have HRX : Hid _ := ra
    have HRY : Hid _ := rb
    clear ka kb ra rb
    have HX : Hid _ := hx
    have HY : Hid _ := hy
    clear hx hy
    go_upto_region 6 with fail
    by_cases hk : x.key = y.key
    ·cases hf : eqB x.f y.f
     ·have HNF : Hid (nG x ≠ nG y) := fun e => by have := (nG_iff.1 e).2.1; rw [hf] at this; cases this
      refine wp_region_held_drew (S := Off (fun _ => False) w) (by kernel_rfl) HO.out.drew (fun hS => ?_)
      refine take_at (i := 0) 16 (v := .slice (some ⟨ba, oa, none⟩) xs.length ca) rfl rfl (by kernel_rfl) (by kernel_rfl) (by kernel_rfl) (fun _ _ _ h => h) (Or.inl ⟨by rfl, fun w' hw' => by go_simp⟩) hS ?_
      simp only [Act.put, lsA, lsZ, lsS]
      refine take_at (i := 1) 17 (v := .int .i64 (i : Int)) rfl rfl (by kernel_rfl) (by kernel_rfl) (by kernel_rfl) (fun _ _ _ h => h) (Or.inl ⟨by rfl, fun w' hw' => by go_simp⟩) hS ?_
      simp only [Act.put, lsA, lsZ, lsS]
      refine take_at (i := 2) 18 (v := .pointer (some ⟨ba, oa + i * 10, none⟩)) rfl rfl (by kernel_rfl) (by kernel_rfl) (by kernel_rfl) (fun _ _ _ h => h) (Or.inl ⟨by rfl, fun w' hw' => exec_idx10 rfl (idx_dgs hil ca ba oa w')⟩) hS ?_
      simp only [Act.put, lsA, lsZ, lsS]
      refine take_at (i := 3) 19 (v := .pointer (some ⟨ba, oa + i * 10, none⟩)) rfl rfl (by kernel_rfl) (by kernel_rfl) (by kernel_rfl) (fun _ _ _ h => h) (Or.inl ⟨by rfl, fun w' hw' => by go_simp⟩) hS ?_
      simp only [Act.put, lsA, lsZ, lsS]
      refine take_at (i := 4) 20 (v := .string x.key) rfl rfl (by kernel_rfl) (by kernel_rfl) (by kernel_rfl) (fun _ _ _ h => h) (Or.inl ⟨by rfl, fun w' hw' => by obtain ⟨k0, k1, k2, k3, k4, k5, k6, k7, k8, k9⟩ := dg10 (cellsX_off hw' HKA.out); go_simp⟩) hS ?_
      simp only [Act.put, lsA, lsZ, lsS]
      refine take_at (i := 5) 21 (v := .slice (some ⟨bb, ob, none⟩) ys.length cb) rfl rfl (by kernel_rfl) (by kernel_rfl) (by kernel_rfl) (fun _ _ _ h => h) (Or.inl ⟨by rfl, fun w' hw' => by go_simp⟩) hS ?_
      simp only [Act.put, lsA, lsZ, lsS]
      refine take_at (i := 6) 22 (v := .int .i64 (i : Int)) rfl rfl (by kernel_rfl) (by kernel_rfl) (by kernel_rfl) (fun _ _ _ h => h) (Or.inl ⟨by rfl, fun w' hw' => by go_simp⟩) hS ?_
      simp only [Act.put, lsA, lsZ, lsS]
      refine take_at (i := 7) 23 (v := .pointer (some ⟨bb, ob + i * 10, none⟩)) rfl rfl (by kernel_rfl) (by kernel_rfl) (by kernel_rfl) (fun _ _ _ h => h) (Or.inl ⟨by rfl, fun w' hw' => exec_idx10 rfl (idx_dgs hil2 cb bb ob w')⟩) hS ?_
      simp only [Act.put, lsA, lsZ, lsS]
      refine take_at (i := 8) 24 (v := .pointer (some ⟨bb, ob + i * 10, none⟩)) rfl rfl (by kernel_rfl) (by kernel_rfl) (by kernel_rfl) (fun _ _ _ h => h) (Or.inl ⟨by rfl, fun w' hw' => by go_simp⟩) hS ?_
      simp only [Act.put, lsA, lsZ, lsS]
      refine take_at (i := 9) 25 (v := .string y.key) rfl rfl (by kernel_rfl) (by kernel_rfl) (by kernel_rfl) (fun _ _ _ h => h) (Or.inl ⟨by rfl, fun w' hw' => by obtain ⟨k0, k1, k2, k3, k4, k5, k6, k7, k8, k9⟩ := dg10 (cellsX_off hw' HKB.out); go_simp⟩) hS ?_
      simp only [Act.put, lsA, lsZ, lsS]
      refine take_at (i := 10) 26 (v := .bool false) rfl rfl (by kernel_rfl) (by kernel_rfl) (by kernel_rfl) (fun _ _ _ h => h) (Or.inl ⟨by rfl, fun w' hw' => exec_bin10 rfl (by go_simp) (neq_str_same hk w')⟩) hS ?_
      simp only [Act.put, lsA, lsZ, lsS]
      refine take_at (i := 11) 27 (v := .bool false) rfl rfl (by kernel_rfl) (by kernel_rfl) (by kernel_rfl) (fun _ _ _ h => h) (Or.inl ⟨by rfl, fun w' hw' => by go_simp⟩) hS ?_
      simp only [Act.put, lsA, lsZ, lsS]
      refine take_at (i := 12) 28 (v := .slice (some ⟨ba, oa, none⟩) xs.length ca) rfl rfl (by kernel_rfl) (by kernel_rfl) (by kernel_rfl) (fun _ _ _ h => h) (Or.inl ⟨by rfl, fun w' hw' => by go_simp⟩) hS ?_
      simp only [Act.put, lsA, lsZ, lsS]
      refine take_at (i := 13) 29 (v := .int .i64 (i : Int)) rfl rfl (by kernel_rfl) (by kernel_rfl) (by kernel_rfl) (fun _ _ _ h => h) (Or.inl ⟨by rfl, fun w' hw' => by go_simp⟩) hS ?_
      simp only [Act.put, lsA, lsZ, lsS]
      refine take_at (i := 14) 30 (v := .pointer (some ⟨ba, oa + i * 10, none⟩)) rfl rfl (by kernel_rfl) (by kernel_rfl) (by kernel_rfl) (fun _ _ _ h => h) (Or.inl ⟨by rfl, fun w' hw' => exec_idx10 rfl (idx_dgs hil ca ba oa w')⟩) hS ?_
      simp only [Act.put, lsA, lsZ, lsS]
      refine take_at (i := 15) 31 (v := .pointer (some ⟨ba, oa + i * 10 + 1, none⟩)) rfl rfl (by kernel_rfl) (by kernel_rfl) (by kernel_rfl) (fun _ _ _ h => h) (Or.inl ⟨by rfl, fun w' hw' => by go_simp⟩) hS ?_
      simp only [Act.put, lsA, lsZ, lsS]
      refine take_at (i := 16) 32 (v := .agg #[.int .i64 (x.f 0), .int .i64 (x.f 1), .int .i64 (x.f 2), .int .i64 (x.f 3), .int .i64 (x.f 4), .int .i64 (x.f 5), .int .i64 (x.f 6), .int .i64 (x.f 7)]) rfl rfl (by kernel_rfl) (by kernel_rfl) (by kernel_rfl) (fun _ _ _ h => h) (Or.inl ⟨by rfl, fun w' hw' => by obtain ⟨k0, k1, k2, k3, k4, k5, k6, k7, k8, k9⟩ := dg10 (cellsX_off hw' HKA.out); go_simp⟩) hS ?_
      simp only [Act.put, lsA, lsZ, lsS]
      refine take_at (i := 17) 33 (v := .slice (some ⟨bb, ob, none⟩) ys.length cb) rfl rfl (by kernel_rfl) (by kernel_rfl) (by kernel_rfl) (fun _ _ _ h => h) (Or.inl ⟨by rfl, fun w' hw' => by go_simp⟩) hS ?_
      simp only [Act.put, lsA, lsZ, lsS]
      refine take_at (i := 18) 34 (v := .int .i64 (i : Int)) rfl rfl (by kernel_rfl) (by kernel_rfl) (by kernel_rfl) (fun _ _ _ h => h) (Or.inl ⟨by rfl, fun w' hw' => by go_simp⟩) hS ?_
      simp only [Act.put, lsA, lsZ, lsS]
      refine take_at (i := 19) 35 (v := .pointer (some ⟨bb, ob + i * 10, none⟩)) rfl rfl (by kernel_rfl) (by kernel_rfl) (by kernel_rfl) (fun _ _ _ h => h) (Or.inl ⟨by rfl, fun w' hw' => exec_idx10 rfl (idx_dgs hil2 cb bb ob w')⟩) hS ?_
      simp only [Act.put, lsA, lsZ, lsS]
      refine take_at (i := 20) 36 (v := .pointer (some ⟨bb, ob + i * 10 + 1, none⟩)) rfl rfl (by kernel_rfl) (by kernel_rfl) (by kernel_rfl) (fun _ _ _ h => h) (Or.inl ⟨by rfl, fun w' hw' => by go_simp⟩) hS ?_
      simp only [Act.put, lsA, lsZ, lsS]
      refine take_at (i := 21) 37 (v := .agg #[.int .i64 (y.f 0), .int .i64 (y.f 1), .int .i64 (y.f 2), .int .i64 (y.f 3), .int .i64 (y.f 4), .int .i64 (y.f 5), .int .i64 (y.f 6), .int .i64 (y.f 7)]) rfl rfl (by kernel_rfl) (by kernel_rfl) (by kernel_rfl) (fun _ _ _ h => h) (Or.inl ⟨by rfl, fun w' hw' => by obtain ⟨k0, k1, k2, k3, k4, k5, k6, k7, k8, k9⟩ := dg10 (cellsX_off hw' HKB.out); go_simp⟩) hS ?_
      simp only [Act.put, lsA, lsZ, lsS]
      refine take_at (i := 22) 38 (v := .bool true) rfl rfl (by kernel_rfl) (by kernel_rfl) (by kernel_rfl) (fun _ _ _ h => h) (Or.inl ⟨by rfl, fun w' hw' => exec_bin10 rfl (by go_simp) ((neq_vec5 x.f y.f w').trans (by rw [hf]; rfl))⟩) hS ?_
      simp only [Act.put, lsA, lsZ, lsS]
      refine take_at (i := 23) 39 (v := .bool true) rfl rfl (by kernel_rfl) (by kernel_rfl) (by kernel_rfl) (fun _ _ _ h => h) (Or.inl ⟨by rfl, fun w' hw' => by go_simp⟩) hS ?_
      simp only [Act.put, lsA, lsZ, lsS]
      refine take_at (i := 24) 40 (v := .bool true) rfl rfl (by kernel_rfl) (by kernel_rfl) (by kernel_rfl) (fun _ _ _ h => h) (Or.inl ⟨by rfl, fun w' hw' => by go_simp⟩) hS ?_
      simp only [Act.put, lsA, lsZ, lsS]
      refine take_at (i := 25) 41 (v := undef) rfl rfl (by kernel_rfl) (by kernel_rfl) (by kernel_rfl) (fun _ _ _ h => h) (Or.inr ⟨by rfl, rfl⟩) hS ?_
      simp only [Act.put, lsA, lsZ, lsS]
      refine take_at (i := 26) 42 (v := undef) rfl rfl (by kernel_rfl) (by kernel_rfl) (by kernel_rfl) (fun _ _ _ h => h) (Or.inr ⟨by rfl, rfl⟩) hS ?_
      simp only [Act.put, lsA, lsZ, lsS]
      refine take_at (i := 27) 43 (v := undef) rfl rfl (by kernel_rfl) (by kernel_rfl) (by kernel_rfl) (fun _ _ _ h => h) (Or.inr ⟨by rfl, rfl⟩) hS ?_
      simp only [Act.put, lsA, lsZ, lsS]
      refine take_at (i := 28) 44 (v := undef) rfl rfl (by kernel_rfl) (by kernel_rfl) (by kernel_rfl) (fun _ _ _ h => h) (Or.inr ⟨by rfl, rfl⟩) hS ?_
      simp only [Act.put, lsA, lsZ, lsS]
      refine take_at (i := 29) 45 (v := undef) rfl rfl (by kernel_rfl) (by kernel_rfl) (by kernel_rfl) (fun _ _ _ h => h) (Or.inr ⟨by rfl, rfl⟩) hS ?_
      simp only [Act.put, lsA, lsZ, lsS]
      refine take_at (i := 30) 46 (v := undef) rfl rfl (by kernel_rfl) (by kernel_rfl) (by kernel_rfl) (fun _ _ _ h => h) (Or.inr ⟨by rfl, rfl⟩) hS ?_
      simp only [Act.put, lsA, lsZ, lsS]
      refine take_at (i := 31) 47 (v := undef) rfl rfl (by kernel_rfl) (by kernel_rfl) (by kernel_rfl) (fun _ _ _ h => h) (Or.inr ⟨by rfl, rfl⟩) hS ?_
      simp only [Act.put, lsA, lsZ, lsS]
      refine take_at (i := 32) 48 (v := undef) rfl rfl (by kernel_rfl) (by kernel_rfl) (by kernel_rfl) (fun _ _ _ h => h) (Or.inr ⟨by rfl, rfl⟩) hS ?_
      simp only [Act.put, lsA, lsZ, lsS]
      refine take_at (i := 33) 49 (v := undef) rfl rfl (by kernel_rfl) (by kernel_rfl) (by kernel_rfl) (fun _ _ _ h => h) (Or.inr ⟨by rfl, rfl⟩) hS ?_
      simp only [Act.put, lsA, lsZ, lsS]
      refine take_at (i := 34) 50 (v := undef) rfl rfl (by kernel_rfl) (by kernel_rfl) (by kernel_rfl) (fun _ _ _ h => h) (Or.inr ⟨by rfl, rfl⟩) hS ?_
      simp only [Act.put, lsA, lsZ, lsS]
      refine take_at (i := 35) 51 (v := undef) rfl rfl (by kernel_rfl) (by kernel_rfl) (by kernel_rfl) (fun _ _ _ h => h) (Or.inr ⟨by rfl, rfl⟩) hS ?_
      simp only [Act.put, lsA, lsZ, lsS]
      refine take_at (i := 36) 52 (v := undef) rfl rfl (by kernel_rfl) (by kernel_rfl) (by kernel_rfl) (fun _ _ _ h => h) (Or.inr ⟨by rfl, rfl⟩) hS ?_
      simp only [Act.put, lsA, lsZ, lsS]
      refine take_at (i := 37) 53 (v := .bool true) rfl rfl (by kernel_rfl) (by kernel_rfl) (by kernel_rfl) (fun _ _ _ h => h) (Or.inl ⟨by rfl, fun w' hw' => by go_simp⟩) hS ?_
      simp only [Act.put, lsA, lsZ, lsS]
      refine wpAnyH_done (by kernel_rfl) ?_ _
      have HO9 : Hid _ := hS
      clear hS
      go_wp2_with fail
      go_ret
      exact ⟨false, rfl, ⟨fun h => (by cases h), fun h => absurd h (map_apart HX.out HY.out HNF.out)⟩, HO9.out⟩
     ·by_cases hd : x.ds.map id = y.ds.map id
      ·have HNF : Hid (nG x = nG y) := nG_iff.2 ⟨hk, hf, by simpa using hd⟩
       refine wp_region_held_drew (S := Off (fun _ => False) w) (by kernel_rfl) HO.out.drew (fun hS => ?_)
       refine take_at (i := 0) 16 (v := .slice (some ⟨ba, oa, none⟩) xs.length ca) rfl rfl (by kernel_rfl) (by kernel_rfl) (by kernel_rfl) (fun _ _ _ h => h) (Or.inl ⟨by rfl, fun w' hw' => by go_simp⟩) hS ?_
       simp only [Act.put, lsA, lsZ, lsS]
       refine take_at (i := 1) 17 (v := .int .i64 (i : Int)) rfl rfl (by kernel_rfl) (by kernel_rfl) (by kernel_rfl) (fun _ _ _ h => h) (Or.inl ⟨by rfl, fun w' hw' => by go_simp⟩) hS ?_
       simp only [Act.put, lsA, lsZ, lsS]
       refine take_at (i := 2) 18 (v := .pointer (some ⟨ba, oa + i * 10, none⟩)) rfl rfl (by kernel_rfl) (by kernel_rfl) (by kernel_rfl) (fun _ _ _ h => h) (Or.inl ⟨by rfl, fun w' hw' => exec_idx10 rfl (idx_dgs hil ca ba oa w')⟩) hS ?_
       simp only [Act.put, lsA, lsZ, lsS]
       refine take_at (i := 3) 19 (v := .pointer (some ⟨ba, oa + i * 10, none⟩)) rfl rfl (by kernel_rfl) (by kernel_rfl) (by kernel_rfl) (fun _ _ _ h => h) (Or.inl ⟨by rfl, fun w' hw' => by go_simp⟩) hS ?_
       simp only [Act.put, lsA, lsZ, lsS]
       refine take_at (i := 4) 20 (v := .string x.key) rfl rfl (by kernel_rfl) (by kernel_rfl) (by kernel_rfl) (fun _ _ _ h => h) (Or.inl ⟨by rfl, fun w' hw' => by obtain ⟨k0, k1, k2, k3, k4, k5, k6, k7, k8, k9⟩ := dg10 (cellsX_off hw' HKA.out); go_simp⟩) hS ?_
       simp only [Act.put, lsA, lsZ, lsS]
       refine take_at (i := 5) 21 (v := .slice (some ⟨bb, ob, none⟩) ys.length cb) rfl rfl (by kernel_rfl) (by kernel_rfl) (by kernel_rfl) (fun _ _ _ h => h) (Or.inl ⟨by rfl, fun w' hw' => by go_simp⟩) hS ?_
       simp only [Act.put, lsA, lsZ, lsS]
       refine take_at (i := 6) 22 (v := .int .i64 (i : Int)) rfl rfl (by kernel_rfl) (by kernel_rfl) (by kernel_rfl) (fun _ _ _ h => h) (Or.inl ⟨by rfl, fun w' hw' => by go_simp⟩) hS ?_
       simp only [Act.put, lsA, lsZ, lsS]
       refine take_at (i := 7) 23 (v := .pointer (some ⟨bb, ob + i * 10, none⟩)) rfl rfl (by kernel_rfl) (by kernel_rfl) (by kernel_rfl) (fun _ _ _ h => h) (Or.inl ⟨by rfl, fun w' hw' => exec_idx10 rfl (idx_dgs hil2 cb bb ob w')⟩) hS ?_
       simp only [Act.put, lsA, lsZ, lsS]
       refine take_at (i := 8) 24 (v := .pointer (some ⟨bb, ob + i * 10, none⟩)) rfl rfl (by kernel_rfl) (by kernel_rfl) (by kernel_rfl) (fun _ _ _ h => h) (Or.inl ⟨by rfl, fun w' hw' => by go_simp⟩) hS ?_
       simp only [Act.put, lsA, lsZ, lsS]
       refine take_at (i := 9) 25 (v := .string y.key) rfl rfl (by kernel_rfl) (by kernel_rfl) (by kernel_rfl) (fun _ _ _ h => h) (Or.inl ⟨by rfl, fun w' hw' => by obtain ⟨k0, k1, k2, k3, k4, k5, k6, k7, k8, k9⟩ := dg10 (cellsX_off hw' HKB.out); go_simp⟩) hS ?_
       simp only [Act.put, lsA, lsZ, lsS]
       refine take_at (i := 10) 26 (v := .bool false) rfl rfl (by kernel_rfl) (by kernel_rfl) (by kernel_rfl) (fun _ _ _ h => h) (Or.inl ⟨by rfl, fun w' hw' => exec_bin10 rfl (by go_simp) (neq_str_same hk w')⟩) hS ?_
       simp only [Act.put, lsA, lsZ, lsS]
       refine take_at (i := 11) 27 (v := .bool false) rfl rfl (by kernel_rfl) (by kernel_rfl) (by kernel_rfl) (fun _ _ _ h => h) (Or.inl ⟨by rfl, fun w' hw' => by go_simp⟩) hS ?_
       simp only [Act.put, lsA, lsZ, lsS]
       refine take_at (i := 12) 28 (v := .slice (some ⟨ba, oa, none⟩) xs.length ca) rfl rfl (by kernel_rfl) (by kernel_rfl) (by kernel_rfl) (fun _ _ _ h => h) (Or.inl ⟨by rfl, fun w' hw' => by go_simp⟩) hS ?_
       simp only [Act.put, lsA, lsZ, lsS]
       refine take_at (i := 13) 29 (v := .int .i64 (i : Int)) rfl rfl (by kernel_rfl) (by kernel_rfl) (by kernel_rfl) (fun _ _ _ h => h) (Or.inl ⟨by rfl, fun w' hw' => by go_simp⟩) hS ?_
       simp only [Act.put, lsA, lsZ, lsS]
       refine take_at (i := 14) 30 (v := .pointer (some ⟨ba, oa + i * 10, none⟩)) rfl rfl (by kernel_rfl) (by kernel_rfl) (by kernel_rfl) (fun _ _ _ h => h) (Or.inl ⟨by rfl, fun w' hw' => exec_idx10 rfl (idx_dgs hil ca ba oa w')⟩) hS ?_
       simp only [Act.put, lsA, lsZ, lsS]
       refine take_at (i := 15) 31 (v := .pointer (some ⟨ba, oa + i * 10 + 1, none⟩)) rfl rfl (by kernel_rfl) (by kernel_rfl) (by kernel_rfl) (fun _ _ _ h => h) (Or.inl ⟨by rfl, fun w' hw' => by go_simp⟩) hS ?_
       simp only [Act.put, lsA, lsZ, lsS]
       refine take_at (i := 16) 32 (v := .agg #[.int .i64 (x.f 0), .int .i64 (x.f 1), .int .i64 (x.f 2), .int .i64 (x.f 3), .int .i64 (x.f 4), .int .i64 (x.f 5), .int .i64 (x.f 6), .int .i64 (x.f 7)]) rfl rfl (by kernel_rfl) (by kernel_rfl) (by kernel_rfl) (fun _ _ _ h => h) (Or.inl ⟨by rfl, fun w' hw' => by obtain ⟨k0, k1, k2, k3, k4, k5, k6, k7, k8, k9⟩ := dg10 (cellsX_off hw' HKA.out); go_simp⟩) hS ?_
       simp only [Act.put, lsA, lsZ, lsS]
       refine take_at (i := 17) 33 (v := .slice (some ⟨bb, ob, none⟩) ys.length cb) rfl rfl (by kernel_rfl) (by kernel_rfl) (by kernel_rfl) (fun _ _ _ h => h) (Or.inl ⟨by rfl, fun w' hw' => by go_simp⟩) hS ?_
       simp only [Act.put, lsA, lsZ, lsS]
       refine take_at (i := 18) 34 (v := .int .i64 (i : Int)) rfl rfl (by kernel_rfl) (by kernel_rfl) (by kernel_rfl) (fun _ _ _ h => h) (Or.inl ⟨by rfl, fun w' hw' => by go_simp⟩) hS ?_
       simp only [Act.put, lsA, lsZ, lsS]
       refine take_at (i := 19) 35 (v := .pointer (some ⟨bb, ob + i * 10, none⟩)) rfl rfl (by kernel_rfl) (by kernel_rfl) (by kernel_rfl) (fun _ _ _ h => h) (Or.inl ⟨by rfl, fun w' hw' => exec_idx10 rfl (idx_dgs hil2 cb bb ob w')⟩) hS ?_
       simp only [Act.put, lsA, lsZ, lsS]
       refine take_at (i := 20) 36 (v := .pointer (some ⟨bb, ob + i * 10 + 1, none⟩)) rfl rfl (by kernel_rfl) (by kernel_rfl) (by kernel_rfl) (fun _ _ _ h => h) (Or.inl ⟨by rfl, fun w' hw' => by go_simp⟩) hS ?_
       simp only [Act.put, lsA, lsZ, lsS]
       refine take_at (i := 21) 37 (v := .agg #[.int .i64 (y.f 0), .int .i64 (y.f 1), .int .i64 (y.f 2), .int .i64 (y.f 3), .int .i64 (y.f 4), .int .i64 (y.f 5), .int .i64 (y.f 6), .int .i64 (y.f 7)]) rfl rfl (by kernel_rfl) (by kernel_rfl) (by kernel_rfl) (fun _ _ _ h => h) (Or.inl ⟨by rfl, fun w' hw' => by obtain ⟨k0, k1, k2, k3, k4, k5, k6, k7, k8, k9⟩ := dg10 (cellsX_off hw' HKB.out); go_simp⟩) hS ?_
       simp only [Act.put, lsA, lsZ, lsS]
       refine take_at (i := 22) 38 (v := .bool false) rfl rfl (by kernel_rfl) (by kernel_rfl) (by kernel_rfl) (fun _ _ _ h => h) (Or.inl ⟨by rfl, fun w' hw' => exec_bin10 rfl (by go_simp) ((neq_vec5 x.f y.f w').trans (by rw [hf]; rfl))⟩) hS ?_
       simp only [Act.put, lsA, lsZ, lsS]
       refine take_at (i := 23) 39 (v := .bool false) rfl rfl (by kernel_rfl) (by kernel_rfl) (by kernel_rfl) (fun _ _ _ h => h) (Or.inl ⟨by rfl, fun w' hw' => by go_simp⟩) hS ?_
       simp only [Act.put, lsA, lsZ, lsS]
       refine take_at (i := 24) 40 (v := .bool false) rfl rfl (by kernel_rfl) (by kernel_rfl) (by kernel_rfl) (fun _ _ _ h => h) (Or.inl ⟨by rfl, fun w' hw' => by go_simp⟩) hS ?_
       simp only [Act.put, lsA, lsZ, lsS]
       refine take_at (i := 25) 41 (v := .slice (some ⟨ba, oa, none⟩) xs.length ca) rfl rfl (by kernel_rfl) (by kernel_rfl) (by kernel_rfl) (fun _ _ _ h => h) (Or.inl ⟨by rfl, fun w' hw' => by go_simp⟩) hS ?_
       simp only [Act.put, lsA, lsZ, lsS]
       refine take_at (i := 26) 42 (v := .int .i64 (i : Int)) rfl rfl (by kernel_rfl) (by kernel_rfl) (by kernel_rfl) (fun _ _ _ h => h) (Or.inl ⟨by rfl, fun w' hw' => by go_simp⟩) hS ?_
       simp only [Act.put, lsA, lsZ, lsS]
       refine take_at (i := 27) 43 (v := .pointer (some ⟨ba, oa + i * 10, none⟩)) rfl rfl (by kernel_rfl) (by kernel_rfl) (by kernel_rfl) (fun _ _ _ h => h) (Or.inl ⟨by rfl, fun w' hw' => exec_idx10 rfl (idx_dgs hil ca ba oa w')⟩) hS ?_
       simp only [Act.put, lsA, lsZ, lsS]
       refine take_at (i := 28) 44 (v := .pointer (some ⟨ba, oa + i * 10 + 9, none⟩)) rfl rfl (by kernel_rfl) (by kernel_rfl) (by kernel_rfl) (fun _ _ _ h => h) (Or.inl ⟨by rfl, fun w' hw' => by go_simp⟩) hS ?_
       simp only [Act.put, lsA, lsZ, lsS]
       refine take_at (i := 29) 45 (v := .slice x.a x.ds.length x.cap) rfl rfl (by kernel_rfl) (by kernel_rfl) (by kernel_rfl) (fun _ _ _ h => h) (Or.inl ⟨by rfl, fun w' hw' => by obtain ⟨k0, k1, k2, k3, k4, k5, k6, k7, k8, k9⟩ := dg10 (cellsX_off hw' HKA.out); go_simp⟩) hS ?_
       simp only [Act.put, lsA, lsZ, lsS]
       refine take_at (i := 30) 46 (v := .slice (some ⟨bb, ob, none⟩) ys.length cb) rfl rfl (by kernel_rfl) (by kernel_rfl) (by kernel_rfl) (fun _ _ _ h => h) (Or.inl ⟨by rfl, fun w' hw' => by go_simp⟩) hS ?_
       simp only [Act.put, lsA, lsZ, lsS]
       refine take_at (i := 31) 47 (v := .int .i64 (i : Int)) rfl rfl (by kernel_rfl) (by kernel_rfl) (by kernel_rfl) (fun _ _ _ h => h) (Or.inl ⟨by rfl, fun w' hw' => by go_simp⟩) hS ?_
       simp only [Act.put, lsA, lsZ, lsS]
       refine take_at (i := 32) 48 (v := .pointer (some ⟨bb, ob + i * 10, none⟩)) rfl rfl (by kernel_rfl) (by kernel_rfl) (by kernel_rfl) (fun _ _ _ h => h) (Or.inl ⟨by rfl, fun w' hw' => exec_idx10 rfl (idx_dgs hil2 cb bb ob w')⟩) hS ?_
       simp only [Act.put, lsA, lsZ, lsS]
       refine take_at (i := 33) 49 (v := .pointer (some ⟨bb, ob + i * 10 + 9, none⟩)) rfl rfl (by kernel_rfl) (by kernel_rfl) (by kernel_rfl) (fun _ _ _ h => h) (Or.inl ⟨by rfl, fun w' hw' => by go_simp⟩) hS ?_
       simp only [Act.put, lsA, lsZ, lsS]
       refine take_at (i := 34) 50 (v := .slice y.a y.ds.length y.cap) rfl rfl (by kernel_rfl) (by kernel_rfl) (by kernel_rfl) (fun _ _ _ h => h) (Or.inl ⟨by rfl, fun w' hw' => by obtain ⟨k0, k1, k2, k3, k4, k5, k6, k7, k8, k9⟩ := dg10 (cellsX_off hw' HKB.out); go_simp⟩) hS ?_
       simp only [Act.put, lsA, lsZ, lsS]
       refine wpAnyH_ready (rs := [35]) (by kernel_rfl) (by simp) ?_
       refine AllReadyH.cons rfl (fun K' hK' => ?_) AllReadyH.nil
       go_simp
       have rx := HRX.out.off hS
       have ry := HRY.out.off hS
       refine (sdots_dec x.a y.a x.cap y.cap x.ds y.ds _ rx ry).mono ?_
       rintro e0 w3 ⟨bb9, rfl, h9, o3⟩
       obtain rfl : bb9 = true := by cases bb9 <;> simp_all
       refine hK'.out _ _ (hS.trans o3 (fun _ _ h => h)) (fun hS => ?_)
       clear hK' K' rx ry o3 h9
       refine take_at (i := 36) 52 (v := .bool false) rfl rfl (by kernel_rfl) (by kernel_rfl) (by kernel_rfl) (fun _ _ _ h => h) (Or.inl ⟨by rfl, fun w' hw' => by go_simp⟩) hS ?_
       simp only [Act.put, lsA, lsZ, lsS]
       refine take_at (i := 37) 53 (v := .bool false) rfl rfl (by kernel_rfl) (by kernel_rfl) (by kernel_rfl) (fun _ _ _ h => h) (Or.inl ⟨by rfl, fun w' hw' => by go_simp⟩) hS ?_
       simp only [Act.put, lsA, lsZ, lsS]
       refine wpAnyH_done (by kernel_rfl) ?_ _
       have HO9 : Hid _ := hS
       clear hS
       go_wp2_with fail
       go_roundw
       case rel => exact ⟨i + 1, by go_num, by omega, take_map_step HM.out HX.out HY.out HNF.out, HO9.out⟩
       case measure => simp [intOf]; omega
      ·have HNF : Hid (nG x ≠ nG y) := fun e => hd (by rw [(nG_iff.1 e).2.2])
       refine wp_region_held_drew (S := Off (fun _ => False) w) (by kernel_rfl) HO.out.drew (fun hS => ?_)
       refine take_at (i := 0) 16 (v := .slice (some ⟨ba, oa, none⟩) xs.length ca) rfl rfl (by kernel_rfl) (by kernel_rfl) (by kernel_rfl) (fun _ _ _ h => h) (Or.inl ⟨by rfl, fun w' hw' => by go_simp⟩) hS ?_
       simp only [Act.put, lsA, lsZ, lsS]
       refine take_at (i := 1) 17 (v := .int .i64 (i : Int)) rfl rfl (by kernel_rfl) (by kernel_rfl) (by kernel_rfl) (fun _ _ _ h => h) (Or.inl ⟨by rfl, fun w' hw' => by go_simp⟩) hS ?_
       simp only [Act.put, lsA, lsZ, lsS]
       refine take_at (i := 2) 18 (v := .pointer (some ⟨ba, oa + i * 10, none⟩)) rfl rfl (by kernel_rfl) (by kernel_rfl) (by kernel_rfl) (fun _ _ _ h => h) (Or.inl ⟨by rfl, fun w' hw' => exec_idx10 rfl (idx_dgs hil ca ba oa w')⟩) hS ?_
       simp only [Act.put, lsA, lsZ, lsS]
       refine take_at (i := 3) 19 (v := .pointer (some ⟨ba, oa + i * 10, none⟩)) rfl rfl (by kernel_rfl) (by kernel_rfl) (by kernel_rfl) (fun _ _ _ h => h) (Or.inl ⟨by rfl, fun w' hw' => by go_simp⟩) hS ?_
       simp only [Act.put, lsA, lsZ, lsS]
       refine take_at (i := 4) 20 (v := .string x.key) rfl rfl (by kernel_rfl) (by kernel_rfl) (by kernel_rfl) (fun _ _ _ h => h) (Or.inl ⟨by rfl, fun w' hw' => by obtain ⟨k0, k1, k2, k3, k4, k5, k6, k7, k8, k9⟩ := dg10 (cellsX_off hw' HKA.out); go_simp⟩) hS ?_
       simp only [Act.put, lsA, lsZ, lsS]
       refine take_at (i := 5) 21 (v := .slice (some ⟨bb, ob, none⟩) ys.length cb) rfl rfl (by kernel_rfl) (by kernel_rfl) (by kernel_rfl) (fun _ _ _ h => h) (Or.inl ⟨by rfl, fun w' hw' => by go_simp⟩) hS ?_
       simp only [Act.put, lsA, lsZ, lsS]
       refine take_at (i := 6) 22 (v := .int .i64 (i : Int)) rfl rfl (by kernel_rfl) (by kernel_rfl) (by kernel_rfl) (fun _ _ _ h => h) (Or.inl ⟨by rfl, fun w' hw' => by go_simp⟩) hS ?_
       simp only [Act.put, lsA, lsZ, lsS]
       refine take_at (i := 7) 23 (v := .pointer (some ⟨bb, ob + i * 10, none⟩)) rfl rfl (by kernel_rfl) (by kernel_rfl) (by kernel_rfl) (fun _ _ _ h => h) (Or.inl ⟨by rfl, fun w' hw' => exec_idx10 rfl (idx_dgs hil2 cb bb ob w')⟩) hS ?_
       simp only [Act.put, lsA, lsZ, lsS]
       refine take_at (i := 8) 24 (v := .pointer (some ⟨bb, ob + i * 10, none⟩)) rfl rfl (by kernel_rfl) (by kernel_rfl) (by kernel_rfl) (fun _ _ _ h => h) (Or.inl ⟨by rfl, fun w' hw' => by go_simp⟩) hS ?_
       simp only [Act.put, lsA, lsZ, lsS]
       refine take_at (i := 9) 25 (v := .string y.key) rfl rfl (by kernel_rfl) (by kernel_rfl) (by kernel_rfl) (fun _ _ _ h => h) (Or.inl ⟨by rfl, fun w' hw' => by obtain ⟨k0, k1, k2, k3, k4, k5, k6, k7, k8, k9⟩ := dg10 (cellsX_off hw' HKB.out); go_simp⟩) hS ?_
       simp only [Act.put, lsA, lsZ, lsS]
       refine take_at (i := 10) 26 (v := .bool false) rfl rfl (by kernel_rfl) (by kernel_rfl) (by kernel_rfl) (fun _ _ _ h => h) (Or.inl ⟨by rfl, fun w' hw' => exec_bin10 rfl (by go_simp) (neq_str_same hk w')⟩) hS ?_
       simp only [Act.put, lsA, lsZ, lsS]
       refine take_at (i := 11) 27 (v := .bool false) rfl rfl (by kernel_rfl) (by kernel_rfl) (by kernel_rfl) (fun _ _ _ h => h) (Or.inl ⟨by rfl, fun w' hw' => by go_simp⟩) hS ?_
       simp only [Act.put, lsA, lsZ, lsS]
       refine take_at (i := 12) 28 (v := .slice (some ⟨ba, oa, none⟩) xs.length ca) rfl rfl (by kernel_rfl) (by kernel_rfl) (by kernel_rfl) (fun _ _ _ h => h) (Or.inl ⟨by rfl, fun w' hw' => by go_simp⟩) hS ?_
       simp only [Act.put, lsA, lsZ, lsS]
       refine take_at (i := 13) 29 (v := .int .i64 (i : Int)) rfl rfl (by kernel_rfl) (by kernel_rfl) (by kernel_rfl) (fun _ _ _ h => h) (Or.inl ⟨by rfl, fun w' hw' => by go_simp⟩) hS ?_
       simp only [Act.put, lsA, lsZ, lsS]
       refine take_at (i := 14) 30 (v := .pointer (some ⟨ba, oa + i * 10, none⟩)) rfl rfl (by kernel_rfl) (by kernel_rfl) (by kernel_rfl) (fun _ _ _ h => h) (Or.inl ⟨by rfl, fun w' hw' => exec_idx10 rfl (idx_dgs hil ca ba oa w')⟩) hS ?_
       simp only [Act.put, lsA, lsZ, lsS]
       refine take_at (i := 15) 31 (v := .pointer (some ⟨ba, oa + i * 10 + 1, none⟩)) rfl rfl (by kernel_rfl) (by kernel_rfl) (by kernel_rfl) (fun _ _ _ h => h) (Or.inl ⟨by rfl, fun w' hw' => by go_simp⟩) hS ?_
       simp only [Act.put, lsA, lsZ, lsS]
       refine take_at (i := 16) 32 (v := .agg #[.int .i64 (x.f 0), .int .i64 (x.f 1), .int .i64 (x.f 2), .int .i64 (x.f 3), .int .i64 (x.f 4), .int .i64 (x.f 5), .int .i64 (x.f 6), .int .i64 (x.f 7)]) rfl rfl (by kernel_rfl) (by kernel_rfl) (by kernel_rfl) (fun _ _ _ h => h) (Or.inl ⟨by rfl, fun w' hw' => by obtain ⟨k0, k1, k2, k3, k4, k5, k6, k7, k8, k9⟩ := dg10 (cellsX_off hw' HKA.out); go_simp⟩) hS ?_
       simp only [Act.put, lsA, lsZ, lsS]
       refine take_at (i := 17) 33 (v := .slice (some ⟨bb, ob, none⟩) ys.length cb) rfl rfl (by kernel_rfl) (by kernel_rfl) (by kernel_rfl) (fun _ _ _ h => h) (Or.inl ⟨by rfl, fun w' hw' => by go_simp⟩) hS ?_
       simp only [Act.put, lsA, lsZ, lsS]
       refine take_at (i := 18) 34 (v := .int .i64 (i : Int)) rfl rfl (by kernel_rfl) (by kernel_rfl) (by kernel_rfl) (fun _ _ _ h => h) (Or.inl ⟨by rfl, fun w' hw' => by go_simp⟩) hS ?_
       simp only [Act.put, lsA, lsZ, lsS]
       refine take_at (i := 19) 35 (v := .pointer (some ⟨bb, ob + i * 10, none⟩)) rfl rfl (by kernel_rfl) (by kernel_rfl) (by kernel_rfl) (fun _ _ _ h => h) (Or.inl ⟨by rfl, fun w' hw' => exec_idx10 rfl (idx_dgs hil2 cb bb ob w')⟩) hS ?_
       simp only [Act.put, lsA, lsZ, lsS]
       refine take_at (i := 20) 36 (v := .pointer (some ⟨bb, ob + i * 10 + 1, none⟩)) rfl rfl (by kernel_rfl) (by kernel_rfl) (by kernel_rfl) (fun _ _ _ h => h) (Or.inl ⟨by rfl, fun w' hw' => by go_simp⟩) hS ?_
       simp only [Act.put, lsA, lsZ, lsS]
       refine take_at (i := 21) 37 (v := .agg #[.int .i64 (y.f 0), .int .i64 (y.f 1), .int .i64 (y.f 2), .int .i64 (y.f 3), .int .i64 (y.f 4), .int .i64 (y.f 5), .int .i64 (y.f 6), .int .i64 (y.f 7)]) rfl rfl (by kernel_rfl) (by kernel_rfl) (by kernel_rfl) (fun _ _ _ h => h) (Or.inl ⟨by rfl, fun w' hw' => by obtain ⟨k0, k1, k2, k3, k4, k5, k6, k7, k8, k9⟩ := dg10 (cellsX_off hw' HKB.out); go_simp⟩) hS ?_
       simp only [Act.put, lsA, lsZ, lsS]
       refine take_at (i := 22) 38 (v := .bool false) rfl rfl (by kernel_rfl) (by kernel_rfl) (by kernel_rfl) (fun _ _ _ h => h) (Or.inl ⟨by rfl, fun w' hw' => exec_bin10 rfl (by go_simp) ((neq_vec5 x.f y.f w').trans (by rw [hf]; rfl))⟩) hS ?_
       simp only [Act.put, lsA, lsZ, lsS]
       refine take_at (i := 23) 39 (v := .bool false) rfl rfl (by kernel_rfl) (by kernel_rfl) (by kernel_rfl) (fun _ _ _ h => h) (Or.inl ⟨by rfl, fun w' hw' => by go_simp⟩) hS ?_
       simp only [Act.put, lsA, lsZ, lsS]
       refine take_at (i := 24) 40 (v := .bool false) rfl rfl (by kernel_rfl) (by kernel_rfl) (by kernel_rfl) (fun _ _ _ h => h) (Or.inl ⟨by rfl, fun w' hw' => by go_simp⟩) hS ?_
       simp only [Act.put, lsA, lsZ, lsS]
       refine take_at (i := 25) 41 (v := .slice (some ⟨ba, oa, none⟩) xs.length ca) rfl rfl (by kernel_rfl) (by kernel_rfl) (by kernel_rfl) (fun _ _ _ h => h) (Or.inl ⟨by rfl, fun w' hw' => by go_simp⟩) hS ?_
       simp only [Act.put, lsA, lsZ, lsS]
       refine take_at (i := 26) 42 (v := .int .i64 (i : Int)) rfl rfl (by kernel_rfl) (by kernel_rfl) (by kernel_rfl) (fun _ _ _ h => h) (Or.inl ⟨by rfl, fun w' hw' => by go_simp⟩) hS ?_
       simp only [Act.put, lsA, lsZ, lsS]
       refine take_at (i := 27) 43 (v := .pointer (some ⟨ba, oa + i * 10, none⟩)) rfl rfl (by kernel_rfl) (by kernel_rfl) (by kernel_rfl) (fun _ _ _ h => h) (Or.inl ⟨by rfl, fun w' hw' => exec_idx10 rfl (idx_dgs hil ca ba oa w')⟩) hS ?_
       simp only [Act.put, lsA, lsZ, lsS]
       refine take_at (i := 28) 44 (v := .pointer (some ⟨ba, oa + i * 10 + 9, none⟩)) rfl rfl (by kernel_rfl) (by kernel_rfl) (by kernel_rfl) (fun _ _ _ h => h) (Or.inl ⟨by rfl, fun w' hw' => by go_simp⟩) hS ?_
       simp only [Act.put, lsA, lsZ, lsS]
       refine take_at (i := 29) 45 (v := .slice x.a x.ds.length x.cap) rfl rfl (by kernel_rfl) (by kernel_rfl) (by kernel_rfl) (fun _ _ _ h => h) (Or.inl ⟨by rfl, fun w' hw' => by obtain ⟨k0, k1, k2, k3, k4, k5, k6, k7, k8, k9⟩ := dg10 (cellsX_off hw' HKA.out); go_simp⟩) hS ?_
       simp only [Act.put, lsA, lsZ, lsS]
       refine take_at (i := 30) 46 (v := .slice (some ⟨bb, ob, none⟩) ys.length cb) rfl rfl (by kernel_rfl) (by kernel_rfl) (by kernel_rfl) (fun _ _ _ h => h) (Or.inl ⟨by rfl, fun w' hw' => by go_simp⟩) hS ?_
       simp only [Act.put, lsA, lsZ, lsS]
       refine take_at (i := 31) 47 (v := .int .i64 (i : Int)) rfl rfl (by kernel_rfl) (by kernel_rfl) (by kernel_rfl) (fun _ _ _ h => h) (Or.inl ⟨by rfl, fun w' hw' => by go_simp⟩) hS ?_
       simp only [Act.put, lsA, lsZ, lsS]
       refine take_at (i := 32) 48 (v := .pointer (some ⟨bb, ob + i * 10, none⟩)) rfl rfl (by kernel_rfl) (by kernel_rfl) (by kernel_rfl) (fun _ _ _ h => h) (Or.inl ⟨by rfl, fun w' hw' => exec_idx10 rfl (idx_dgs hil2 cb bb ob w')⟩) hS ?_
       simp only [Act.put, lsA, lsZ, lsS]
       refine take_at (i := 33) 49 (v := .pointer (some ⟨bb, ob + i * 10 + 9, none⟩)) rfl rfl (by kernel_rfl) (by kernel_rfl) (by kernel_rfl) (fun _ _ _ h => h) (Or.inl ⟨by rfl, fun w' hw' => by go_simp⟩) hS ?_
       simp only [Act.put, lsA, lsZ, lsS]
       refine take_at (i := 34) 50 (v := .slice y.a y.ds.length y.cap) rfl rfl (by kernel_rfl) (by kernel_rfl) (by kernel_rfl) (fun _ _ _ h => h) (Or.inl ⟨by rfl, fun w' hw' => by obtain ⟨k0, k1, k2, k3, k4, k5, k6, k7, k8, k9⟩ := dg10 (cellsX_off hw' HKB.out); go_simp⟩) hS ?_
       simp only [Act.put, lsA, lsZ, lsS]
       refine wpAnyH_ready (rs := [35]) (by kernel_rfl) (by simp) ?_
       refine AllReadyH.cons rfl (fun K' hK' => ?_) AllReadyH.nil
       go_simp
       have rx := HRX.out.off hS
       have ry := HRY.out.off hS
       refine (sdots_dec x.a y.a x.cap y.cap x.ds y.ds _ rx ry).mono ?_
       rintro e0 w3 ⟨bb9, rfl, h9, o3⟩
       obtain rfl : bb9 = false := by cases bb9 <;> simp_all
       refine hK'.out _ _ (hS.trans o3 (fun _ _ h => h)) (fun hS => ?_)
       clear hK' K' rx ry o3 h9
       refine take_at (i := 36) 52 (v := .bool true) rfl rfl (by kernel_rfl) (by kernel_rfl) (by kernel_rfl) (fun _ _ _ h => h) (Or.inl ⟨by rfl, fun w' hw' => by go_simp⟩) hS ?_
       simp only [Act.put, lsA, lsZ, lsS]
       refine take_at (i := 37) 53 (v := .bool true) rfl rfl (by kernel_rfl) (by kernel_rfl) (by kernel_rfl) (fun _ _ _ h => h) (Or.inl ⟨by rfl, fun w' hw' => by go_simp⟩) hS ?_
       simp only [Act.put, lsA, lsZ, lsS]
       refine wpAnyH_done (by kernel_rfl) ?_ _
       have HO9 : Hid _ := hS
       clear hS
       go_wp2_with fail
       go_ret
       exact ⟨false, rfl, ⟨fun h => (by cases h), fun h => absurd h (map_apart HX.out HY.out HNF.out)⟩, HO9.out⟩
    ·have HNF : Hid (nG x ≠ nG y) := fun e => hk (nG_iff.1 e).1
     refine wp_region_held_drew (S := Off (fun _ => False) w) (by kernel_rfl) HO.out.drew (fun hS => ?_)
     refine take_at (i := 0) 16 (v := .slice (some ⟨ba, oa, none⟩) xs.length ca) rfl rfl (by kernel_rfl) (by kernel_rfl) (by kernel_rfl) (fun _ _ _ h => h) (Or.inl ⟨by rfl, fun w' hw' => by go_simp⟩) hS ?_
     simp only [Act.put, lsA, lsZ, lsS]
     refine take_at (i := 1) 17 (v := .int .i64 (i : Int)) rfl rfl (by kernel_rfl) (by kernel_rfl) (by kernel_rfl) (fun _ _ _ h => h) (Or.inl ⟨by rfl, fun w' hw' => by go_simp⟩) hS ?_
     simp only [Act.put, lsA, lsZ, lsS]
     refine take_at (i := 2) 18 (v := .pointer (some ⟨ba, oa + i * 10, none⟩)) rfl rfl (by kernel_rfl) (by kernel_rfl) (by kernel_rfl) (fun _ _ _ h => h) (Or.inl ⟨by rfl, fun w' hw' => exec_idx10 rfl (idx_dgs hil ca ba oa w')⟩) hS ?_
     simp only [Act.put, lsA, lsZ, lsS]
     refine take_at (i := 3) 19 (v := .pointer (some ⟨ba, oa + i * 10, none⟩)) rfl rfl (by kernel_rfl) (by kernel_rfl) (by kernel_rfl) (fun _ _ _ h => h) (Or.inl ⟨by rfl, fun w' hw' => by go_simp⟩) hS ?_
     simp only [Act.put, lsA, lsZ, lsS]
     refine take_at (i := 4) 20 (v := .string x.key) rfl rfl (by kernel_rfl) (by kernel_rfl) (by kernel_rfl) (fun _ _ _ h => h) (Or.inl ⟨by rfl, fun w' hw' => by obtain ⟨k0, k1, k2, k3, k4, k5, k6, k7, k8, k9⟩ := dg10 (cellsX_off hw' HKA.out); go_simp⟩) hS ?_
     simp only [Act.put, lsA, lsZ, lsS]
     refine take_at (i := 5) 21 (v := .slice (some ⟨bb, ob, none⟩) ys.length cb) rfl rfl (by kernel_rfl) (by kernel_rfl) (by kernel_rfl) (fun _ _ _ h => h) (Or.inl ⟨by rfl, fun w' hw' => by go_simp⟩) hS ?_
     simp only [Act.put, lsA, lsZ, lsS]
     refine take_at (i := 6) 22 (v := .int .i64 (i : Int)) rfl rfl (by kernel_rfl) (by kernel_rfl) (by kernel_rfl) (fun _ _ _ h => h) (Or.inl ⟨by rfl, fun w' hw' => by go_simp⟩) hS ?_
     simp only [Act.put, lsA, lsZ, lsS]
     refine take_at (i := 7) 23 (v := .pointer (some ⟨bb, ob + i * 10, none⟩)) rfl rfl (by kernel_rfl) (by kernel_rfl) (by kernel_rfl) (fun _ _ _ h => h) (Or.inl ⟨by rfl, fun w' hw' => exec_idx10 rfl (idx_dgs hil2 cb bb ob w')⟩) hS ?_
     simp only [Act.put, lsA, lsZ, lsS]
     refine take_at (i := 8) 24 (v := .pointer (some ⟨bb, ob + i * 10, none⟩)) rfl rfl (by kernel_rfl) (by kernel_rfl) (by kernel_rfl) (fun _ _ _ h => h) (Or.inl ⟨by rfl, fun w' hw' => by go_simp⟩) hS ?_
     simp only [Act.put, lsA, lsZ, lsS]
     refine take_at (i := 9) 25 (v := .string y.key) rfl rfl (by kernel_rfl) (by kernel_rfl) (by kernel_rfl) (fun _ _ _ h => h) (Or.inl ⟨by rfl, fun w' hw' => by obtain ⟨k0, k1, k2, k3, k4, k5, k6, k7, k8, k9⟩ := dg10 (cellsX_off hw' HKB.out); go_simp⟩) hS ?_
     simp only [Act.put, lsA, lsZ, lsS]
     refine take_at (i := 10) 26 (v := .bool true) rfl rfl (by kernel_rfl) (by kernel_rfl) (by kernel_rfl) (fun _ _ _ h => h) (Or.inl ⟨by rfl, fun w' hw' => exec_bin10 rfl (by go_simp) (neq_str_no _ _ hk w')⟩) hS ?_
     simp only [Act.put, lsA, lsZ, lsS]
     refine take_at (i := 11) 27 (v := .bool true) rfl rfl (by kernel_rfl) (by kernel_rfl) (by kernel_rfl) (fun _ _ _ h => h) (Or.inl ⟨by rfl, fun w' hw' => by go_simp⟩) hS ?_
     simp only [Act.put, lsA, lsZ, lsS]
     refine take_at (i := 12) 28 (v := undef) rfl rfl (by kernel_rfl) (by kernel_rfl) (by kernel_rfl) (fun _ _ _ h => h) (Or.inr ⟨by rfl, rfl⟩) hS ?_
     simp only [Act.put, lsA, lsZ, lsS]
     refine take_at (i := 13) 29 (v := undef) rfl rfl (by kernel_rfl) (by kernel_rfl) (by kernel_rfl) (fun _ _ _ h => h) (Or.inr ⟨by rfl, rfl⟩) hS ?_
     simp only [Act.put, lsA, lsZ, lsS]
     refine take_at (i := 14) 30 (v := undef) rfl rfl (by kernel_rfl) (by kernel_rfl) (by kernel_rfl) (fun _ _ _ h => h) (Or.inr ⟨by rfl, rfl⟩) hS ?_
     simp only [Act.put, lsA, lsZ, lsS]
     refine take_at (i := 15) 31 (v := undef) rfl rfl (by kernel_rfl) (by kernel_rfl) (by kernel_rfl) (fun _ _ _ h => h) (Or.inr ⟨by rfl, rfl⟩) hS ?_
     simp only [Act.put, lsA, lsZ, lsS]
     refine take_at (i := 16) 32 (v := undef) rfl rfl (by kernel_rfl) (by kernel_rfl) (by kernel_rfl) (fun _ _ _ h => h) (Or.inr ⟨by rfl, rfl⟩) hS ?_
     simp only [Act.put, lsA, lsZ, lsS]
     refine take_at (i := 17) 33 (v := undef) rfl rfl (by kernel_rfl) (by kernel_rfl) (by kernel_rfl) (fun _ _ _ h => h) (Or.inr ⟨by rfl, rfl⟩) hS ?_
     simp only [Act.put, lsA, lsZ, lsS]
     refine take_at (i := 18) 34 (v := undef) rfl rfl (by kernel_rfl) (by kernel_rfl) (by kernel_rfl) (fun _ _ _ h => h) (Or.inr ⟨by rfl, rfl⟩) hS ?_
     simp only [Act.put, lsA, lsZ, lsS]
     refine take_at (i := 19) 35 (v := undef) rfl rfl (by kernel_rfl) (by kernel_rfl) (by kernel_rfl) (fun _ _ _ h => h) (Or.inr ⟨by rfl, rfl⟩) hS ?_
     simp only [Act.put, lsA, lsZ, lsS]
     refine take_at (i := 20) 36 (v := undef) rfl rfl (by kernel_rfl) (by kernel_rfl) (by kernel_rfl) (fun _ _ _ h => h) (Or.inr ⟨by rfl, rfl⟩) hS ?_
     simp only [Act.put, lsA, lsZ, lsS]
     refine take_at (i := 21) 37 (v := undef) rfl rfl (by kernel_rfl) (by kernel_rfl) (by kernel_rfl) (fun _ _ _ h => h) (Or.inr ⟨by rfl, rfl⟩) hS ?_
     simp only [Act.put, lsA, lsZ, lsS]
     refine take_at (i := 22) 38 (v := undef) rfl rfl (by kernel_rfl) (by kernel_rfl) (by kernel_rfl) (fun _ _ _ h => h) (Or.inr ⟨by rfl, rfl⟩) hS ?_
     simp only [Act.put, lsA, lsZ, lsS]
     refine take_at (i := 23) 39 (v := .bool true) rfl rfl (by kernel_rfl) (by kernel_rfl) (by kernel_rfl) (fun _ _ _ h => h) (Or.inl ⟨by rfl, fun w' hw' => by go_simp⟩) hS ?_
     simp only [Act.put, lsA, lsZ, lsS]
     refine take_at (i := 24) 40 (v := .bool true) rfl rfl (by kernel_rfl) (by kernel_rfl) (by kernel_rfl) (fun _ _ _ h => h) (Or.inl ⟨by rfl, fun w' hw' => by go_simp⟩) hS ?_
     simp only [Act.put, lsA, lsZ, lsS]
     refine take_at (i := 25) 41 (v := undef) rfl rfl (by kernel_rfl) (by kernel_rfl) (by kernel_rfl) (fun _ _ _ h => h) (Or.inr ⟨by rfl, rfl⟩) hS ?_
     simp only [Act.put, lsA, lsZ, lsS]
     refine take_at (i := 26) 42 (v := undef) rfl rfl (by kernel_rfl) (by kernel_rfl) (by kernel_rfl) (fun _ _ _ h => h) (Or.inr ⟨by rfl, rfl⟩) hS ?_
     simp only [Act.put, lsA, lsZ, lsS]
     refine take_at (i := 27) 43 (v := undef) rfl rfl (by kernel_rfl) (by kernel_rfl) (by kernel_rfl) (fun _ _ _ h => h) (Or.inr ⟨by rfl, rfl⟩) hS ?_
     simp only [Act.put, lsA, lsZ, lsS]
     refine take_at (i := 28) 44 (v := undef) rfl rfl (by kernel_rfl) (by kernel_rfl) (by kernel_rfl) (fun _ _ _ h => h) (Or.inr ⟨by rfl, rfl⟩) hS ?_
     simp only [Act.put, lsA, lsZ, lsS]
     refine take_at (i := 29) 45 (v := undef) rfl rfl (by kernel_rfl) (by kernel_rfl) (by kernel_rfl) (fun _ _ _ h => h) (Or.inr ⟨by rfl, rfl⟩) hS ?_
     simp only [Act.put, lsA, lsZ, lsS]
     refine take_at (i := 30) 46 (v := undef) rfl rfl (by kernel_rfl) (by kernel_rfl) (by kernel_rfl) (fun _ _ _ h => h) (Or.inr ⟨by rfl, rfl⟩) hS ?_
     simp only [Act.put, lsA, lsZ, lsS]
     refine take_at (i := 31) 47 (v := undef) rfl rfl (by kernel_rfl) (by kernel_rfl) (by kernel_rfl) (fun _ _ _ h => h) (Or.inr ⟨by rfl, rfl⟩) hS ?_
     simp only [Act.put, lsA, lsZ, lsS]
     refine take_at (i := 32) 48 (v := undef) rfl rfl (by kernel_rfl) (by kernel_rfl) (by kernel_rfl) (fun _ _ _ h => h) (Or.inr ⟨by rfl, rfl⟩) hS ?_
     simp only [Act.put, lsA, lsZ, lsS]
     refine take_at (i := 33) 49 (v := undef) rfl rfl (by kernel_rfl) (by kernel_rfl) (by kernel_rfl) (fun _ _ _ h => h) (Or.inr ⟨by rfl, rfl⟩) hS ?_
     simp only [Act.put, lsA, lsZ, lsS]
     refine take_at (i := 34) 50 (v := undef) rfl rfl (by kernel_rfl) (by kernel_rfl) (by kernel_rfl) (fun _ _ _ h => h) (Or.inr ⟨by rfl, rfl⟩) hS ?_
     simp only [Act.put, lsA, lsZ, lsS]
     refine take_at (i := 35) 51 (v := undef) rfl rfl (by kernel_rfl) (by kernel_rfl) (by kernel_rfl) (fun _ _ _ h => h) (Or.inr ⟨by rfl, rfl⟩) hS ?_
     simp only [Act.put, lsA, lsZ, lsS]
     refine take_at (i := 36) 52 (v := undef) rfl rfl (by kernel_rfl) (by kernel_rfl) (by kernel_rfl) (fun _ _ _ h => h) (Or.inr ⟨by rfl, rfl⟩) hS ?_
     simp only [Act.put, lsA, lsZ, lsS]
     refine take_at (i := 37) 53 (v := .bool true) rfl rfl (by kernel_rfl) (by kernel_rfl) (by kernel_rfl) (fun _ _ _ h => h) (Or.inl ⟨by rfl, fun w' hw' => by go_simp⟩) hS ?_
     simp only [Act.put, lsA, lsZ, lsS]
     refine wpAnyH_done (by kernel_rfl) ?_ _
     have HO9 : Hid _ := hS
     clear hS
     go_wp2_with fail
     go_ret
     exact ⟨false, rfl, ⟨fun h => (by cases h), fun h => absurd h (map_apart HX.out HY.out HNF.out)⟩, HO9.out⟩
   ·obtain rfl : i = xs.length := by omega
    have i1 : decide ((xs.length : Int) < (xs.length : Int)) = false := decide_eq_false (by omega)
    have i2 : decide (xs.length < xs.length) = false := decide_eq_false (by omega)
    go_wp2_with fail
    go_ret
    exact ⟨true, rfl, ⟨fun _ => map_done HM.out rfl HLEN.out.symm, fun _ => rfl⟩, HO.out⟩
 ·have d0 : ((xs.length : Int) != (ys.length : Int)) = true := by rw [bne_iff_ne]; omega
  have HNE : Hid (xs.length ≠ ys.length) := hlen
  clear hlen
  go_enter Tryz.func32, Tryz.ntmps32
  go_wp2_with fail
  go_ret
  exact ⟨false, rfl, ⟨fun h => (by cases h), fun h => absurd h (map_len HNE.out)⟩, Off.refl _ w⟩
end Go.Proofs.YtmbphlkohlggfaaGreat
