/- Two points held against one another. -/
import Derived.Test.YtpiknkgnmjcjjaaRg1
import Derived.Test.YtpiknkgnmjcjjaaTake14
import Derived.Shelf.SlSortCmp.Insertion
namespace Go.Proofs.Ytpiknkgnmjcjjaa
set_option maxRecDepth 100000
open Go.RowKit Go.Shelf Go.Lib Go.Sort

def cmpI (a b : Int) : Int := if a < b then -1 else if b < a then 1 else 0
def orI (a b : Int) : Int := if a = 0 then b else a
theorem cmpu_any (a b : Int) (w : World) : Calls Try.prog 37 #[.int .u32 a, .int .u32 b] w fun e w' => e = .returned (.int .i64 (cmpI a b)) ∧ w' = w := by
  have HN : Hid (∀ x W, Calls Try.prog 50 #[.int .u32 x] W fun e w' => e = .returned (.bool false) ∧ w' = W) := fun x W => by
    have e0 : (x != x) = false := by simp
    go_enter Try.func50, Try.ntmps50
    go_wp2
    go_ret
    exact ⟨rfl, rfl⟩
  rcases Int.lt_trichotomy a b with h | h | h
  · have hc : cmpI a b = -1 := by unfold cmpI; rw [if_pos h]
    rw [hc]
    have e1 : decide (a < b) = true := decide_eq_true h
    have HH : Hid _ := h
    clear hc h
    go_enter Try.func37, Try.ntmps37
    go_wp2_with fail
    refine Calls.mono (HN.out _ _) ?_
    rintro e w9 ⟨rfl, hw⟩
    rw [hw]
    clear hw w9
    go_wp2_with fail
    refine Calls.mono (HN.out _ _) ?_
    rintro e w9 ⟨rfl, hw⟩
    rw [hw]
    clear hw w9
    go_wp2_with fail
    go_ret
    exact ⟨rfl, rfl⟩
  · have hc : cmpI a b = 0 := by unfold cmpI; rw [if_neg (by omega), if_neg (by omega)]
    rw [hc]
    have e1 : decide (a < b) = false := decide_eq_false (by omega)
    have e2 : decide (a > b) = false := decide_eq_false (by omega)
    have e3 : decide (b < a) = false := decide_eq_false (by omega)
    have HH : Hid _ := h
    clear hc h
    go_enter Try.func37, Try.ntmps37
    go_wp2_with fail
    refine Calls.mono (HN.out _ _) ?_
    rintro e w9 ⟨rfl, hw⟩
    rw [hw]
    clear hw w9
    go_wp2_with fail
    refine Calls.mono (HN.out _ _) ?_
    rintro e w9 ⟨rfl, hw⟩
    rw [hw]
    clear hw w9
    go_wp2_with fail
    go_ret
    exact ⟨rfl, rfl⟩
  · have hc : cmpI a b = 1 := by unfold cmpI; rw [if_neg (by omega), if_pos h]
    rw [hc]
    have e1 : decide (a < b) = false := decide_eq_false (by omega)
    have e2 : decide (a > b) = true := decide_eq_true (by omega)
    have e3 : decide (b < a) = true := decide_eq_true (by omega)
    have HH : Hid _ := h
    clear hc h
    go_enter Try.func37, Try.ntmps37
    go_wp2_with fail
    refine Calls.mono (HN.out _ _) ?_
    rintro e w9 ⟨rfl, hw⟩
    rw [hw]
    clear hw w9
    go_wp2_with fail
    refine Calls.mono (HN.out _ _) ?_
    rintro e w9 ⟨rfl, hw⟩
    rw [hw]
    clear hw w9
    go_wp2_with fail
    go_ret
    exact ⟨rfl, rfl⟩
theorem cmpi_any (a b : Int) (w : World) : Calls Try.prog 48 #[.int .i64 a, .int .i64 b] w fun e w' => e = .returned (.int .i64 (cmpI a b)) ∧ w' = w := by
  have HN : Hid (∀ x W, Calls Try.prog 65 #[.int .i64 x] W fun e w' => e = .returned (.bool false) ∧ w' = W) := fun x W => by
    have e0 : (x != x) = false := by simp
    go_enter Try.func65, Try.ntmps65
    go_wp2
    go_ret
    exact ⟨rfl, rfl⟩
  rcases Int.lt_trichotomy a b with h | h | h
  · have hc : cmpI a b = -1 := by unfold cmpI; rw [if_pos h]
    rw [hc]
    have e1 : decide (a < b) = true := decide_eq_true h
    have HH : Hid _ := h
    clear hc h
    go_enter Try.func48, Try.ntmps48
    go_wp2_with fail
    refine Calls.mono (HN.out _ _) ?_
    rintro e w9 ⟨rfl, hw⟩
    rw [hw]
    clear hw w9
    go_wp2_with fail
    refine Calls.mono (HN.out _ _) ?_
    rintro e w9 ⟨rfl, hw⟩
    rw [hw]
    clear hw w9
    go_wp2_with fail
    go_ret
    exact ⟨rfl, rfl⟩
  · have hc : cmpI a b = 0 := by unfold cmpI; rw [if_neg (by omega), if_neg (by omega)]
    rw [hc]
    have e1 : decide (a < b) = false := decide_eq_false (by omega)
    have e2 : decide (a > b) = false := decide_eq_false (by omega)
    have e3 : decide (b < a) = false := decide_eq_false (by omega)
    have HH : Hid _ := h
    clear hc h
    go_enter Try.func48, Try.ntmps48
    go_wp2_with fail
    refine Calls.mono (HN.out _ _) ?_
    rintro e w9 ⟨rfl, hw⟩
    rw [hw]
    clear hw w9
    go_wp2_with fail
    refine Calls.mono (HN.out _ _) ?_
    rintro e w9 ⟨rfl, hw⟩
    rw [hw]
    clear hw w9
    go_wp2_with fail
    go_ret
    exact ⟨rfl, rfl⟩
  · have hc : cmpI a b = 1 := by unfold cmpI; rw [if_neg (by omega), if_pos h]
    rw [hc]
    have e1 : decide (a < b) = false := decide_eq_false (by omega)
    have e2 : decide (a > b) = true := decide_eq_true (by omega)
    have e3 : decide (b < a) = true := decide_eq_true (by omega)
    have HH : Hid _ := h
    clear hc h
    go_enter Try.func48, Try.ntmps48
    go_wp2_with fail
    refine Calls.mono (HN.out _ _) ?_
    rintro e w9 ⟨rfl, hw⟩
    rw [hw]
    clear hw w9
    go_wp2_with fail
    refine Calls.mono (HN.out _ _) ?_
    rintro e w9 ⟨rfl, hw⟩
    rw [hw]
    clear hw w9
    go_wp2_with fail
    go_ret
    exact ⟨rfl, rfl⟩

theorem or_any (g : Nat) (x y z : Int) (w : World) (h0 : w.cell? ⟨g, 0, none⟩ = some (.int .i64 x)) (h1 : w.cell? ⟨g, 1, none⟩ = some (.int .i64 y)) (h2 : w.cell? ⟨g, 2, none⟩ = some (.int .i64 z)) :
    Calls Try.prog 47 #[.slice (some ⟨g, 0, none⟩) 3 3] w fun e w' => e = .returned (.int .i64 (orI x (orI y z))) ∧ w' = w := by
  have HR : Hid (∀ j : Nat, j < 3 → ∃ v : Int, w.cell? ⟨g, j, none⟩ = some (.int .i64 v) ∧ ((j = 0 ∧ v = x) ∨ (j = 1 ∧ v = y) ∨ (j = 2 ∧ v = z))) := fun j hj => by
    obtain rfl | rfl | rfl : j = 0 ∨ j = 1 ∨ j = 2 := by omega
    · exact ⟨x, h0, .inl ⟨rfl, rfl⟩⟩
    · exact ⟨y, h1, .inr (.inl ⟨rfl, rfl⟩)⟩
    · exact ⟨z, h2, .inr (.inr ⟨rfl, rfl⟩)⟩
  clear h0 h1 h2
  go_enter Try.func47, Try.ntmps47
  go_wp2_with fail
  go_loopw [8] (fun i wr => ∃ j : Nat, i = .int .i64 (j : Int) ∧ j ≤ 3 ∧ (0 < j → x = 0) ∧ (1 < j → y = 0) ∧ (2 < j → z = 0) ∧ wr = w) (fun i _ => (3 - intOf i).toNat)
  case atStart => exact ⟨0, rfl, by omega, fun h => by omega, fun h => by omega, fun h => by omega, rfl⟩
  case round =>
    obtain ⟨j, rfl, hj, z0, z1, z2, rfl⟩ := hrel
    have HZ : Hid ((0 < j → x = 0) ∧ (1 < j → y = 0) ∧ (2 < j → z = 0)) := ⟨z0, z1, z2⟩
    clear z0 z1 z2
    by_cases hlt : j < 3
    · obtain ⟨v, hc, hv⟩ := HR.out j hlt
      have HV : Hid _ := hv
      clear hv
      by_cases hv0 : v = 0
      · have e0 : (v != 0) = false := by simp [hv0]
        have HV0 : Hid _ := hv0
        clear hv0
        go_wp2
        go_roundw
        case rel =>
          have q := HV0.out
          obtain ⟨p0, p1, p2⟩ := HZ.out
          refine ⟨j + 1, by go_num, by omega, fun h => ?_, fun h => ?_, fun h => ?_, trivial⟩ <;> rcases HV.out with ⟨a, b⟩ | ⟨a, b⟩ | ⟨a, b⟩ <;> first | omega | exact p0 (by omega) | exact p1 (by omega) | exact p2 (by omega)
        case measure => simp [intOf]; omega
      · have e0 : (v != 0) = true := by simp [hv0]
        have HV0 : Hid (v ≠ 0) := hv0
        clear hv0
        go_wp2
        go_ret
        refine ⟨?_, rfl⟩
        have q : v ≠ 0 := HV0.out
        obtain ⟨p0, p1, p2⟩ := HZ.out
        have : v = orI x (orI y z) := by
          unfold orI
          rcases HV.out with ⟨a, b⟩ | ⟨a, b⟩ | ⟨a, b⟩
          · rw [if_neg (by omega)]; exact b
          · rw [if_pos (p0 (by omega)), if_neg (by omega)]; exact b
          · rw [if_pos (p0 (by omega)), if_pos (p1 (by omega))]; exact b
        rw [← this]
        rfl
    · obtain rfl : j = 3 := by omega
      go_wp2
      go_ret
      refine ⟨?_, rfl⟩
      obtain ⟨p0, p1, p2⟩ := HZ.out
      have : orI x (orI y z) = 0 := by
        unfold orI
        rw [if_pos (p0 (by omega)), if_pos (p1 (by omega)), p2 (by omega)]
      rw [this]
      rfl
/-- The cells of a point. -/
def pcs (p : Pn) : List Value := [.int .u32 (p.1 : Nat), .int .i64 (p.2.1 : Nat), .int .i64 (p.2.2 : Nat)]
theorem pcs_len (p : Pn) : (pcs p).length = 3 := rfl
theorem pcs_one (p : Pn) : ∀ u ∈ pcs p, u.oneCell' = true := by simp [pcs, Value.oneCell']
def cfP (x y : Pn) : Int := orI (cmpI (x.1 : Nat) (y.1 : Nat)) (orI (cmpI (x.2.1 : Nat) (y.2.1 : Nat)) (cmpI (x.2.2 : Nat) (y.2.2 : Nat)))
theorem cf_lt (x y : Pn) : cfP x y < 0 ↔ ltP x y = true := by
  rw [ltP_iff]
  unfold cfP orI cmpI
  split <;> (try split) <;> (try split) <;> (try split) <;> omega
theorem ltOfP (x y : Pn) : ltOf cfP x y = ltP x y := by
  rw [Bool.eq_iff_iff, ← cf_lt]
  unfold ltOf
  simp
theorem swoP : SWO (ltOf cfP) where
  irrefl x := by rw [ltOfP, ltP_no]; omega
  trans x y z h1 h2 := by rw [ltOfP, ltP_iff] at *; omega
  ntrans x y z h1 h2 := by rw [ltOfP, ltP_no] at *; omega
theorem grow_off1 {W w' : World} (h : ∃ os, w' = grow W os) : Off (fun _ => False) W w' := by
  obtain ⟨os, rfl⟩ := h
  refine ⟨rfl, rfl, rfl, by rw [size_grow]; exact Nat.le_add_right _ _, fun i hi _ => ?_⟩
  show (W.heap ++ os)[i]? = _
  rw [Array.getElem?_append_left hi]
theorem grow_off {W w' : World} (h : ∃ q os, w' = grow (W.drewN q) os) : Off (fun _ => False) W w' := by
  obtain ⟨q, os, rfl⟩ := h
  refine ⟨rfl, rfl, rfl, by rw [size_grow]; exact Nat.le_add_right _ _, fun i hi _ => ?_⟩
  show (W.heap ++ os)[i]? = _
  rw [Array.getElem?_append_left hi]
theorem grow_none (W : World) : grow W #[] = W := by
  cases W
  simp [grow]
set_option maxHeartbeats 1000000 in
theorem comp_x (x y : Pn) (W : World) : Calls Try.prog 33 #[.agg #[.int .u32 (x.1 : Nat), .int .i64 (x.2.1 : Nat), .int .i64 (x.2.2 : Nat)], .agg #[.int .u32 (y.1 : Nat), .int .i64 (y.2.1 : Nat), .int .i64 (y.2.2 : Nat)]] W fun e w' => e = .returned (.int .i64 (cfP x y)) ∧ ∃ q os, w' = grow (W.drewN q) os := by
  have ha : ∀ q, (W.alloc (.cells #[.int .u32 (x.1 : Nat), .int .i64 (x.2.1 : Nat), .int .i64 (x.2.2 : Nat)] 75)).alloc (.cells #[.int .u32 (y.1 : Nat), .int .i64 (y.2.1 : Nat), .int .i64 (y.2.2 : Nat)] 75) = q → ∃ os, q = grow W os := fun q hq => by
    subst hq
    exact ⟨_, by rw [alloc_eq_grow, alloc_eq_grow, grow_grow]⟩
  have C1 := (Cel.new W 75 #[.int .u32 (x.1 : Nat), .int .i64 (x.2.1 : Nat), .int .i64 (x.2.2 : Nat)]).alloc (.cells #[.int .u32 (y.1 : Nat), .int .i64 (y.2.1 : Nat), .int .i64 (y.2.2 : Nat)] 75)
  have C2 := Cel.new1 W (.cells #[.int .u32 (x.1 : Nat), .int .i64 (x.2.1 : Nat), .int .i64 (x.2.2 : Nat)] 75) 75 #[.int .u32 (y.1 : Nat), .int .i64 (y.2.1 : Nat), .int .i64 (y.2.2 : Nat)]
  go_enter Try.func33, Try.ntmps33
  go_upto_region 1 with fail
  generalize hv : (W.alloc (.cells #[.int .u32 (x.1 : Nat), .int .i64 (x.2.1 : Nat), .int .i64 (x.2.2 : Nat)] 75)).alloc (.cells #[.int .u32 (y.1 : Nat), .int .i64 (y.2.1 : Nat), .int .i64 (y.2.2 : Nat)] 75) = V at C1 C2 ⊢
  obtain ⟨os, hos⟩ := ha _ hv
  clear hv ha
  have HOS : Hid _ := hos
  have HC1 : Hid _ := C1.drew
  have HC2 : Hid _ := C2.drew
  clear hos C1 C2
  refine wp_region_held_drew (S := fun w' => ∃ os, w' = grow V.drew os) (by kernel_rfl) ⟨#[], by rw [grow_none]⟩ (fun hS => ?_)
  generalize hd : V.drew = V1 at HC1 HC2 hS ⊢
  have HD : Hid _ := hd
  clear hd
  refine take_at (i := 0) 5 (v := .pointer (some ⟨W.heap.size, 0, none⟩)) rfl rfl (by kernel_rfl) (by kernel_rfl) (by kernel_rfl) (fun _ _ _ h => h) (Or.inl ⟨by rfl, fun w' hw' => by go_simp⟩) hS ?_
  simp only [Act.put, List.setIfInBounds_toArray, List.set_cons_zero, List.set_cons_succ]
  refine take_at (i := 1) 6 (v := .int .u32 (x.1 : Nat)) rfl rfl (by kernel_rfl) (by kernel_rfl) (by kernel_rfl) (fun _ _ _ h => h) (Or.inl ⟨by rfl, fun w' hw' => by have x0 := (HC1.out.off (grow_off1 hw') (fun h => h)).cell 0; go_simp⟩) hS ?_
  simp only [Act.put, List.setIfInBounds_toArray, List.set_cons_zero, List.set_cons_succ]
  refine take_at (i := 2) 7 (v := .pointer (some ⟨W.heap.size + 1, 0, none⟩)) rfl rfl (by kernel_rfl) (by kernel_rfl) (by kernel_rfl) (fun _ _ _ h => h) (Or.inl ⟨by rfl, fun w' hw' => by go_simp⟩) hS ?_
  simp only [Act.put, List.setIfInBounds_toArray, List.set_cons_zero, List.set_cons_succ]
  refine take_at (i := 3) 8 (v := .int .u32 (y.1 : Nat)) rfl rfl (by kernel_rfl) (by kernel_rfl) (by kernel_rfl) (fun _ _ _ h => h) (Or.inl ⟨by rfl, fun w' hw' => by have x0 := (HC2.out.off (grow_off1 hw') (fun h => h)).cell 0; go_simp⟩) hS ?_
  simp only [Act.put, List.setIfInBounds_toArray, List.set_cons_zero, List.set_cons_succ]
  refine take_at (i := 5) 10 (v := .pointer (some ⟨W.heap.size, 1, none⟩)) rfl rfl (by kernel_rfl) (by kernel_rfl) (by kernel_rfl) (fun _ _ _ h => h) (Or.inl ⟨by rfl, fun w' hw' => by go_simp⟩) hS ?_
  simp only [Act.put, List.setIfInBounds_toArray, List.set_cons_zero, List.set_cons_succ]
  refine take_at (i := 6) 11 (v := .int .i64 (x.2.1 : Nat)) rfl rfl (by kernel_rfl) (by kernel_rfl) (by kernel_rfl) (fun _ _ _ h => h) (Or.inl ⟨by rfl, fun w' hw' => by have x0 := (HC1.out.off (grow_off1 hw') (fun h => h)).cell 1; go_simp⟩) hS ?_
  simp only [Act.put, List.setIfInBounds_toArray, List.set_cons_zero, List.set_cons_succ]
  refine take_at (i := 7) 12 (v := .pointer (some ⟨W.heap.size + 1, 1, none⟩)) rfl rfl (by kernel_rfl) (by kernel_rfl) (by kernel_rfl) (fun _ _ _ h => h) (Or.inl ⟨by rfl, fun w' hw' => by go_simp⟩) hS ?_
  simp only [Act.put, List.setIfInBounds_toArray, List.set_cons_zero, List.set_cons_succ]
  refine take_at (i := 8) 13 (v := .int .i64 (y.2.1 : Nat)) rfl rfl (by kernel_rfl) (by kernel_rfl) (by kernel_rfl) (fun _ _ _ h => h) (Or.inl ⟨by rfl, fun w' hw' => by have x0 := (HC2.out.off (grow_off1 hw') (fun h => h)).cell 1; go_simp⟩) hS ?_
  simp only [Act.put, List.setIfInBounds_toArray, List.set_cons_zero, List.set_cons_succ]
  refine take_at (i := 10) 15 (v := .pointer (some ⟨W.heap.size, 2, none⟩)) rfl rfl (by kernel_rfl) (by kernel_rfl) (by kernel_rfl) (fun _ _ _ h => h) (Or.inl ⟨by rfl, fun w' hw' => by go_simp⟩) hS ?_
  simp only [Act.put, List.setIfInBounds_toArray, List.set_cons_zero, List.set_cons_succ]
  refine take_at (i := 11) 16 (v := .int .i64 (x.2.2 : Nat)) rfl rfl (by kernel_rfl) (by kernel_rfl) (by kernel_rfl) (fun _ _ _ h => h) (Or.inl ⟨by rfl, fun w' hw' => by have x0 := (HC1.out.off (grow_off1 hw') (fun h => h)).cell 2; go_simp⟩) hS ?_
  simp only [Act.put, List.setIfInBounds_toArray, List.set_cons_zero, List.set_cons_succ]
  refine take_at (i := 12) 17 (v := .pointer (some ⟨W.heap.size + 1, 2, none⟩)) rfl rfl (by kernel_rfl) (by kernel_rfl) (by kernel_rfl) (fun _ _ _ h => h) (Or.inl ⟨by rfl, fun w' hw' => by go_simp⟩) hS ?_
  simp only [Act.put, List.setIfInBounds_toArray, List.set_cons_zero, List.set_cons_succ]
  refine take_at (i := 13) 18 (v := .int .i64 (y.2.2 : Nat)) rfl rfl (by kernel_rfl) (by kernel_rfl) (by kernel_rfl) (fun _ _ _ h => h) (Or.inl ⟨by rfl, fun w' hw' => by have x0 := (HC2.out.off (grow_off1 hw') (fun h => h)).cell 2; go_simp⟩) hS ?_
  simp only [Act.put, List.setIfInBounds_toArray, List.set_cons_zero, List.set_cons_succ]
  refine wpAnyH_ready (rs := [4]) (by kernel_rfl) (by simp) ?_
  refine AllReadyH.cons rfl (fun K' hK' => ?_) AllReadyH.nil
  go_simp
  refine (cmpu_any _ _ _).mono ?_
  rintro e v ⟨rfl, hv⟩
  rw [hv]
  clear hv v
  refine hK'.out _ _ hS (fun hS => ?_)
  clear hK' K'
  refine wpAnyH_ready (rs := [9]) (by kernel_rfl) (by simp) ?_
  refine AllReadyH.cons rfl (fun K' hK' => ?_) AllReadyH.nil
  go_simp
  refine (cmpi_any _ _ _).mono ?_
  rintro e v ⟨rfl, hv⟩
  rw [hv]
  clear hv v
  refine hK'.out _ _ hS (fun hS => ?_)
  clear hK' K'
  refine wpAnyH_ready (rs := [14]) (by kernel_rfl) (by simp) ?_
  refine AllReadyH.cons rfl (fun K' hK' => ?_) AllReadyH.nil
  go_simp
  refine (cmpi_any _ _ _).mono ?_
  rintro e v ⟨rfl, hv⟩
  rw [hv]
  clear hv v
  refine hK'.out _ _ hS (fun hS => ?_)
  clear hK' K'
  have HS : Hid _ := hS
  clear hS
  refine wpAnyH_ready (rs := [15]) (by kernel_rfl) (by simp) ?_
  refine AllReadyH.cons rfl (fun K' hK' => ?_) AllReadyH.nil
  go_simp
  refine hK'.out _ _ ⟨_, alloc_eq_grow _ _⟩ (fun hS => ?_)
  clear hK' K'
  have HS2 : Hid _ := hS
  clear hS
  have C3 := Cel.new V1 3 #[.int .i64 (cmpI (x.1 : Nat) (y.1 : Nat)), .int .i64 (cmpI (x.2.1 : Nat) (y.2.1 : Nat)), .int .i64 (cmpI (x.2.2 : Nat) (y.2.2 : Nat))]
  have HO : Hid _ := or_any V1.heap.size _ _ _ _ (C3.cell 0) (C3.cell 1) (C3.cell 2)
  clear C3
  refine wpAnyH_ready (rs := [16]) (by kernel_rfl) (by simp) ?_
  refine AllReadyH.cons rfl (fun K' hK' => ?_) AllReadyH.nil
  go_simp
  refine Calls.mono HO.out ?_
  rintro e v ⟨rfl, hv⟩
  rw [hv]
  clear hv v
  refine hK'.out _ _ HS2.out (fun hS => ?_)
  clear hK' K' hS
  refine take_at (i := 17) 4 (v := .int .i64 (orI (cmpI (x.1 : Nat) (y.1 : Nat)) (orI (cmpI (x.2.1 : Nat) (y.2.1 : Nat)) (cmpI (x.2.2 : Nat) (y.2.2 : Nat))))) rfl rfl (by kernel_rfl) (by kernel_rfl) (by kernel_rfl) (fun _ _ _ h => h) (Or.inl ⟨by rfl, fun w' hw' => by go_simp⟩) HS2.out ?_
  simp only [Act.put, List.setIfInBounds_toArray, List.set_cons_zero, List.set_cons_succ]
  refine wpAnyH_done (by kernel_rfl) ?_ _
  go_wp2_with fail
  go_ret
  refine ⟨rfl, 1, ?_⟩
  obtain ⟨os2, h2⟩ := HS2.out
  rw [h2, ← HD.out, HOS.out]
  exact ⟨os ++ os2, by rw [← grow_grow]; rfl⟩
theorem comp_any (x y : Pn) (W : World) : Calls Try.prog 33 #[.agg #[.int .u32 (x.1 : Nat), .int .i64 (x.2.1 : Nat), .int .i64 (x.2.2 : Nat)], .agg #[.int .u32 (y.1 : Nat), .int .i64 (y.2.1 : Nat), .int .i64 (y.2.2 : Nat)]] W fun e w' => e = .returned (.int .i64 (cfP x y)) ∧ Off (fun _ => False) W w' :=
  (comp_x x y W).mono fun _ _ h => ⟨h.1, grow_off h.2⟩
theorem from1_any (x : Pn) (s : Nat) (W : World) : Calls Try.prog 36 #[.agg #[.int .u32 (x.1 : Nat), .int .i64 (x.2.1 : Nat), .int .i64 (x.2.2 : Nat)], .int .u32 (s : Nat)] W fun e w' => e = .returned (.int .i64 (cmpI (x.1 : Nat) (s : Nat))) ∧ Off (fun _ => False) W w' := by
  have HC : Hid _ := cmpu_any (x.1 : Nat) (s : Nat)
  go_enter Try.func36, Try.ntmps36
  go_wp2_with fail
  refine (HC.out _).mono ?_
  rintro e w9 ⟨rfl, hw⟩
  rw [hw]
  clear hw w9
  go_wp2_with fail
  go_ret
  exact ⟨rfl, (Off.refl _ _).alloc _⟩
end Go.Proofs.Ytpiknkgnmjcjjaa
