/- The walk of DiskRoom. -/
import Derived.Test.YtibnhgpenfcinaaTel
import Derived.Laws.OwnMore
namespace Go.Proofs.Ytibnhgpenfcinaa
open Go.RowKit

/-- The row of a slice that was made: n bytes, each 0. -/
def madeB (n : Nat) : Array Value := madeCells (Value.int .u8 0).cells n
theorem madeB_at {n j : Nat} (h : j < n) : (madeB n)[j]? = some (.int .u8 0) := by
  simp [madeB, madeCells, h, Value.cells, Nat.mod_one]
theorem make_run (n : Nat) (hn : n ≤ 1000000) (W : World) : (Instr.makeSlice 25 (.int .i64 (n : Int)) (.int .i64 (n : Int))).run Try.prog W = .ok (.slice (some ⟨W.heap.size, 0, none⟩) n n) (W.alloc (.cells (madeB n) 5)) := by
  obtain ⟨i0, hi, hz0, hz1, hz2⟩ := info_parts Try.infoB
  have h := run_makeSlice (P := Try.prog) W 25 5 i0 (.int .u8 0) Try.underlying25 hi hz0 .i64 .i64 (n : Int) (n : Int) (by omega) (by omega) (by rw [hz1]; omega) (by rw [hz2]; omega) (by omega)
  rw [h]
  simp [madeB, hz1]
theorem src_made (w : World) (xs : List Nat) (hx : ∀ x ∈ xs, x = 0) : Src (w.alloc (.cells (madeB xs.length) 5)) (some ⟨w.heap.size, 0, none⟩) xs.length xs := by
  have h := heap_alloc_new w (.cells (madeB xs.length) 5)
  refine ⟨.inr ⟨_, rfl, fun j u hj => ?_⟩⟩
  have hj' := vl_lt hj
  rw [vl_get _ _ hj'] at hj
  rw [add_lit]
  simp only [World.cell?]
  rw [h]
  have e : xs.getD j 0 = 0 := by
    have : xs.getD j 0 = xs[j] := by simp [hj']
    rw [this]
    exact hx _ (List.getElem_mem hj')
  rw [e] at hj
  have := madeB_at hj'
  simp only [Nat.zero_add]
  rw [this]
  exact hj
theorem zeros (k : Nat) : ∃ xs : List Nat, xs.length = k ∧ ∀ x ∈ xs, x = 0 := ⟨List.replicate k 0, by simp, fun x hx => by simpa using (List.mem_replicate.1 hx).2⟩

set_option maxRecDepth 100000 in
set_option maxHeartbeats 2000000 in
theorem room_walk (most n : Int) (w : World) (_ : -9223372036854775808 ≤ most ∧ most ≤ 9223372036854775807) (_ : -9223372036854775808 ≤ n ∧ n ≤ 9223372036854775807) :
    Calls Try.prog 7 #[.int .i64 most, .int .i64 n] w fun e w' => e = .returned (.bool true) ∧ Off (fun _ => False) w w' := by
  obtain ⟨m, hm, em⟩ := wrap_modc 300 (by omega) most
  obtain ⟨k, hk, ek⟩ := wrap_modc 310 (by omega) n
  replace em : (IntKind.u64.wrap most).tmod 300 = (m : Int) := em
  replace ek : (IntKind.u64.wrap n).tmod 310 = (k : Int) := ek
  have hro : roomOf (m : Int) = m := by simp [roomOf]; omega
  obtain ⟨xs, hxl, hx⟩ := zeros k
  have HX : Hid (∀ x ∈ xs, x = 0) := hx
  subst hxl
  clear hx
  have mx := make_run xs.length (by omega)
  by_cases hgt : m < xs.length
  · have d1 : decide ((m : Int) < (xs.length : Int)) = true := decide_eq_true (by omega)
    obtain ⟨eE, eA⟩ := app_no (m := m) (bs := []) (xs := xs) (by simp; omega)
    obtain ⟨eR, -⟩ := rep_no (m := m) (s := 0) (bs := []) (xs := xs) hgt
    go_enter Try.func7, Try.ntmps7
    go_wp2_with fail
    refine (anew_any (m : Int) (Off.refl _ w)).mono ?_
    rintro e v1 ⟨b, rfl, A, -, -, -⟩
    rw [hro] at A
    go_wp2_with fail
    have SX := src_made v1 xs HX.out
    have OX : Off (fun _ => False) v1 (v1.alloc (.cells (madeB xs.length) 5)) := (Off.refl _ v1).alloc _
    refine (aappend_any (A.free OX) (some ⟨v1.heap.size, 0, none⟩) xs.length xs SX (by omega)).mono ?_
    rintro e v2 ⟨rfl, A2⟩
    rw [eE] at *
    rw [eA] at A2
    clear A OX SX
    go_upto_region 5 with fail
    refine wp_region_held_drew (S := fun w' => Off (fun _ => False) v2 w') (by kernel_rfl) ((Off.refl _ v2).drew) (fun hS => ?_)
    generalize hdr : v2.drew = v3 at hS ⊢
    clear hdr
    refine take_at (i := 0) 22 (v := .int .i64 (m : Int)) rfl rfl (by kernel_rfl) (by kernel_rfl) (by kernel_rfl) (fun _ _ _ h => h) (Or.inl ⟨by rfl, fun w' hw' => by go_simp⟩) hS ?_
    simp only [Act.put, List.setIfInBounds_toArray, List.set_cons_zero, List.set_cons_succ]
    refine take_at (i := 2) 24 (v := .int .i64 (xs.length : Int)) rfl rfl (by kernel_rfl) (by kernel_rfl) (by kernel_rfl) (fun _ _ _ h => h) (Or.inl ⟨by rfl, fun w' hw' => by go_simp⟩) hS ?_
    simp only [Act.put, List.setIfInBounds_toArray, List.set_cons_zero, List.set_cons_succ]
    refine wpAnyH_ready (rs := [1, 3]) (by kernel_rfl) (by simp) ?_
    refine AllReadyH.cons rfl (fun K' hK' => ?_) (AllReadyH.cons rfl (fun K' hK' => ?_) AllReadyH.nil)
    · go_simp
      refine (anew_any (m : Int) hS).mono ?_
      rintro e v4 ⟨b2, rfl, B, ob, -, -⟩
      rw [hro] at B
      refine hK'.out _ _ B.off (fun hS => ?_)
      clear hK' K'
      refine wpAnyH_ready (rs := [3]) (by kernel_rfl) (by simp) ?_
      refine AllReadyH.cons rfl (fun K' hK' => ?_) AllReadyH.nil
      go_simp
      refine hK'.out _ _ (hS.alloc _) (fun hS => ?_)
      clear hK' K'
      have SX := src_made v4 xs HX.out
      have OX : Off (fun _ => False) v4 (v4.alloc (.cells (madeB xs.length) 5)) := (Off.refl _ v4).alloc _
      generalize hq : v4.heap.size = q at SX ⊢
      generalize hv : v4.alloc (.cells (madeB xs.length) 5) = v5 at SX OX hS ⊢
      clear hv hq
      refine wpAnyH_ready (rs := [4]) (by kernel_rfl) (by simp) ?_
      refine AllReadyH.cons rfl (fun K' hK' => ?_) AllReadyH.nil
      go_simp
      refine (areplace_any (B.free OX) (some ⟨q, 0, none⟩) xs.length xs (SX) (by omega)).mono ?_
      rintro e v6 ⟨rfl, B9⟩
      rw [eR] at *
      refine hK'.out _ _ (B9.off) (fun hS => ?_)
      clear hK' K'
      clear B ob OX SX B9
      refine take_at (i := 5) 7 (v := .int .i64 5) rfl rfl (by kernel_rfl) (by kernel_rfl) (by kernel_rfl) (fun _ _ _ h => h) (Or.inl ⟨by rfl, fun w' hw' => by go_simp⟩) hS ?_
      simp only [Act.put, List.setIfInBounds_toArray, List.set_cons_zero, List.set_cons_succ]
      refine wpAnyH_done (by kernel_rfl) ?_ _
      replace A2 := A2.free hS
      clear hS
      go_wp2_with fail
      refine (asize_any A2).mono ?_
      rintro e v7 ⟨rfl, hv⟩
      rw [hv]
      clear hv v7
      go_wp2_with fail
      refine (awake_any _).mono ?_
      rintro e v8 ⟨rfl, o8⟩
      go_wp2_with fail
      go_ret
      exact ⟨rfl, A2.off.trans o8 (fun _ _ h => h)⟩
    · go_simp
      refine hK'.out _ _ (hS.alloc _) (fun hS => ?_)
      clear hK' K'
      have SX := src_made v3 xs HX.out
      have OX : Off (fun _ => False) v3 (v3.alloc (.cells (madeB xs.length) 5)) := (Off.refl _ v3).alloc _
      generalize hq : v3.heap.size = q at SX ⊢
      generalize hv : v3.alloc (.cells (madeB xs.length) 5) = v4 at SX OX hS ⊢
      clear hv hq
      refine wpAnyH_ready (rs := [1]) (by kernel_rfl) (by simp) ?_
      refine AllReadyH.cons rfl (fun K' hK' => ?_) AllReadyH.nil
      go_simp
      refine (anew_any (m : Int) hS).mono ?_
      rintro e v5 ⟨b2, rfl, B, ob, -, -⟩
      rw [hro] at B
      refine hK'.out _ _ B.off (fun hS => ?_)
      clear hK' K'
      refine wpAnyH_ready (rs := [4]) (by kernel_rfl) (by simp) ?_
      refine AllReadyH.cons rfl (fun K' hK' => ?_) AllReadyH.nil
      go_simp
      refine (areplace_any B (some ⟨q, 0, none⟩) xs.length xs (SX.off ob (fun _ _ _ h => h)) (by omega)).mono ?_
      rintro e v6 ⟨rfl, B9⟩
      rw [eR] at *
      refine hK'.out _ _ (B9.off) (fun hS => ?_)
      clear hK' K'
      clear B ob OX SX B9
      refine take_at (i := 5) 7 (v := .int .i64 5) rfl rfl (by kernel_rfl) (by kernel_rfl) (by kernel_rfl) (fun _ _ _ h => h) (Or.inl ⟨by rfl, fun w' hw' => by go_simp⟩) hS ?_
      simp only [Act.put, List.setIfInBounds_toArray, List.set_cons_zero, List.set_cons_succ]
      refine wpAnyH_done (by kernel_rfl) ?_ _
      replace A2 := A2.free hS
      clear hS
      go_wp2_with fail
      refine (asize_any A2).mono ?_
      rintro e v7 ⟨rfl, hv⟩
      rw [hv]
      clear hv v7
      go_wp2_with fail
      refine (awake_any _).mono ?_
      rintro e v8 ⟨rfl, o8⟩
      go_wp2_with fail
      go_ret
      exact ⟨rfl, A2.off.trans o8 (fun _ _ h => h)⟩
  · have d1 : decide ((m : Int) < (xs.length : Int)) = false := decide_eq_false (by omega)
    obtain ⟨eE, eA⟩ := app_yes (m := m) (bs := []) (xs := xs) (by simp; omega)
    rw [List.nil_append] at eA
    obtain ⟨eR, -⟩ := rep_yes (m := m) (s := 0) (bs := []) (xs := xs) (by omega)
    obtain ⟨us, hul, hu⟩ := zeros (m - xs.length)
    obtain ⟨zs, hzl, hz⟩ := zeros (m - xs.length + 1)
    have HU : Hid (∀ x ∈ us, x = 0) := hu
    have HZ : Hid (∀ x ∈ zs, x = 0) := hz
    have eu : (m : Int) - (xs.length : Int) = (us.length : Int) := by omega
    have ez : (us.length : Int) + 1 = (zs.length : Int) := by omega
    have lz : zs.length ≤ 400 := by omega
    have lu : us.length ≤ 400 := by omega
    obtain ⟨gE, gA⟩ := app_no (m := m) (bs := xs) (xs := zs) (by omega)
    obtain ⟨uE, uA⟩ := app_yes (m := m) (bs := xs) (xs := us) (by omega)
    clear hu hz hul hzl
    have mu := make_run us.length (by omega)
    have mz := make_run zs.length (by omega)
    go_enter Try.func7, Try.ntmps7
    go_wp2_with fail
    refine (anew_any (m : Int) (Off.refl _ w)).mono ?_
    rintro e v1 ⟨b, rfl, A, -, -, -⟩
    rw [hro] at A
    go_wp2_with fail
    have SX := src_made v1 xs HX.out
    have OX : Off (fun _ => False) v1 (v1.alloc (.cells (madeB xs.length) 5)) := (Off.refl _ v1).alloc _
    refine (aappend_any (A.free OX) (some ⟨v1.heap.size, 0, none⟩) xs.length xs SX (by omega)).mono ?_
    rintro e v2 ⟨rfl, A2⟩
    rw [eE] at *
    rw [eA] at A2
    clear A OX SX
    go_upto_region 5 with fail
    refine wp_region_held_drew (S := fun w' => Off (fun _ => False) v2 w') (by kernel_rfl) ((Off.refl _ v2).drew) (fun hS => ?_)
    generalize hdr : v2.drew = v3 at hS ⊢
    clear hdr
    refine take_at (i := 0) 22 (v := .int .i64 (m : Int)) rfl rfl (by kernel_rfl) (by kernel_rfl) (by kernel_rfl) (fun _ _ _ h => h) (Or.inl ⟨by rfl, fun w' hw' => by go_simp⟩) hS ?_
    simp only [Act.put, List.setIfInBounds_toArray, List.set_cons_zero, List.set_cons_succ]
    refine take_at (i := 2) 24 (v := .int .i64 (xs.length : Int)) rfl rfl (by kernel_rfl) (by kernel_rfl) (by kernel_rfl) (fun _ _ _ h => h) (Or.inl ⟨by rfl, fun w' hw' => by go_simp⟩) hS ?_
    simp only [Act.put, List.setIfInBounds_toArray, List.set_cons_zero, List.set_cons_succ]
    refine wpAnyH_ready (rs := [1, 3]) (by kernel_rfl) (by simp) ?_
    refine AllReadyH.cons rfl (fun K' hK' => ?_) (AllReadyH.cons rfl (fun K' hK' => ?_) AllReadyH.nil)
    · go_simp
      refine (anew_any (m : Int) hS).mono ?_
      rintro e v4 ⟨b2, rfl, B, ob, -, -⟩
      rw [hro] at B
      refine hK'.out _ _ B.off (fun hS => ?_)
      clear hK' K'
      refine wpAnyH_ready (rs := [3]) (by kernel_rfl) (by simp) ?_
      refine AllReadyH.cons rfl (fun K' hK' => ?_) AllReadyH.nil
      go_simp
      refine hK'.out _ _ (hS.alloc _) (fun hS => ?_)
      clear hK' K'
      have SX := src_made v4 xs HX.out
      have OX : Off (fun _ => False) v4 (v4.alloc (.cells (madeB xs.length) 5)) := (Off.refl _ v4).alloc _
      generalize hq : v4.heap.size = q at SX ⊢
      generalize hv : v4.alloc (.cells (madeB xs.length) 5) = v5 at SX OX hS ⊢
      clear hv hq
      refine wpAnyH_ready (rs := [4]) (by kernel_rfl) (by simp) ?_
      refine AllReadyH.cons rfl (fun K' hK' => ?_) AllReadyH.nil
      go_simp
      refine (areplace_any (B.free OX) (some ⟨q, 0, none⟩) xs.length xs (SX) (by omega)).mono ?_
      rintro e v6 ⟨rfl, B9⟩
      rw [eR] at *
      refine hK'.out _ _ (B9.off) (fun hS => ?_)
      clear hK' K'
      clear B ob OX SX B9
      refine take_at (i := 5) 7 (v := .int .i64 0) rfl rfl (by kernel_rfl) (by kernel_rfl) (by kernel_rfl) (fun _ _ _ h => h) (Or.inl ⟨by rfl, fun w' hw' => by go_simp⟩) hS ?_
      simp only [Act.put, List.setIfInBounds_toArray, List.set_cons_zero, List.set_cons_succ]
      refine wpAnyH_done (by kernel_rfl) ?_ _
      replace A2 := A2.free hS
      clear hS
      go_wp2_with fail
      refine (asize_any A2).mono ?_
      rintro e v7 ⟨rfl, hv⟩
      rw [hv]
      clear hv v7
      go_wp2_with fail
      have SX := src_made v6 zs HZ.out
      refine (aappend_any (A2.free ((Off.refl _ v6).alloc _)) (some ⟨v6.heap.size, 0, none⟩) zs.length zs SX (by omega)).mono ?_
      rintro e v8 ⟨rfl, A3⟩
      rw [gE] at *
      rw [gA] at A3
      clear A2 SX
      have A2 := A3
      clear A3
      go_wp2_with fail
      have SX := src_made v8 us HU.out
      refine (aappend_any (A2.free ((Off.refl _ v8).alloc _)) (some ⟨v8.heap.size, 0, none⟩) us.length us SX (by omega)).mono ?_
      rintro e v9 ⟨rfl, A3⟩
      rw [uE] at *
      rw [uA] at A3
      clear A2 SX
      go_wp2_with fail
      refine (awake_any _).mono ?_
      rintro e v10 ⟨rfl, o8⟩
      go_wp2_with fail
      go_ret
      exact ⟨rfl, A3.off.trans o8 (fun _ _ h => h)⟩
    · go_simp
      refine hK'.out _ _ (hS.alloc _) (fun hS => ?_)
      clear hK' K'
      have SX := src_made v3 xs HX.out
      have OX : Off (fun _ => False) v3 (v3.alloc (.cells (madeB xs.length) 5)) := (Off.refl _ v3).alloc _
      generalize hq : v3.heap.size = q at SX ⊢
      generalize hv : v3.alloc (.cells (madeB xs.length) 5) = v4 at SX OX hS ⊢
      clear hv hq
      refine wpAnyH_ready (rs := [1]) (by kernel_rfl) (by simp) ?_
      refine AllReadyH.cons rfl (fun K' hK' => ?_) AllReadyH.nil
      go_simp
      refine (anew_any (m : Int) hS).mono ?_
      rintro e v5 ⟨b2, rfl, B, ob, -, -⟩
      rw [hro] at B
      refine hK'.out _ _ B.off (fun hS => ?_)
      clear hK' K'
      refine wpAnyH_ready (rs := [4]) (by kernel_rfl) (by simp) ?_
      refine AllReadyH.cons rfl (fun K' hK' => ?_) AllReadyH.nil
      go_simp
      refine (areplace_any B (some ⟨q, 0, none⟩) xs.length xs (SX.off ob (fun _ _ _ h => h)) (by omega)).mono ?_
      rintro e v6 ⟨rfl, B9⟩
      rw [eR] at *
      refine hK'.out _ _ (B9.off) (fun hS => ?_)
      clear hK' K'
      clear B ob OX SX B9
      refine take_at (i := 5) 7 (v := .int .i64 0) rfl rfl (by kernel_rfl) (by kernel_rfl) (by kernel_rfl) (fun _ _ _ h => h) (Or.inl ⟨by rfl, fun w' hw' => by go_simp⟩) hS ?_
      simp only [Act.put, List.setIfInBounds_toArray, List.set_cons_zero, List.set_cons_succ]
      refine wpAnyH_done (by kernel_rfl) ?_ _
      replace A2 := A2.free hS
      clear hS
      go_wp2_with fail
      refine (asize_any A2).mono ?_
      rintro e v7 ⟨rfl, hv⟩
      rw [hv]
      clear hv v7
      go_wp2_with fail
      have SX := src_made v6 zs HZ.out
      refine (aappend_any (A2.free ((Off.refl _ v6).alloc _)) (some ⟨v6.heap.size, 0, none⟩) zs.length zs SX (by omega)).mono ?_
      rintro e v8 ⟨rfl, A3⟩
      rw [gE] at *
      rw [gA] at A3
      clear A2 SX
      have A2 := A3
      clear A3
      go_wp2_with fail
      have SX := src_made v8 us HU.out
      refine (aappend_any (A2.free ((Off.refl _ v8).alloc _)) (some ⟨v8.heap.size, 0, none⟩) us.length us SX (by omega)).mono ?_
      rintro e v9 ⟨rfl, A3⟩
      rw [uE] at *
      rw [uA] at A3
      clear A2 SX
      go_wp2_with fail
      refine (awake_any _).mono ?_
      rintro e v10 ⟨rfl, o8⟩
      go_wp2_with fail
      go_ret
      exact ⟨rfl, A3.off.trans o8 (fun _ _ h => h)⟩
end Go.Proofs.Ytibnhgpenfcinaa
