/- Items of several texts. -/
import Derived.Laws.OwnMore
import Derived.Test.YtmbphlkohlggfaaDDc20
import Derived.Test.YtmbphlkohlggfaaDZe20
namespace Go.Proofs.Ytmbphlkohlggfaa
set_option maxRecDepth 100000
open Go.RowKit
def madeB (n : Nat) : Array Value := madeCells (Value.int .u8 0).cells n
theorem madeB_at {n j : Nat} (h : j < n) : (madeB n)[j]? = some (.int .u8 0) := by
 simp [madeB, madeCells, h, Value.cells, Nat.mod_one]
theorem make_run (n : Nat) (hn : n ≤ 1000000) (W : World) : (Instr.makeSlice 31 (.int .i64 (n : Int)) (.int .i64 (n : Int))).run Try.prog W = .ok (.slice (some ⟨W.heap.size, 0, none⟩) n n) (W.alloc (.cells (madeB n) 5)) := by
 obtain ⟨i0, hi, hz0, hz1, hz2⟩ := info_parts Try.infoB
 have h := run_makeSlice (P := Try.prog) W 31 5 i0 (.int .u8 0) Try.underlying31 hi hz0 .i64 .i64 (n : Int) (n : Int) (by omega) (by omega) (by rw [hz1]; omega) (by rw [hz2]; omega) (by omega)
 rw [h]
 simp [madeB, hz1]
theorem src_made (w : World) (xs : List Nat) (hx : ∀ x ∈ xs, x = 0) : Src (w.alloc (.cells (madeB xs.length) 5)) (some ⟨w.heap.size, 0, none⟩) xs.length xs := by
 have h := heap_alloc_new w (.cells (madeB xs.length) 5)
 refine ⟨.inr ⟨_, rfl, fun j u hj => ?_⟩⟩
 have hj' := vl_lt hj
 rw [vl_get _ _ hj'] at hj
 rw [add_lit]
 simp only [World.cell?]
 rw [h]
 have e : xs.getD j 0 = 0 := by
  have : xs.getD j 0 = xs[j] := by simp [hj']
  rw [this]
  exact hx _ (List.getElem_mem hj')
 rw [e] at hj
 have := madeB_at hj'
 simp only [Nat.zero_add]
 rw [this]
 exact hj
theorem zeros (k : Nat) : ∃ xs : List Nat, xs.length = k ∧ ∀ x ∈ xs, x = 0 := ⟨List.replicate k 0, by simp, fun x hx => by simpa using (List.mem_replicate.1 hx).2⟩
theorem u64_mod (p : Int) (k : Nat) (hk : 0 < k) : ∃ m : Nat, m < k ∧ (IntKind.u64.wrap p).tmod (k : Int) = (m : Int) := by
 have h0 : 0 ≤ IntKind.u64.wrap p := by rw [IntKind.wrap_u64]; omega
 obtain ⟨q, hq⟩ := Int.eq_ofNat_of_zero_le h0
 refine ⟨q % k, Nat.mod_lt _ hk, ?_⟩
 rw [hq, Int.tmod_eq_emod_of_nonneg (by omega)]
 rfl
theorem w64_small (k : Int) (h0 : 0 ≤ k) (h1 : k ≤ 1000) : RowKit.wrap64 k = k := by
 simp only [RowKit.wrap64]
 omega
theorem long_nums (n size : Int) : ∃ (m1 m2 N : Nat) (xs : List Nat), (IntKind.u64.wrap n).tmod 8 = (m1 : Int) ∧ (IntKind.u64.wrap size).tmod 20 = (m2 : Int) ∧ RowKit.wrap64 (m1 : Int) = (m1 : Int) ∧ RowKit.wrap64 (16 + (m1 : Int)) = (N : Int) ∧ (16 : Int) + (m1 : Int) = (N : Int) ∧ RowKit.wrap64 (m2 : Int) = (m2 : Int) ∧ RowKit.wrap64 (180 + (m2 : Int)) = (xs.length : Int) ∧ (180 : Int) + (m2 : Int) = (xs.length : Int) ∧ N ≤ 23 ∧ xs.length ≤ 200 ∧ ∀ x ∈ xs, x = 0 := by
 obtain ⟨m1, hm1, em1⟩ := u64_mod n 8 (by omega)
 obtain ⟨m2, hm2, em2⟩ := u64_mod size 20 (by omega)
 have HE1 : Hid ((IntKind.u64.wrap n).tmod 8 = (m1 : Int)) := em1
 have HE2 : Hid ((IntKind.u64.wrap size).tmod 20 = (m2 : Int)) := em2
 clear em1 em2
 obtain ⟨xs, hxl, hx⟩ := zeros (180 + m2)
 have a1 : (16 : Int) + (m1 : Int) = ((16 + m1 : Nat) : Int) := by omega
 have a2 : (180 : Int) + (m2 : Int) = (xs.length : Int) := by omega
 refine ⟨m1, m2, 16 + m1, xs, HE1.out, HE2.out, w64_small _ (by omega) (by omega), ?_, a1, w64_small _ (by omega) (by omega), ?_, a2, by omega, by omega, hx⟩
 ·rw [w64_small _ (by omega) (by omega)]
  exact a1
 ·rw [w64_small _ (by omega) (by omega)]
  exact a2
theorem celw9 {b : Nat} {t : TypeId} {x0 x1 x2 x3 x4 x5 x6 x7 x8 : Value} {w : World} (h : Cel b t #[x0, x1, x2, x3, x4, x5, x6, x7, x8] w) : w.cell? ⟨b, 0, none⟩ = some x0 ∧ w.cell? ⟨b, 1, none⟩ = some x1 ∧ w.cell? ⟨b, 2, none⟩ = some x2 ∧ w.cell? ⟨b, 3, none⟩ = some x3 ∧ w.cell? ⟨b, 4, none⟩ = some x4 ∧ w.cell? ⟨b, 5, none⟩ = some x5 ∧ w.cell? ⟨b, 6, none⟩ = some x6 ∧ w.cell? ⟨b, 7, none⟩ = some x7 ∧ w.cell? ⟨b, 8, none⟩ = some x8 := by
 refine ⟨?_, ?_, ?_, ?_, ?_, ?_, ?_, ?_, ?_⟩ <;> (rw [h.cell]; rfl)
def sf16 (i : Nat) : Int := if i = 0 then 16 else 0
theorem src_one (W : World) (k : Nat) : Src (W.alloc (.cells #[.int .u8 (k : Int)] 5)) (some ⟨W.heap.size, 0, none⟩) 1 [k] := by
 have h := heap_alloc_new W (.cells #[.int .u8 (k : Int)] 5)
 refine ⟨.inr ⟨_, rfl, fun j u hj => ?_⟩⟩
 have hj' : j < 1 := vl_lt hj
 obtain rfl : j = 0 := by omega
 rw [add_lit]
 simp only [World.cell?]
 rw [h]
 exact hj
set_option maxHeartbeats 8000000 in
theorem long_walk (n size : Int) (w : World) (_ : -9223372036854775808 ≤ n ∧ n ≤ 9223372036854775807) (_ : -9223372036854775808 ≤ size ∧ size ≤ 9223372036854775807) : Calls Try.prog 5 #[.int .i64 n, .int .i64 size] w fun e w' => e = .returned (.bool true) ∧ Off (fun _ => False) w w' := by
 obtain ⟨m1, m2, N, xs, em1, em2, ew1, ew2, ew3, ev1, ev2, ev3, hN2, hxl, hx⟩ := long_nums n size
 have HX0 : Hid (∀ x ∈ xs, x = 0) := hx
 have HXL : Hid (xs.length ≤ 200) := hxl
 clear hx
 have HMX : Hid (∀ W : World, (Instr.makeSlice 31 (.int .i64 (xs.length : Int)) (.int .i64 (xs.length : Int))).run Try.prog W = .ok (.slice (some ⟨W.heap.size, 0, none⟩) xs.length xs.length) (W.alloc (.cells (madeB xs.length) 5))) := make_run xs.length (by have := HXL.out; clear em1 em2 ew1 ew2 ew3 ev1 ev2 ev3; omega)
 have ev4 : RowKit.wrap64 (xs.length : Int) = (xs.length : Int) := w64_small _ (by clear em1 em2 ew1 ew2 ew3 ev1 ev2 ev3; omega) (by have := HXL.out; clear em1 em2 ew1 ew2 ew3 ev1 ev2 ev3; omega)
 clear hxl
 have C5 := Cel.new w 26 #[.int .i64 1, .int .i64 1, .int .i64 0, .int .i64 0, .int .i64 0, .string ⟨#[]⟩, .int .i64 0, .slice none 0 0, .slice none 0 0, .slice none 0 0]
 have O5 : Off (fun _ => False) w (w.alloc (.cells #[.int .i64 1, .int .i64 1, .int .i64 0, .int .i64 0, .int .i64 0, .string ⟨#[]⟩, .int .i64 0, .slice none 0 0, .slice none 0 0, .slice none 0 0] 26)) := (Off.refl _ w).alloc _
 go_enter Try.func5, Try.ntmps5
 go_upto_region 3 with fail
 generalize hv : w.alloc (.cells #[.int .i64 1, .int .i64 1, .int .i64 0, .int .i64 0, .int .i64 0, .string ⟨#[]⟩, .int .i64 0, .slice none 0 0, .slice none 0 0, .slice none 0 0] 26) = WV at C5 O5 ⊢
 obtain ⟨q5, hq5⟩ : ∃ q, q = w.heap.size := ⟨_, rfl⟩
 rw [← hq5] at C5 ⊢
 have HQ5 : Hid (q5 < WV.heap.size) := C5.lt
 have HVW : Hid (w.heap.size ≤ WV.heap.size) := O5.size
 have HQ5w : Hid (w.heap.size ≤ q5) := Nat.le_of_eq hq5.symm
 have HC5 : Hid _ := C5
 have HOV : Hid (Off (fun _ => False) w WV) := O5
 rw [ev4]
 clear hv hq5 C5 O5 em1 em2 ew1 ew2 ew3 ev1 ev2 ev3 ev4
 go_wp2_with fail
 go_loopw [27] (fun x wo => ∃ (t : Option Addr) (c : Nat) (es : List E), x = .int .i64 (es.length : Int) ∧ es.length ≤ N ∧ Cel q5 26 #[.int .i64 1, .int .i64 1, .int .i64 0, .int .i64 0, .int .i64 0, .string ⟨#[]⟩, .int .i64 0, .slice t es.length c, .slice none 0 0, .slice none 0 0] wo ∧ OwnG 46 10 ecs wo t c es ∧ (∀ i, blk t = some i → WV.heap.size ≤ i) ∧ (∀ x ∈ es, AptE WV.heap.size t wo x) ∧ Off (fun _ => False) w wo ∧ WV.heap.size ≤ wo.heap.size) (fun x _ => (N - intOf x).toNat)
 case atStart => exact ⟨none, 0, [], rfl, by simp, HC5.out, OwnG.nil _ _ _ _, fun i hi => by simp [blk] at hi, by simp, HOV.out, Nat.le_refl _⟩
 case round =>
  clear HC5 HOV
  rename World => wo
  obtain ⟨t, c, es, rfl, hle, c5, own, hlo, hbl, o, sv⟩ := hrel
  have HC5 : Hid _ := c5
  have HOWN : Hid _ := own
  have HLO : Hid (∀ i, blk t = some i → WV.heap.size ≤ i) := hlo
  have HBL : Hid (∀ x ∈ es, AptE WV.heap.size t wo x) := hbl
  have HO : Hid (Off (fun _ => False) w wo) := o
  have HVO : Hid (WV.heap.size ≤ wo.heap.size) := sv
  clear c5 own hlo hbl o sv
  by_cases hlt : es.length < N
  ·have g1b : decide ((es.length : Int) < (N : Int)) = true := decide_eq_true (by omega)
   have g2b : decide (es.length < N) = true := decide_eq_true hlt
   go_upto_region 7 with fail
   have C7 := Cel.new wo 40 #[.int .i64 16, .int .i64 0, .int .i64 0, .int .i64 0, .int .i64 0, .int .i64 0, .int .i64 0, .int .i64 0, .slice none 0 0]
   have O7 : Off (fun _ => False) wo (wo.alloc (.cells #[.int .i64 16, .int .i64 0, .int .i64 0, .int .i64 0, .int .i64 0, .int .i64 0, .int .i64 0, .int .i64 0, .slice none 0 0] 40)) := (Off.refl _ wo).alloc _
   generalize hv : wo.alloc (.cells #[.int .i64 16, .int .i64 0, .int .i64 0, .int .i64 0, .int .i64 0, .int .i64 0, .int .i64 0, .int .i64 0, .slice none 0 0] 40) = W7 at C7 O7 ⊢
   obtain ⟨q7, hq7⟩ : ∃ q, q = wo.heap.size := ⟨_, rfl⟩
   rw [← hq7] at C7 ⊢
   have HQ7 : Hid (q7 = wo.heap.size) := hq7
   have HL7 : Hid (q7 < W7.heap.size) := C7.lt
   have HO7 : Hid (Off (fun _ => False) wo W7) := O7
   have HC7 : Hid _ := C7
   clear hv hq7 C7 O7
   go_wp2_with fail
   go_loopw [32] (fun y wx => ∃ (lo : List V) (ao : Option Addr) (co : Nat), y = .int .i64 (lo.length : Int) ∧ lo.length ≤ 16 ∧ Cel q7 40 #[.int .i64 16, .int .i64 0, .int .i64 0, .int .i64 0, .int .i64 0, .int .i64 0, .int .i64 0, .int .i64 0, .slice ao lo.length co] wx ∧ Mk W7.heap.size wx ao co lo ∧ Off (fun c => c = q7) W7 wx) (fun y _ => (16 - intOf y).toNat)
   case atStart => exact ⟨[], none, 0, rfl, by simp, HC7.out, Mk.nil _ _, Off.refl _ _⟩
   case round =>
    rename World => wx
    obtain ⟨lo, ao, co, rfl, hlo, bx, mk, po⟩ := hrel
    have HBX : Hid _ := bx
    have HMK : Hid _ := mk
    have HPO : Hid (Off (fun c => c = q7) W7 wx) := po
    clear bx mk po
    by_cases hil : lo.length < 16
    ·have i1 : decide ((lo.length : Int) < 16) = true := decide_eq_true (by omega)
     have i2 : decide (lo.length < 16) = true := decide_eq_true hil
     have ewj : RowKit.wrap64 ((lo.length : Int) + 1) = (lo.length : Int) + 1 := by simp only [RowKit.wrap64]; omega
     have ewk : IntKind.i64.wrap ((lo.length : Int) + 1) = (lo.length : Int) + 1 := by rw [IntKind.wrap_i64]; omega
     go_upto_region 10 with fail
     have HSW : Hid (W7.heap.size ≤ wx.heap.size) := HPO.out.size
     refine wp_region_held_drew (S := fun w' => Off (fun c => c = q7 ∨ blk ao = some c) wx w') (by kernel_rfl) ((Off.refl _ wx).drew) (fun hS => ?_)
     have BX := HBX.out.drew
     have MK := HMK.out.free ((Off.refl _ wx).drew)
     have MKA : Hid (∀ k, blk ao = some k → W7.heap.size ≤ k) := HMK.out.lo
     have MKL : Hid (∀ k, blk ao = some k → k < wx.heap.size) := HMK.out.own.lt
     have HSV : Hid (wx.heap.size ≤ wx.drew.heap.size) := Nat.le_refl _
     have HSV2 : Hid True := trivial
     generalize hdr : wx.drew = va at BX MK hS HSV ⊢
     clear hdr
     refine take_at (i := 0) 35 (v := .pointer (some ⟨q7, 8, none⟩)) rfl rfl (by kernel_rfl) (by kernel_rfl) (by kernel_rfl) (fun _ _ _ h => h) (Or.inl ⟨by rfl, fun w' hw' => by go_simp⟩) hS ?_
     simp only [Act.put, lsA, lsZ, lsS]
     refine take_at (i := 2) 37 (v := .int .i64 (lo.length : Int)) rfl rfl (by kernel_rfl) (by kernel_rfl) (by kernel_rfl) (fun _ _ _ h => h) (Or.inl ⟨by rfl, fun w' hw' => by go_simp⟩) hS ?_
     simp only [Act.put, lsA, lsZ, lsS]
     refine take_at (i := 3) 38 (v := .int .i64 ((lo.length : Int) + 1)) rfl rfl (by kernel_rfl) (by kernel_rfl) (by kernel_rfl) (fun _ _ _ h => h) (Or.inl ⟨by rfl, fun w' hw' => by go_simp⟩) hS ?_
     simp only [Act.put, lsA, lsZ, lsS]
     refine take_at (i := 4) 39 (v := .agg #[.int .i64 0, .int .i64 ((lo.length : Int) + 1)]) rfl rfl (by kernel_rfl) (by kernel_rfl) (by kernel_rfl) (fun _ _ _ h => h) (Or.inl ⟨by rfl, fun w' hw' => by go_simp⟩) hS ?_
     simp only [Act.put, lsA, lsZ, lsS]
     refine take_at (i := 5) 40 (v := .int .i64 (xs.length : Int)) rfl rfl (by kernel_rfl) (by kernel_rfl) (by kernel_rfl) (fun _ _ _ h => h) (Or.inl ⟨by rfl, fun w' hw' => by go_simp⟩) hS ?_
     simp only [Act.put, lsA, lsZ, lsS]
     refine wpAnyH_ready (rs := [1, 6]) (by kernel_rfl) (by simp) ?_
     refine AllReadyH.cons rfl (fun K' hK' => ?_) (AllReadyH.cons rfl (fun K' hK' => ?_) AllReadyH.nil)
     ·obtain ⟨x0, x1, x2, x3, x4, x5, x6, x7, x8⟩ := celw9 BX
      go_simp
      refine hK'.out _ _ hS (fun hS => ?_)
      clear hK' K' x0 x1 x2 x3 x4 x5 x6 x7 x8
      refine wpAnyH_ready (rs := [6]) (by kernel_rfl) (by simp) ?_
      refine AllReadyH.cons rfl (fun K' hK' => ?_) AllReadyH.nil
      have mx := HMX.out
      go_simp
      refine hK'.out _ _ (hS.alloc _) (fun hS => ?_)
      clear hK' K' mx
      have CZ := src_made va xs HX0.out
      have OZ : Off (fun _ => False) va (va.alloc (.cells (madeB xs.length) 5)) := (Off.refl _ va).alloc _
      have hzs : va.heap.size < (va.alloc (.cells (madeB xs.length) 5)).heap.size := by rw [World.size_alloc]; exact Nat.lt_succ_self _
      have hcz : wx.heap.size ≤ va.heap.size := by have := HSV.out; omega
      generalize hqz : va.heap.size = qz at CZ hzs hcz ⊢
      generalize hvz : va.alloc (.cells (madeB xs.length) 5) = vz at CZ OZ hzs hS ⊢
      clear hqz hvz
      replace BX := BX.off OZ (fun h => h)
      replace MK := MK.free OZ
      have HUK : Hid (VOk vz ({ node := 0, num := (lo.length : Int) + 1, ad := some ⟨qz, 0, none⟩, data := xs, cap := xs.length, dead := false } : V)) := ⟨CZ, fun x h => by rw [HX0.out x h]; decide, by show -9223372036854775808 ≤ (0 : Int); decide, by show (0 : Int) ≤ 9223372036854775807; decide, by show _ ≤ (lo.length : Int) + 1; omega, by show (lo.length : Int) + 1 ≤ _; omega, by have := HXL.out; show xs.length ≤ _; omega⟩
      have HQZ : Hid (wx.heap.size ≤ qz ∧ qz < vz.heap.size) := ⟨hcz, hzs⟩
      clear CZ OZ hzs hcz
      refine take_at (i := 7) 42 (v := .agg #[.int .i64 0, .int .i64 ((lo.length : Int) + 1), .slice (some ⟨qz, 0, none⟩) xs.length xs.length, .bool false]) rfl rfl (by kernel_rfl) (by kernel_rfl) (by kernel_rfl) (fun _ _ _ h => h) (Or.inl ⟨by rfl, fun w' hw' => by go_simp⟩) hS ?_
      simp only [Act.put, lsA, lsZ, lsS]
      refine wpAnyH_ready (rs := [8]) (by kernel_rfl) (by simp) ?_
      refine AllReadyH.cons rfl (fun K' hK' => ?_) AllReadyH.nil
      go_simp
      refine hK'.out _ _ (hS.alloc _) (fun hS => ?_)
      clear hK' K'
      have CB : Cel vz.heap.size 44 #[.int .i64 0, .int .i64 ((lo.length : Int) + 1), .slice (some ⟨qz, 0, none⟩) xs.length xs.length, .bool false] (vz.alloc (.cells #[.int .i64 0, .int .i64 ((lo.length : Int) + 1), .slice (some ⟨qz, 0, none⟩) xs.length xs.length, .bool false] 44)) := Cel.new _ _ _
      have OB : Off (fun _ => False) vz (vz.alloc (.cells #[.int .i64 0, .int .i64 ((lo.length : Int) + 1), .slice (some ⟨qz, 0, none⟩) xs.length xs.length, .bool false] 44)) := (Off.refl _ vz).alloc _
      have hbs : vz.heap.size < (vz.alloc (.cells #[.int .i64 0, .int .i64 ((lo.length : Int) + 1), .slice (some ⟨qz, 0, none⟩) xs.length xs.length, .bool false] 44)).heap.size := by rw [World.size_alloc]; exact Nat.lt_succ_self _
      generalize hqb : vz.heap.size = qb at CB hbs ⊢
      generalize hvb : vz.alloc (.cells #[.int .i64 0, .int .i64 ((lo.length : Int) + 1), .slice (some ⟨qz, 0, none⟩) xs.length xs.length, .bool false] 44) = vc at CB OB hbs hS ⊢
      clear hqb hvb
      replace BX := BX.off OB (fun h => h)
      replace MK := MK.free OB
      have HUK2 : Hid (VOk vc ({ node := 0, num := (lo.length : Int) + 1, ad := some ⟨qz, 0, none⟩, data := xs, cap := xs.length, dead := false } : V)) := HUK.out.off OB (fun _ _ _ h => h)
      have HQZ2 : Hid (qz < vc.heap.size) := by have := HQZ.out; have := OB.size; show _ < _; omega
      have HCB : Hid _ := CB
      clear CB OB hbs
      have RB := row_one (v := ({ node := 0, num := (lo.length : Int) + 1, ad := some ⟨qz, 0, none⟩, data := xs, cap := xs.length, dead := false } : V)) HCB.out HUK2.out
      obtain ⟨a2, c2, v2, hr, own2, o2, at2⟩ := app_runV MK.own RB (fun h => by simp at h) (by simp; omega) 38
      refine wpAnyH_ready (rs := [9]) (by kernel_rfl) (by simp) ?_
      refine AllReadyH.cons rfl (fun K' hK' => ?_) AllReadyH.nil
      refine wp_append_if rfl (.tmp 36) (.tmp 43) rfl rfl rfl hr 44 rfl ?_
      simp only [Act.put, lsA, lsZ, lsS]
      have hS2 := hS.trans (o2.mono (E := fun c => c = q7 ∨ blk ao = some c) (fun _ _ h => .inr h)) (fun _ _ h => h)
      refine hK'.out _ _ hS2 (fun hS => ?_)
      clear hK' K' hr hS2
      refine take_at (i := 10) 45 (v := .pointer (some ⟨q7, 8, none⟩)) rfl rfl (by kernel_rfl) (by kernel_rfl) (by kernel_rfl) (fun _ _ _ h => h) (Or.inl ⟨by rfl, fun w' hw' => by go_simp⟩) hS ?_
      simp only [Act.put, lsA, lsZ, lsS]
      have MK2 := MK.snoc (u := ({ node := 0, num := (lo.length : Int) + 1, ad := some ⟨qz, 0, none⟩, data := xs, cap := xs.length, dead := false } : V)) (by have := HSW.out; have := HSV2.out; have := HQZ2.out; have := HQZ.out; omega) HUK2.out (fun k hk => by have hk : qz = k := (by simpa [blk] using hk); subst hk; exact ⟨by have := HSW.out; have := HQZ.out; omega, HQZ2.out, fun e => by have := MKL.out _ e; have := HQZ.out; omega⟩) own2 o2 at2
      have BX2 := BX.off o2 (fun e => by have := MKA.out q7 e; have := HL7.out; omega)
      obtain ⟨x0, x1, x2, x3, x4, x5, x6, x7, x8⟩ := celw9 BX2
      have fz := BX2.free
      refine wpAnyH_ready (rs := [11]) (by kernel_rfl) (by simp) ?_
      refine AllReadyH.cons rfl (fun K' hK' => ?_) AllReadyH.nil
      go_simp
      have hS3 := hS.setCell (p := ⟨q7, 8, none⟩) (.inl (.inl rfl)) (.slice a2 (lo ++ [({ node := 0, num := (lo.length : Int) + 1, ad := some ⟨qz, 0, none⟩, data := xs, cap := xs.length, dead := false } : V)]).length c2)
      simp only [List.length_append, List.length_cons, List.length_nil, Nat.zero_add] at hS3
      refine hK'.out _ _ hS3 (fun hS => ?_)
      clear hK' K' hS3
      refine wpAnyH_done (by kernel_rfl) ?_ _
      clear x0 x1 x2 x3 x4 x5 x6 x7 x8 fz
      have os := (Off.refl (fun c => c = q7) v2).setCell (p := ⟨q7, 8, none⟩) (.inl rfl) (.slice a2 (lo ++ [({ node := 0, num := (lo.length : Int) + 1, ad := some ⟨qz, 0, none⟩, data := xs, cap := xs.length, dead := false } : V)]).length c2)
      have BX3 := BX2.set 8 (.slice a2 (lo ++ [({ node := 0, num := (lo.length : Int) + 1, ad := some ⟨qz, 0, none⟩, data := xs, cap := xs.length, dead := false } : V)]).length c2)
      simp only [lsA, lsZ, lsS] at BX3
      have MK3 := MK2.off os (fun k h1 _ h2 => by have := HL7.out; omega)
      have OF := (HPO.out.mono (E := fun c => c = q7 ∨ W7.heap.size ≤ c) (fun _ _ h => .inl h)).trans hS (fun k _ h => h.elim .inl (fun e => .inr (MKA.out k e)))
      simp only [List.length_append, List.length_cons, List.length_nil, Nat.zero_add] at BX3 MK3 os
      have HB3 : Hid _ := BX3
      have HM3 : Hid _ := MK3
      have HOF : Hid _ := OF
      have hl2 : (lo ++ [({ node := 0, num := (lo.length : Int) + 1, ad := some ⟨qz, 0, none⟩, data := xs, cap := xs.length, dead := false } : V)]).length = lo.length + 1 := by simp
      clear BX BX2 BX3 MK MK2 MK3 OF hS own2 o2 at2 RB os
      go_wp2_with fail
      go_roundw
      case rel => exact ⟨lo ++ [({ node := 0, num := (lo.length : Int) + 1, ad := some ⟨qz, 0, none⟩, data := xs, cap := xs.length, dead := false } : V)], a2, c2, by rw [hl2]; go_num, by rw [hl2]; omega, by rw [hl2]; exact HB3.out, HM3.out, HOF.out.mono (fun k hk h => h.elim id (fun e => by omega))⟩
      case measure => simp [intOf]; omega
     ·have mx := HMX.out
      go_simp
      refine hK'.out _ _ (hS.alloc _) (fun hS => ?_)
      clear hK' K' mx
      have CZ := src_made va xs HX0.out
      have OZ : Off (fun _ => False) va (va.alloc (.cells (madeB xs.length) 5)) := (Off.refl _ va).alloc _
      have hzs : va.heap.size < (va.alloc (.cells (madeB xs.length) 5)).heap.size := by rw [World.size_alloc]; exact Nat.lt_succ_self _
      have hcz : wx.heap.size ≤ va.heap.size := by have := HSV.out; omega
      generalize hqz : va.heap.size = qz at CZ hzs hcz ⊢
      generalize hvz : va.alloc (.cells (madeB xs.length) 5) = vz at CZ OZ hzs hS ⊢
      clear hqz hvz
      replace BX := BX.off OZ (fun h => h)
      replace MK := MK.free OZ
      have HUK : Hid (VOk vz ({ node := 0, num := (lo.length : Int) + 1, ad := some ⟨qz, 0, none⟩, data := xs, cap := xs.length, dead := false } : V)) := ⟨CZ, fun x h => by rw [HX0.out x h]; decide, by show -9223372036854775808 ≤ (0 : Int); decide, by show (0 : Int) ≤ 9223372036854775807; decide, by show _ ≤ (lo.length : Int) + 1; omega, by show (lo.length : Int) + 1 ≤ _; omega, by have := HXL.out; show xs.length ≤ _; omega⟩
      have HQZ : Hid (wx.heap.size ≤ qz ∧ qz < vz.heap.size) := ⟨hcz, hzs⟩
      clear CZ OZ hzs hcz
      refine take_at (i := 7) 42 (v := .agg #[.int .i64 0, .int .i64 ((lo.length : Int) + 1), .slice (some ⟨qz, 0, none⟩) xs.length xs.length, .bool false]) rfl rfl (by kernel_rfl) (by kernel_rfl) (by kernel_rfl) (fun _ _ _ h => h) (Or.inl ⟨by rfl, fun w' hw' => by go_simp⟩) hS ?_
      simp only [Act.put, lsA, lsZ, lsS]
      refine wpAnyH_ready (rs := [1, 8]) (by kernel_rfl) (by simp) ?_
      refine AllReadyH.cons rfl (fun K' hK' => ?_) (AllReadyH.cons rfl (fun K' hK' => ?_) AllReadyH.nil)
      ·obtain ⟨x0, x1, x2, x3, x4, x5, x6, x7, x8⟩ := celw9 BX
       go_simp
       refine hK'.out _ _ hS (fun hS => ?_)
       clear hK' K' x0 x1 x2 x3 x4 x5 x6 x7 x8
       refine wpAnyH_ready (rs := [8]) (by kernel_rfl) (by simp) ?_
       refine AllReadyH.cons rfl (fun K' hK' => ?_) AllReadyH.nil
       go_simp
       refine hK'.out _ _ (hS.alloc _) (fun hS => ?_)
       clear hK' K'
       have CB : Cel vz.heap.size 44 #[.int .i64 0, .int .i64 ((lo.length : Int) + 1), .slice (some ⟨qz, 0, none⟩) xs.length xs.length, .bool false] (vz.alloc (.cells #[.int .i64 0, .int .i64 ((lo.length : Int) + 1), .slice (some ⟨qz, 0, none⟩) xs.length xs.length, .bool false] 44)) := Cel.new _ _ _
       have OB : Off (fun _ => False) vz (vz.alloc (.cells #[.int .i64 0, .int .i64 ((lo.length : Int) + 1), .slice (some ⟨qz, 0, none⟩) xs.length xs.length, .bool false] 44)) := (Off.refl _ vz).alloc _
       have hbs : vz.heap.size < (vz.alloc (.cells #[.int .i64 0, .int .i64 ((lo.length : Int) + 1), .slice (some ⟨qz, 0, none⟩) xs.length xs.length, .bool false] 44)).heap.size := by rw [World.size_alloc]; exact Nat.lt_succ_self _
       generalize hqb : vz.heap.size = qb at CB hbs ⊢
       generalize hvb : vz.alloc (.cells #[.int .i64 0, .int .i64 ((lo.length : Int) + 1), .slice (some ⟨qz, 0, none⟩) xs.length xs.length, .bool false] 44) = vc at CB OB hbs hS ⊢
       clear hqb hvb
       replace BX := BX.off OB (fun h => h)
       replace MK := MK.free OB
       have HUK2 : Hid (VOk vc ({ node := 0, num := (lo.length : Int) + 1, ad := some ⟨qz, 0, none⟩, data := xs, cap := xs.length, dead := false } : V)) := HUK.out.off OB (fun _ _ _ h => h)
       have HQZ2 : Hid (qz < vc.heap.size) := by have := HQZ.out; have := OB.size; show _ < _; omega
       have HCB : Hid _ := CB
       clear CB OB hbs
       have RB := row_one (v := ({ node := 0, num := (lo.length : Int) + 1, ad := some ⟨qz, 0, none⟩, data := xs, cap := xs.length, dead := false } : V)) HCB.out HUK2.out
       obtain ⟨a2, c2, v2, hr, own2, o2, at2⟩ := app_runV MK.own RB (fun h => by simp at h) (by simp; omega) 38
       refine wpAnyH_ready (rs := [9]) (by kernel_rfl) (by simp) ?_
       refine AllReadyH.cons rfl (fun K' hK' => ?_) AllReadyH.nil
       refine wp_append_if rfl (.tmp 36) (.tmp 43) rfl rfl rfl hr 44 rfl ?_
       simp only [Act.put, lsA, lsZ, lsS]
       have hS2 := hS.trans (o2.mono (E := fun c => c = q7 ∨ blk ao = some c) (fun _ _ h => .inr h)) (fun _ _ h => h)
       refine hK'.out _ _ hS2 (fun hS => ?_)
       clear hK' K' hr hS2
       refine take_at (i := 10) 45 (v := .pointer (some ⟨q7, 8, none⟩)) rfl rfl (by kernel_rfl) (by kernel_rfl) (by kernel_rfl) (fun _ _ _ h => h) (Or.inl ⟨by rfl, fun w' hw' => by go_simp⟩) hS ?_
       simp only [Act.put, lsA, lsZ, lsS]
       have MK2 := MK.snoc (u := ({ node := 0, num := (lo.length : Int) + 1, ad := some ⟨qz, 0, none⟩, data := xs, cap := xs.length, dead := false } : V)) (by have := HSW.out; have := HSV2.out; have := HQZ2.out; have := HQZ.out; omega) HUK2.out (fun k hk => by have hk : qz = k := (by simpa [blk] using hk); subst hk; exact ⟨by have := HSW.out; have := HQZ.out; omega, HQZ2.out, fun e => by have := MKL.out _ e; have := HQZ.out; omega⟩) own2 o2 at2
       have BX2 := BX.off o2 (fun e => by have := MKA.out q7 e; have := HL7.out; omega)
       obtain ⟨x0, x1, x2, x3, x4, x5, x6, x7, x8⟩ := celw9 BX2
       have fz := BX2.free
       refine wpAnyH_ready (rs := [11]) (by kernel_rfl) (by simp) ?_
       refine AllReadyH.cons rfl (fun K' hK' => ?_) AllReadyH.nil
       go_simp
       have hS3 := hS.setCell (p := ⟨q7, 8, none⟩) (.inl (.inl rfl)) (.slice a2 (lo ++ [({ node := 0, num := (lo.length : Int) + 1, ad := some ⟨qz, 0, none⟩, data := xs, cap := xs.length, dead := false } : V)]).length c2)
       simp only [List.length_append, List.length_cons, List.length_nil, Nat.zero_add] at hS3
       refine hK'.out _ _ hS3 (fun hS => ?_)
       clear hK' K' hS3
       refine wpAnyH_done (by kernel_rfl) ?_ _
       clear x0 x1 x2 x3 x4 x5 x6 x7 x8 fz
       have os := (Off.refl (fun c => c = q7) v2).setCell (p := ⟨q7, 8, none⟩) (.inl rfl) (.slice a2 (lo ++ [({ node := 0, num := (lo.length : Int) + 1, ad := some ⟨qz, 0, none⟩, data := xs, cap := xs.length, dead := false } : V)]).length c2)
       have BX3 := BX2.set 8 (.slice a2 (lo ++ [({ node := 0, num := (lo.length : Int) + 1, ad := some ⟨qz, 0, none⟩, data := xs, cap := xs.length, dead := false } : V)]).length c2)
       simp only [lsA, lsZ, lsS] at BX3
       have MK3 := MK2.off os (fun k h1 _ h2 => by have := HL7.out; omega)
       have OF := (HPO.out.mono (E := fun c => c = q7 ∨ W7.heap.size ≤ c) (fun _ _ h => .inl h)).trans hS (fun k _ h => h.elim .inl (fun e => .inr (MKA.out k e)))
       simp only [List.length_append, List.length_cons, List.length_nil, Nat.zero_add] at BX3 MK3 os
       have HB3 : Hid _ := BX3
       have HM3 : Hid _ := MK3
       have HOF : Hid _ := OF
       have hl2 : (lo ++ [({ node := 0, num := (lo.length : Int) + 1, ad := some ⟨qz, 0, none⟩, data := xs, cap := xs.length, dead := false } : V)]).length = lo.length + 1 := by simp
       clear BX BX2 BX3 MK MK2 MK3 OF hS own2 o2 at2 RB os
       go_wp2_with fail
       go_roundw
       case rel => exact ⟨lo ++ [({ node := 0, num := (lo.length : Int) + 1, ad := some ⟨qz, 0, none⟩, data := xs, cap := xs.length, dead := false } : V)], a2, c2, by rw [hl2]; go_num, by rw [hl2]; omega, by rw [hl2]; exact HB3.out, HM3.out, HOF.out.mono (fun k hk h => h.elim id (fun e => by omega))⟩
       case measure => simp [intOf]; omega
      ·go_simp
       refine hK'.out _ _ (hS.alloc _) (fun hS => ?_)
       clear hK' K'
       have CB : Cel vz.heap.size 44 #[.int .i64 0, .int .i64 ((lo.length : Int) + 1), .slice (some ⟨qz, 0, none⟩) xs.length xs.length, .bool false] (vz.alloc (.cells #[.int .i64 0, .int .i64 ((lo.length : Int) + 1), .slice (some ⟨qz, 0, none⟩) xs.length xs.length, .bool false] 44)) := Cel.new _ _ _
       have OB : Off (fun _ => False) vz (vz.alloc (.cells #[.int .i64 0, .int .i64 ((lo.length : Int) + 1), .slice (some ⟨qz, 0, none⟩) xs.length xs.length, .bool false] 44)) := (Off.refl _ vz).alloc _
       have hbs : vz.heap.size < (vz.alloc (.cells #[.int .i64 0, .int .i64 ((lo.length : Int) + 1), .slice (some ⟨qz, 0, none⟩) xs.length xs.length, .bool false] 44)).heap.size := by rw [World.size_alloc]; exact Nat.lt_succ_self _
       generalize hqb : vz.heap.size = qb at CB hbs ⊢
       generalize hvb : vz.alloc (.cells #[.int .i64 0, .int .i64 ((lo.length : Int) + 1), .slice (some ⟨qz, 0, none⟩) xs.length xs.length, .bool false] 44) = vc at CB OB hbs hS ⊢
       clear hqb hvb
       replace BX := BX.off OB (fun h => h)
       replace MK := MK.free OB
       have HUK2 : Hid (VOk vc ({ node := 0, num := (lo.length : Int) + 1, ad := some ⟨qz, 0, none⟩, data := xs, cap := xs.length, dead := false } : V)) := HUK.out.off OB (fun _ _ _ h => h)
       have HQZ2 : Hid (qz < vc.heap.size) := by have := HQZ.out; have := OB.size; show _ < _; omega
       have HCB : Hid _ := CB
       clear CB OB hbs
       refine wpAnyH_ready (rs := [1]) (by kernel_rfl) (by simp) ?_
       refine AllReadyH.cons rfl (fun K' hK' => ?_) AllReadyH.nil
       obtain ⟨x0, x1, x2, x3, x4, x5, x6, x7, x8⟩ := celw9 BX
       go_simp
       refine hK'.out _ _ hS (fun hS => ?_)
       clear hK' K' x0 x1 x2 x3 x4 x5 x6 x7 x8
       have RB := row_one (v := ({ node := 0, num := (lo.length : Int) + 1, ad := some ⟨qz, 0, none⟩, data := xs, cap := xs.length, dead := false } : V)) HCB.out HUK2.out
       obtain ⟨a2, c2, v2, hr, own2, o2, at2⟩ := app_runV MK.own RB (fun h => by simp at h) (by simp; omega) 38
       refine wpAnyH_ready (rs := [9]) (by kernel_rfl) (by simp) ?_
       refine AllReadyH.cons rfl (fun K' hK' => ?_) AllReadyH.nil
       refine wp_append_if rfl (.tmp 36) (.tmp 43) rfl rfl rfl hr 44 rfl ?_
       simp only [Act.put, lsA, lsZ, lsS]
       have hS2 := hS.trans (o2.mono (E := fun c => c = q7 ∨ blk ao = some c) (fun _ _ h => .inr h)) (fun _ _ h => h)
       refine hK'.out _ _ hS2 (fun hS => ?_)
       clear hK' K' hr hS2
       refine take_at (i := 10) 45 (v := .pointer (some ⟨q7, 8, none⟩)) rfl rfl (by kernel_rfl) (by kernel_rfl) (by kernel_rfl) (fun _ _ _ h => h) (Or.inl ⟨by rfl, fun w' hw' => by go_simp⟩) hS ?_
       simp only [Act.put, lsA, lsZ, lsS]
       have MK2 := MK.snoc (u := ({ node := 0, num := (lo.length : Int) + 1, ad := some ⟨qz, 0, none⟩, data := xs, cap := xs.length, dead := false } : V)) (by have := HSW.out; have := HSV2.out; have := HQZ2.out; have := HQZ.out; omega) HUK2.out (fun k hk => by have hk : qz = k := (by simpa [blk] using hk); subst hk; exact ⟨by have := HSW.out; have := HQZ.out; omega, HQZ2.out, fun e => by have := MKL.out _ e; have := HQZ.out; omega⟩) own2 o2 at2
       have BX2 := BX.off o2 (fun e => by have := MKA.out q7 e; have := HL7.out; omega)
       obtain ⟨x0, x1, x2, x3, x4, x5, x6, x7, x8⟩ := celw9 BX2
       have fz := BX2.free
       refine wpAnyH_ready (rs := [11]) (by kernel_rfl) (by simp) ?_
       refine AllReadyH.cons rfl (fun K' hK' => ?_) AllReadyH.nil
       go_simp
       have hS3 := hS.setCell (p := ⟨q7, 8, none⟩) (.inl (.inl rfl)) (.slice a2 (lo ++ [({ node := 0, num := (lo.length : Int) + 1, ad := some ⟨qz, 0, none⟩, data := xs, cap := xs.length, dead := false } : V)]).length c2)
       simp only [List.length_append, List.length_cons, List.length_nil, Nat.zero_add] at hS3
       refine hK'.out _ _ hS3 (fun hS => ?_)
       clear hK' K' hS3
       refine wpAnyH_done (by kernel_rfl) ?_ _
       clear x0 x1 x2 x3 x4 x5 x6 x7 x8 fz
       have os := (Off.refl (fun c => c = q7) v2).setCell (p := ⟨q7, 8, none⟩) (.inl rfl) (.slice a2 (lo ++ [({ node := 0, num := (lo.length : Int) + 1, ad := some ⟨qz, 0, none⟩, data := xs, cap := xs.length, dead := false } : V)]).length c2)
       have BX3 := BX2.set 8 (.slice a2 (lo ++ [({ node := 0, num := (lo.length : Int) + 1, ad := some ⟨qz, 0, none⟩, data := xs, cap := xs.length, dead := false } : V)]).length c2)
       simp only [lsA, lsZ, lsS] at BX3
       have MK3 := MK2.off os (fun k h1 _ h2 => by have := HL7.out; omega)
       have OF := (HPO.out.mono (E := fun c => c = q7 ∨ W7.heap.size ≤ c) (fun _ _ h => .inl h)).trans hS (fun k _ h => h.elim .inl (fun e => .inr (MKA.out k e)))
       simp only [List.length_append, List.length_cons, List.length_nil, Nat.zero_add] at BX3 MK3 os
       have HB3 : Hid _ := BX3
       have HM3 : Hid _ := MK3
       have HOF : Hid _ := OF
       have hl2 : (lo ++ [({ node := 0, num := (lo.length : Int) + 1, ad := some ⟨qz, 0, none⟩, data := xs, cap := xs.length, dead := false } : V)]).length = lo.length + 1 := by simp
       clear BX BX2 BX3 MK MK2 MK3 OF hS own2 o2 at2 RB os
       go_wp2_with fail
       go_roundw
       case rel => exact ⟨lo ++ [({ node := 0, num := (lo.length : Int) + 1, ad := some ⟨qz, 0, none⟩, data := xs, cap := xs.length, dead := false } : V)], a2, c2, by rw [hl2]; go_num, by rw [hl2]; omega, by rw [hl2]; exact HB3.out, HM3.out, HOF.out.mono (fun k hk h => h.elim id (fun e => by omega))⟩
       case measure => simp [intOf]; omega
    ·have i1 : decide ((lo.length : Int) < 16) = false := decide_eq_false (by omega)
     have i2 : decide (lo.length < 16) = false := decide_eq_false (by omega)
     have HEL : Hid (es.length < N) := hlt
     have O7 : Hid (Off (fun c => c = q7) W7 wx) := HPO.out
     have HOX : Hid (Off (fun _ => False) wo wx) := (HO7.out.trans HPO.out (fun c hc e => by have e : c = q7 := e; have := HQ7.out; omega))
     have D5 := HC5.out.off HOX.out (fun h => h)
     obtain ⟨kk, hkk⟩ : ∃ k, k = 97 + es.length := ⟨_, rfl⟩
     have hkk2 : kk ≤ 120 := by omega
     have eA : RowKit.wrap64 (97 + (es.length : Int)) = (kk : Int) := by simp only [RowKit.wrap64]; omega
     have eA2 : (97 : Int) + (es.length : Int) = (kk : Int) := by omega
     have eB : IntKind.u8.wrap (kk : Int) = (kk : Int) := by rw [IntKind.wrap_u8]; omega
     clear hkk
     obtain ⟨x0, x1, x2, x3, x4, x5, x6, x7, x8, x9⟩ := celw10 D5
     have x1 := conv_src (src_one wx kk)
     simp only [List.length_cons, List.length_nil, Nat.zero_add] at x1
     have OB1 : Off (fun _ => False) wx (wx.alloc (.cells #[.int .u8 (kk : Int)] 5)) := (Off.refl _ wx).alloc _
     obtain ⟨z0, z1, z2, z3, z4, z5, z6, z7, z8⟩ := celw9 HBX.out
     have hql : q7 < wx.heap.size := HBX.out.lt
     have hqn : ¬ q7 = wx.heap.size := by omega
     have OB2 : Off (fun _ => False) wx ((wx.alloc (.cells #[.int .u8 (kk : Int)] 5)).alloc (.cells #[.string (strOf [kk]), .int .i64 16, .int .i64 0, .int .i64 0, .int .i64 0, .int .i64 0, .int .i64 0, .int .i64 0, .int .i64 0, .slice ao lo.length co] 46)) := OB1.alloc _
     have cn := Cel.new (wx.alloc (.cells #[.int .u8 (kk : Int)] 5)) 46 #[.string (strOf [kk]), .int .i64 16, .int .i64 0, .int .i64 0, .int .i64 0, .int .i64 0, .int .i64 0, .int .i64 0, .int .i64 0, .slice ao lo.length co]
     have hcn : ∀ j x, (ecs (⟨strOf [kk], sf16, ao, co, lo⟩ : E))[j]? = some x → ((wx.alloc (.cells #[.int .u8 (kk : Int)] 5)).alloc (.cells #[.string (strOf [kk]), .int .i64 16, .int .i64 0, .int .i64 0, .int .i64 0, .int .i64 0, .int .i64 0, .int .i64 0, .int .i64 0, .slice ao lo.length co] 46)).cell? ⟨wx.heap.size + 1, j, none⟩ = some x := fun j x hj => by
      have cn1 := cn.cell j
      rw [World.size_alloc] at cn1
      rw [cn1]
      have ecu : ecs (⟨strOf [kk], sf16, ao, co, lo⟩ : E) = [.string (strOf [kk]), .int .i64 16, .int .i64 0, .int .i64 0, .int .i64 0, .int .i64 0, .int .i64 0, .int .i64 0, .int .i64 0, .slice ao lo.length co] := rfl
      rw [ecu] at hj
      simpa using hj
     have own5 := (HOWN.out.off HOX.out (fun _ _ _ h => h)).off OB2 (fun _ _ _ h => h)
     have HO2 : Hid (Off (fun _ => False) wo ((wx.alloc (.cells #[.int .u8 (kk : Int)] 5)).alloc (.cells #[.string (strOf [kk]), .int .i64 16, .int .i64 0, .int .i64 0, .int .i64 0, .int .i64 0, .int .i64 0, .int .i64 0, .int .i64 0, .slice ao lo.length co] 46))) := HOX.out.trans OB2 (fun _ _ h => h)
     have HNW : Hid (AptE WV.heap.size t ((wx.alloc (.cells #[.int .u8 (kk : Int)] 5)).alloc (.cells #[.string (strOf [kk]), .int .i64 16, .int .i64 0, .int .i64 0, .int .i64 0, .int .i64 0, .int .i64 0, .int .i64 0, .int .i64 0, .slice ao lo.length co] 46)) (⟨strOf [kk], sf16, ao, co, lo⟩ : E)) := AptE.new (M := W7.heap.size) ((HMK.out.free OB2).row) ⟨HMK.out.lo, fun v hv k hk => ((HMK.out.val v hv).2 k hk).1⟩ (by have := HO.out.size; have := HO7.out.size; have := HVO.out; omega) (fun i hi => by have := HOWN.out.lt i hi; have := HO7.out.size; omega)
     have hk1 : es.length ≤ 1000000 := by omega
     clear cn OB1 OB2
     go_wp2_with (at_builtin; refine wpList_appG rfl (.tmp 48) (.tmp 56) Try.underlying22 Try.infoE rfl (by decide) (by decide) ecs_len ecs_one rfl t c es rfl own5 (wx.heap.size + 1) 1 (⟨strOf [kk], sf16, ao, co, lo⟩ : E) rfl hcn hk1 ?_; intro t' c' w' ys hys own' off' at'; have D6 := (HC5.out.off HO2.out (fun h => h)).off off' (fun e => by have := HLO.out q5 e; have := HQ5.out; omega); have HD6 : Hid _ := D6; clear x0 x1 x2 x3 x4 x5 x6 x7 x8 x9 z0 z1 z2 z3 z4 z5 z6 z7 z8 D5 hql hqn; obtain ⟨y0, y1, y2, y3, y4, y5, y6, y7, y8, y9⟩ := celw10 D6; have fy := D6.free; clear D6)
     have HYS : Hid _ := hys.out
     have HYL : Hid (ys.length = es.length + 1) := by show _ = _; rw [hys.out]; simp
     have HOW' : Hid _ := own'
     have HOF' : Hid _ := off'
     have HAT' : Hid _ := at'
     have E5 : Cel q5 26 #[.int .i64 1, .int .i64 1, .int .i64 0, .int .i64 0, .int .i64 0, .string ⟨#[]⟩, .int .i64 0, .slice t' ys.length c', .slice none 0 0, .slice none 0 0] (w'.setCell ⟨q5, 7, none⟩ (.slice t' ys.length c')) := HD6.out.set 7 _
     have OS5 : Off (fun c => c = q5) w' (w'.setCell ⟨q5, 7, none⟩ (.slice t' ys.length c')) := (Off.refl (fun c => c = q5) w').setCell (p := ⟨q5, 7, none⟩) (.inl rfl) _
     clear own' off' at' hys own5 hcn y0 y1 y2 y3 y4 y5 y6 y7 y8 y9 fy x1 eA eA2 eB
     go_wp2_with fail
     go_roundw
     case rel =>
      have hyl := HYL.out
      have vw := HVW.out
      have s2 := HO2.out.size
      have at' := HAT'.out
      have so := HO.out.size
      have sv := HVO.out
      have q5v := HQ5.out
      have tf : ∀ i, blk t' = some i → WV.heap.size ≤ i := fun i hi => by
       rcases at' with h9 | h9
       ·exact HLO.out i (h9 ▸ hi)
       ·rw [h9, Option.some.injEq] at hi
        omega
      refine ⟨t', c', ys, by rw [hyl]; go_num, by rw [hyl]; omega, E5, HOW'.out.off OS5 (fun i _ hi e => by have e : i = q5 := e; have := tf i hi; omega), tf, fun x hx => ?_, ((HO.out.trans HO2.out (fun _ _ h => h)).trans HOF'.out (fun i hi e => by have := HLO.out i e; omega)).trans OS5 (fun i hi e => by have e : i = q5 := e; have := HQ5w.out; omega), by have := HOF'.out.size; have := OS5.size; omega⟩
      rw [HYS.out, List.mem_append, List.mem_singleton] at hx
      refine AptE.off (b := q5) ?_ OS5 (by omega)
      rcases hx with hx | rfl
      ·exact ((HBL.out x hx).off (b := q5) (HO2.out.mono (fun _ _ h => h.elim)) (by omega)).app HOF'.out at'
      ·exact HNW.out.app HOF'.out at'
     case measure => simp [intOf]; omega
  ·have g1b : decide ((es.length : Int) < (N : Int)) = false := decide_eq_false (by omega)
   have g2b : decide (es.length < N) = false := decide_eq_false (by omega)
   have HAT : Hid (MsgAt wo (⟨1, 1, 0, 0, 0, ⟨#[]⟩, 0, t, es.length, c, none, 0, 0, none, 0, 0⟩ : Mg) es [] []) := ⟨HOWN.out.ens (fun e he => (HBL.out e he).row), rfl, ⟨by simp, by show (0 : Nat) ≤ _; omega, fun i e hi => by simp at hi⟩, rfl, RowD.nil _ _ _ (by show (0 : Nat) ≤ _; omega), rfl⟩
   clear HOWN HBL HLO
   obtain ⟨x0, x1, x2, x3, x4, x5, x6, x7, x8, x9⟩ := celw10 HC5.out
   go_wp2_with fail
   refine (xencode_any (⟨1, 1, 0, 0, 0, ⟨#[]⟩, 0, t, es.length, c, none, 0, 0, none, 0, 0⟩ : Mg) es [] [] _ HAT.out).mono ?_
   rintro e w1 ⟨t1, c1, bs, er, rfl, hr1, own1, -, o1⟩
   clear x0 x1 x2 x3 x4 x5 x6 x7 x8 x9
   have HR1 : Hid _ := hr1
   have HW1 : Hid _ := own1
   have HO1 : Hid (Off (fun _ => False) wo w1) := o1
   clear hr1 own1 o1
   obtain ⟨x0, x1, x2, x3, x4, x5, x6, x7, x8, x9⟩ := celw10 (HC5.out.off HO1.out (fun h => h))
   go_wp2_with fail
   refine (zencode_any (⟨1, 1, 0, 0, 0, ⟨#[]⟩, 0, t, es.length, c, none, 0, 0, none, 0, 0⟩ : Mg) es [] [] _ (HAT.out.off HO1.out)).mono ?_
   rintro e w2 ⟨t2, c2, bs2, er2, rfl, hr2, own2, -, o2⟩
   clear x0 x1 x2 x3 x4 x5 x6 x7 x8 x9
   obtain ⟨rfl, rfl⟩ := HR1.out.uniq hr2
   have HW2 : Hid _ := own2
   have HX1 : Hid _ := HW1.out.off o2 (fun _ _ _ h => h)
   have HO2 : Hid (Off (fun _ => False) wo w2) := HO1.out.trans o2 (fun _ _ h => h)
   clear hr2 own2 o2 HR1 HW1 HO1
   obtain ⟨zs, hzl, hz0⟩ := zeros 60001
   have mk6 : ∀ W : World, (Instr.makeSlice 31 (.int .i64 60001) (.int .i64 60001)).run Try.prog W = .ok (.slice (some ⟨W.heap.size, 0, none⟩) 60001 60001) (W.alloc (.cells (madeB 60001) 5)) := fun W => make_run 60001 (by omega) W
   have SZ := src_made w2 zs hz0
   rw [hzl] at SZ
   have O6 : Off (fun _ => False) w2 (w2.alloc (.cells (madeB 60001) 5)) := (Off.refl _ w2).alloc _
   have HDC : Hid (∀ W, Src W (some ⟨w2.heap.size, 0, none⟩) 60001 zs → Calls Try.prog 18 #[.slice (some ⟨w2.heap.size, 0, none⟩) 60001 60001] W fun e w' => DecR zs W.heap.size e w' ∧ Off (fun _ => False) W w') := fun W h => by have := xdecode_any _ _ zs W h (fun x hx => by rw [hz0 x hx]; decide) (by rw [hzl]; omega); rw [hzl] at this; exact this
   have HSZ : Hid _ := SZ
   have HZL : Hid (zs.length = 60001) := hzl
   have HO6 : Hid (Off (fun _ => False) w2 (w2.alloc (.cells (madeB 60001) 5))) := O6
   clear SZ O6 hz0 hzl
   go_wp2_with fail
   refine (HDC.out _ HSZ.out).mono ?_
   rintro e w3 ⟨⟨⟨-, rfl⟩ | ⟨hle, -⟩ | ⟨hle, -⟩⟩, o3⟩
   rotate_left
   ·exact absurd hle (by have := HZL.out; omega)
   ·exact absurd hle (by have := HZL.out; omega)
   have HO3 : Hid (Off (fun _ => False) w2 w3) := HO6.out.trans o3 (fun _ _ h => h)
   clear o3 mk6
   go_upto_region 17 with fail
   have O8 : Off (fun _ => False) w3 (w3.alloc (.cells #[.int .i64 0, .int .i64 0, .int .i64 0, .int .i64 0, .int .i64 0, .string ⟨#[]⟩, .int .i64 0, .slice none 0 0, .slice none 0 0, .slice none 0 0] 26)) := (Off.refl _ w3).alloc _
   generalize w3.alloc (.cells #[.int .i64 0, .int .i64 0, .int .i64 0, .int .i64 0, .int .i64 0, .string ⟨#[]⟩, .int .i64 0, .slice none 0 0, .slice none 0 0, .slice none 0 0] 26) = w4 at O8 ⊢
   have HO4 : Hid (Off (fun _ => False) w2 w4) := HO3.out.trans O8 (fun _ _ h => h)
   clear O8
   have x1 := conv_src (HX1.out.off HO4.out (fun _ _ _ h => h)).src
   have x2 := conv_src (HW2.out.off HO4.out (fun _ _ _ h => h)).src
   go_wp2_with fail
   refine (awake_any _).mono ?_
   rintro e w5 ⟨rfl, o5⟩
   go_wp2_with fail
   go_ret
   exact ⟨rfl, ((HO.out.trans HO2.out (fun _ _ h => h)).trans HO4.out (fun _ _ h => h)).trans o5 (fun _ _ h => h)⟩
end Go.Proofs.Ytmbphlkohlggfaa
