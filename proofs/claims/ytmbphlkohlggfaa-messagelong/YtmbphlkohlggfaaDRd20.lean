/- Items of several texts. -/
import Derived.Test.YtmbphlkohlggfaaDQy18
import Derived.Test.YtmbphlkohlggfaaDSRe
import Derived.Test.YtmbphlkohlggfaaDRo20
namespace Go.Proofs.Ytmbphlkohlggfaa
set_option maxRecDepth 100000
open Go.RowKit
theorem OwnG.rowM {w : World} {a : Option Addr} {cap : Nat} {ds : List (Int × Int)} (h : OwnG 63 2 dcs w a cap ds) : RowD w a cap ds := by
 refine ⟨?_, ?_, fun i d hi => ?_⟩
 ·rcases h.row.2 with ⟨hv, h0⟩ | ⟨g, c, cur, hv, hb, hh, hc, -⟩
  ·omega
  ·simp only [Value.slice.injEq] at hv
   obtain ⟨-, -, rfl⟩ := hv
   exact hc
 ·rcases h.row.2 with ⟨hv, h0⟩ | ⟨g, c, cur, hv, hb, hh, hc, hm, -⟩
  ·simp only [Value.slice.injEq] at hv
   omega
  ·simp only [Value.slice.injEq] at hv
   obtain ⟨-, -, rfl⟩ := hv
   unfold maxLen at hm
   omega
 ·obtain ⟨g, rfl, hc⟩ := h.at_ dcs_len hi
  refine ⟨g, 0, rfl, ?_, ?_⟩
  ·have := hc 0 _ rfl
   simpa using this
  ·have := hc 1 _ rfl
   simpa using this
theorem readInt_any {D : Nat → Prop} {b : Nat} {s : RS} {w : World} (hR : Rdr 125 D b s w) :
  Calls Try.prog 96 #[.pointer (some ⟨b, 0, none⟩)] w fun e w' => e = .returned (.int .i64 (i64w (numS s).1)) ∧ Rdr 125 D b (numS s).2 w' ∧ Off (fun c => c = b) w w' := by
 obtain ⟨n, hn⟩ : ∃ n, n = (numS s).1 := ⟨_, rfl⟩
 have hz : IntKind.i64.wrap (n : Int) = i64w n := rfl
 obtain ⟨x, hx⟩ : ∃ x, x = i64w n := ⟨_, rfl⟩
 rw [← hx] at hz
 rw [← hn, ← hx]
 have HN : Hid (n = (numS s).1) := hn
 clear hn hx
 go_enter Try.func96, Try.ntmps96
 go_wp2_with fail
 refine (rnum_any hR).mono ?_
 rw [← HN.out]
 rintro e w1 ⟨rfl, R1, o1⟩
 go_wp2_with fail
 go_ret
 exact ⟨rfl, R1, o1⟩
structure GotE (D : Nat → Prop) (b N : Nat) (R : Option (List (K) × RS)) (e : Ending) (w' : World) : Prop where
 is : (∃ (t : Option Addr) (c : Nat) (k : List (E)) (s' : RS), e = .returned (.tuple #[.slice t k.length c, .bool true]) ∧ R = some (k.map E.abs, s') ∧ Rdr 125 D b s' w' ∧ ∀ v, Off (fun c => c < N) w' v → Ens v t c k) ∨ (e = .returned (.tuple #[.slice none 0 0, .bool false]) ∧ R = none)
set_option maxHeartbeats 4000000 in
theorem readAllE_any {D : Nat → Prop} {b : Nat} {s : RS} {w : World} (hR : Rdr 125 D b s w) :
  Calls Try.prog 99 #[.pointer (some ⟨b, 0, none⟩), .int .i64 256, .func (.func 100) #[] #[]] w fun e w' => GotE D b w.heap.size (rdEs (countS 256 s).1 (countS 256 s).2) e w' ∧ Off (fun c => c = b) w w' := by
 obtain ⟨cnt, hcn⟩ : ∃ x, x = (countS 256 s).1 := ⟨_, rfl⟩
 obtain ⟨s2, hs2⟩ : ∃ x, x = (countS 256 s).2 := ⟨_, rfl⟩
 have HCO : Hid (countS 256 s = (cnt, s2)) := by show _ = _; rw [hcn, hs2]
 have HCN : Hid (cnt ≤ 256) := by show _ ≤ _; rw [hcn]; exact (count_ok 256 hR.ok).2.1
 rw [← hcn, ← hs2]
 obtain ⟨R, hR0⟩ : ∃ R, R = rdEs cnt s2 := ⟨_, rfl⟩
 rw [← hR0]
 have HR0 : Hid (R = (rdEs cnt s2).map (pre [])) := by show _ = _; rw [pre_nil, hR0]
 clear hcn hs2 hR0
 have HB : Hid (b < w.heap.size) := hR.here
 have HLD : Hid (∀ c, D c → c < w.heap.size) := hR.lt
 go_enter Try.func99, Try.ntmps99
 go_wp2_with fail
 refine (rcount_any hR 256 (by decide) (by decide)).mono ?_
 rw [show countS (256 : Int).toNat s = (cnt, s2) from HCO.out]
 dsimp only
 rintro e w0 ⟨rfl, R0, o0⟩
 have HRD0 : Hid _ := R0
 have HO0 : Hid (Off (fun c => c = b) w w0) := o0
 clear R0 o0 hR
 go_wp2_with fail
 go_loopw [8, 14] (fun x y wr => ∃ (i : Nat) (si : RS) (t : Option Addr) (c : Nat) (k : List (E)), y = .int .i64 (i : Int) ∧ x = .slice t k.length c ∧ i ≤ cnt ∧ k.length = i ∧ OwnG 46 10 ecs wr t c k ∧ (∀ i, blk t = some i → w.heap.size ≤ i) ∧ (∀ x ∈ k, AptE w.heap.size t wr x) ∧ R = (rdEs (cnt - i) si).map (pre (k.map E.abs)) ∧ Rdr 125 D b si wr ∧ Off (fun c => c = b) w wr) (fun _ y _ => (cnt - intOf y).toNat)
 case atStart => exact ⟨0, s2, none, 0, [], rfl, rfl, by omega, rfl, OwnG.nil _ _ _ _, fun i hi => by simp [blk] at hi, by simp, HR0.out, HRD0.out, HO0.out⟩
 case round =>
  clear HRD0 HO0 HR0
  obtain ⟨i, si, t, c, k, rfl, rfl, hi, hki, own, hlo, hbl, hR, rd, O⟩ := hrel
  have HOWN : Hid _ := own
  have HLO : Hid _ := hlo
  have HBL : Hid (∀ x ∈ k, AptE w.heap.size t wr x) := hbl
  have HDA : Hid (R = (rdEs (cnt - i) si).map (pre (k.map E.abs))) := hR
  have HKI : Hid (k.length = i) := hki
  have HRD : Hid _ := rd
  have HO : Hid (Off (fun c => c = b) w wr) := O
  clear own hlo hbl hR hki rd O
  have hcn9 := HCN.out
  by_cases hlt : i < cnt
  ·have g1b : decide ((i : Int) < (cnt : Int)) = true := decide_eq_true (by omega)
   have g2b : decide (i < cnt) = true := decide_eq_true hlt
   obtain ⟨ok, hok⟩ : ∃ ok, ok = reB nodeP si := ⟨_, rfl⟩
   go_wp2_with fail
   refine (readEntry_any HRD.out).mono ?_
   rw [← hok]
   rintro e w3 ⟨key, h, a1, c1, l1, rfl, hk, hh, hl, hrow, hfr, R3, o3⟩
   have HOK : Hid _ := hok
   clear hok
   have HK : Hid _ := hk
   have HH : Hid _ := hh
   have HL : Hid _ := hl
   have HNW : Hid ((∀ i, blk t = some i → i < wr.heap.size) → AptE w.heap.size t w3 (⟨key, h, a1, c1, l1⟩ : E)) := AptE.new hrow hfr HO.out.size
   have HR3 : Hid _ := R3
   have HO3 : Hid (Off (fun c => c = b) wr w3) := o3
   clear R3 o3 hk hh hl hrow hfr
   go_upto_region 5 with fail
   have CN := Cel.new w3 46 #[.string key, .int .i64 (h 0), .int .i64 (h 1), .int .i64 (h 2), .int .i64 (h 3), .int .i64 (h 4), .int .i64 (h 5), .int .i64 (h 6), .int .i64 (h 7), .slice a1 l1.length c1]
   have ON : Off (fun _ => False) w3 (w3.alloc (.cells #[.string key, .int .i64 (h 0), .int .i64 (h 1), .int .i64 (h 2), .int .i64 (h 3), .int .i64 (h 4), .int .i64 (h 5), .int .i64 (h 6), .int .i64 (h 7), .slice a1 l1.length c1] 46)) := (Off.refl _ w3).alloc _
   generalize hvv : w3.alloc (.cells #[.string key, .int .i64 (h 0), .int .i64 (h 1), .int .i64 (h 2), .int .i64 (h 3), .int .i64 (h 4), .int .i64 (h 5), .int .i64 (h 6), .int .i64 (h 7), .slice a1 l1.length c1] 46) = w4 at CN ON ⊢
   generalize hpp : w3.heap.size = pp at CN ⊢
   clear hvv hpp
   have HR4 : Hid _ := HR3.out.off ON (fun h => h) (fun _ _ _ h => h)
   have HO4 : Hid (Off (fun c => c = b) wr w4) := HO3.out.trans (ON.mono (fun _ _ h => h.elim)) (fun _ _ h => h)
   have HNW4 : Hid ((∀ i, blk t = some i → i < wr.heap.size) → AptE w.heap.size t w4 (⟨key, h, a1, c1, l1⟩ : E)) := fun h => (HNW.out h).off (b := b) (ON.mono (fun _ _ h => h.elim)) HB.out
   clear HNW
   clear ON HR3 HO3
   cases ok with
   | false =>
    go_wp2_with fail
    refine bodyPost_ret (results_tmp2 rfl _ _ _) rfl ?_
    exact ⟨⟨.inr ⟨rfl, rdEs_no HDA.out (m := cnt - i - 1) (by omega) HOK.out.symm⟩⟩, HO.out.trans HO4.out (fun _ _ h => h)⟩
   | true =>
    have z0 := CN.cell 0
    have z1 := CN.cell 1
    have z2 := CN.cell 2
    have z3 := CN.cell 3
    have z4 := CN.cell 4
    have z5 := CN.cell 5
    have z6 := CN.cell 6
    have z7 := CN.cell 7
    have z8 := CN.cell 8
    have z9 := CN.cell 9
    simp at z0 z1 z2 z3 z4 z5 z6 z7 z8 z9
    clear CN
    obtain ⟨u, hu⟩ : ∃ u, u = (⟨key, h, a1, c1, l1⟩ : E) := ⟨_, rfl⟩
    have HU : Hid (u = (⟨key, h, a1, c1, l1⟩ : E)) := hu
    have ecu : ecs u = [.string key, .int .i64 (h 0), .int .i64 (h 1), .int .i64 (h 2), .int .i64 (h 3), .int .i64 (h 4), .int .i64 (h 5), .int .i64 (h 6), .int .i64 (h 7), .slice a1 l1.length c1] := by rw [hu]; rfl
    clear hu
    have OA : Off (fun _ => False) w4 (w4.alloc (.cells #[.string key, .int .i64 (h 0), .int .i64 (h 1), .int .i64 (h 2), .int .i64 (h 3), .int .i64 (h 4), .int .i64 (h 5), .int .i64 (h 6), .int .i64 (h 7), .slice a1 l1.length c1] 46)) := (Off.refl _ w4).alloc _
    have own5 := (HOWN.out.off HO4.out (fun c h e => by have := HLO.out c (by first | exact h | exact e); have := HB.out; omega)).off OA (fun _ _ _ h => h)
    have cn := Cel.new w4 46 #[.string key, .int .i64 (h 0), .int .i64 (h 1), .int .i64 (h 2), .int .i64 (h 3), .int .i64 (h 4), .int .i64 (h 5), .int .i64 (h 6), .int .i64 (h 7), .slice a1 l1.length c1]
    have hcn : ∀ j x, (ecs u)[j]? = some x → (w4.alloc (.cells #[.string key, .int .i64 (h 0), .int .i64 (h 1), .int .i64 (h 2), .int .i64 (h 3), .int .i64 (h 4), .int .i64 (h 5), .int .i64 (h 6), .int .i64 (h 7), .slice a1 l1.length c1] 46)).cell? ⟨w4.heap.size, j, none⟩ = some x := fun j x hj => by
     rw [cn.cell j]
     rw [ecu] at hj
     simpa using hj
    have HOA : Hid _ := OA
    have hk1 : k.length ≤ 1000000 := by have := HKI.out; have := HCN.out; omega
    clear OA cn ecu
    go_wp2_with (at_builtin; refine wpList_appG rfl (.tmp 24) (.tmp 26) Try.underlying22 Try.infoE rfl (by decide) (by decide) ecs_len ecs_one rfl t c k rfl own5 w4.heap.size 1 u rfl hcn hk1 ?_; intro t' c' w' ys hys own' off' at')
    have HYS : Hid _ := hys.out
    have hyl : ys.length = k.length + 1 := by rw [hys.out]; simp
    have HYL : Hid _ := hyl
    clear hys hyl hk1
    have HOW' : Hid _ := own'
    have HOF' : Hid _ := off'
    have HAT' : Hid _ := at'
    clear own' off' own5 hcn at' z0 z1 z2 z3 z4 z5 z6 z7 z8 z9
    go_wp2_with fail
    go_roundw
    case rel =>
     have hyl := HYL.out
     have hki := HKI.out
     have s4 := HO4.out.size
     have so := HO.out.size
     have at' := HAT'.out
     have sa := HOA.out.size
     have hb := HB.out
     have hcn := HCN.out
     have tf : ∀ i, blk t' = some i → w.heap.size ≤ i := fun i hi => by
      rcases at' with h9 | h9
      ·exact HLO.out i (h9 ▸ hi)
      ·rw [h9] at hi; simp only [World.size_alloc, Option.some.injEq] at hi; omega
     refine ⟨i + 1, reS si, t', c', ys, by go_num, rfl, by omega, by omega, HOW'.out, tf, fun x hx => ?_, ?_, ?_, (HO.out.trans (HO4.out.trans (HOA.out.mono (fun _ _ h => h.elim)) (fun _ _ h => h)) (fun _ _ h => h)).trans HOF'.out (fun i hi e => by have := HLO.out i e; omega)⟩
     ·rw [HYS.out, List.mem_append, List.mem_singleton] at hx
      rcases hx with hx | rfl
      ·exact (((HBL.out x hx).off HO4.out HB.out).off (b := b) (HOA.out.mono (fun _ _ h => h.elim)) HB.out).app HOF'.out at'
      ·rw [HU.out]
       exact ((HNW4.out HOWN.out.lt).off (b := b) (HOA.out.mono (fun _ _ h => h.elim)) HB.out).app HOF'.out at'
     ·have h1 := rdEs_go HDA.out (m := cnt - (i + 1)) (by omega) HOK.out.symm
      rw [HYS.out, List.map_append, List.map_singleton, HU.out, show E.abs (⟨key, h, a1, c1, l1⟩ : E) = (⟨reKey nodeP si, reF nodeP si, reL nodeP si⟩ : K) from by show K.mk _ _ _ = K.mk _ _ _; rw [← HK.out, ← HH.out, ← HL.out]]
      exact h1
     ·exact (HR4.out.off HOA.out (fun h => h) (fun _ _ _ h => h)).off HOF'.out (fun e => by have := HLO.out b e; omega) (fun c _ hc e => by have := HLO.out c e; have := HLD.out c hc; omega)
    case measure => simp [intOf]; omega
  ·obtain rfl : i = cnt := by omega
   have g1b : decide ((i : Int) < (i : Int)) = false := decide_eq_false (by omega)
   have g2b : decide (i < i) = false := decide_eq_false (by omega)
   go_wp2_with fail
   refine bodyPost_ret (results_tmp2 rfl _ _ _) rfl ?_
   exact ⟨⟨.inl ⟨t, c, k, si, rfl, rdEs_end HDA.out (by omega), HRD.out, fun v o => (HOWN.out.off o (fun c h e => by have := HLO.out c (by first | exact h | exact e); omega)).ens (fun x hx => (HBL.out x hx).keep o)⟩⟩, HO.out⟩
structure GotD (D : Nat → Prop) (b N : Nat) (R : Option (List (GK) × RS)) (e : Ending) (w' : World) : Prop where
 is : (∃ (t : Option Addr) (c : Nat) (k : List (G)) (s' : RS), e = .returned (.tuple #[.slice t k.length c, .bool true]) ∧ R = some (k.map G.abs, s') ∧ Rdr 125 D b s' w' ∧ ∀ v, Off (fun c => c < N) w' v → Dgs v t c k) ∨ (e = .returned (.tuple #[.slice none 0 0, .bool false]) ∧ R = none)
set_option maxHeartbeats 4000000 in
theorem readAllD_any {D : Nat → Prop} {b : Nat} {s : RS} {w : World} (hR : Rdr 125 D b s w) :
  Calls Try.prog 101 #[.pointer (some ⟨b, 0, none⟩), .int .i64 256, .func (.func 102) #[] #[]] w fun e w' => GotD D b w.heap.size (rdGs (countS 256 s).1 (countS 256 s).2) e w' ∧ Off (fun c => c = b) w w' := by
 obtain ⟨cnt, hcn⟩ : ∃ x, x = (countS 256 s).1 := ⟨_, rfl⟩
 obtain ⟨s2, hs2⟩ : ∃ x, x = (countS 256 s).2 := ⟨_, rfl⟩
 have HCO : Hid (countS 256 s = (cnt, s2)) := by show _ = _; rw [hcn, hs2]
 have HCN : Hid (cnt ≤ 256) := by show _ ≤ _; rw [hcn]; exact (count_ok 256 hR.ok).2.1
 rw [← hcn, ← hs2]
 obtain ⟨R, hR0⟩ : ∃ R, R = rdGs cnt s2 := ⟨_, rfl⟩
 rw [← hR0]
 have HR0 : Hid (R = (rdGs cnt s2).map (pre [])) := by show _ = _; rw [pre_nil, hR0]
 clear hcn hs2 hR0
 have HB : Hid (b < w.heap.size) := hR.here
 have HLD : Hid (∀ c, D c → c < w.heap.size) := hR.lt
 go_enter Try.func101, Try.ntmps101
 go_wp2_with fail
 refine (rcount_any hR 256 (by decide) (by decide)).mono ?_
 rw [show countS (256 : Int).toNat s = (cnt, s2) from HCO.out]
 dsimp only
 rintro e w0 ⟨rfl, R0, o0⟩
 have HRD0 : Hid _ := R0
 have HO0 : Hid (Off (fun c => c = b) w w0) := o0
 clear R0 o0 hR
 go_wp2_with fail
 go_loopw [8, 14] (fun x y wr => ∃ (i : Nat) (si : RS) (t : Option Addr) (c : Nat) (k : List (G)), y = .int .i64 (i : Int) ∧ x = .slice t k.length c ∧ i ≤ cnt ∧ k.length = i ∧ OwnG 53 10 gcs wr t c k ∧ (∀ i, blk t = some i → w.heap.size ≤ i) ∧ (∀ x ∈ k, AptD w.heap.size t wr x) ∧ R = (rdGs (cnt - i) si).map (pre (k.map G.abs)) ∧ Rdr 125 D b si wr ∧ Off (fun c => c = b) w wr) (fun _ y _ => (cnt - intOf y).toNat)
 case atStart => exact ⟨0, s2, none, 0, [], rfl, rfl, by omega, rfl, OwnG.nil _ _ _ _, fun i hi => by simp [blk] at hi, by simp, HR0.out, HRD0.out, HO0.out⟩
 case round =>
  clear HRD0 HO0 HR0
  obtain ⟨i, si, t, c, k, rfl, rfl, hi, hki, own, hlo, hbl, hR, rd, O⟩ := hrel
  have HOWN : Hid _ := own
  have HLO : Hid _ := hlo
  have HBL : Hid (∀ x ∈ k, AptD w.heap.size t wr x) := hbl
  have HDA : Hid (R = (rdGs (cnt - i) si).map (pre (k.map G.abs))) := hR
  have HKI : Hid (k.length = i) := hki
  have HRD : Hid _ := rd
  have HO : Hid (Off (fun c => c = b) w wr) := O
  clear own hlo hbl hR hki rd O
  have hcn9 := HCN.out
  by_cases hlt : i < cnt
  ·have g1b : decide ((i : Int) < (cnt : Int)) = true := decide_eq_true (by omega)
   have g2b : decide (i < cnt) = true := decide_eq_true hlt
   obtain ⟨ok, hok⟩ : ∃ ok, ok = drB nodeP si := ⟨_, rfl⟩
   go_wp2_with fail
   refine (dread_any HRD.out).mono ?_
   rw [← hok]
   rintro e w3 ⟨key, h, a1, c1, l1, rfl, hk, hh, hl, hrow, hfr, R3, o3⟩
   have HOK : Hid _ := hok
   clear hok
   have HK : Hid _ := hk
   have HH : Hid _ := hh
   have HL : Hid _ := hl
   have HNW : Hid ((∀ i, blk t = some i → i < wr.heap.size) → AptD w.heap.size t w3 (⟨key, h, a1, c1, l1⟩ : G)) := AptD.new hrow hfr HO.out.size
   have HR3 : Hid _ := R3
   have HO3 : Hid (Off (fun c => c = b) wr w3) := o3
   clear R3 o3 hk hh hl hrow hfr
   go_upto_region 5 with fail
   have CN := Cel.new w3 53 #[.string key, .int .i64 (h 0), .int .i64 (h 1), .int .i64 (h 2), .int .i64 (h 3), .int .i64 (h 4), .int .i64 (h 5), .int .i64 (h 6), .int .i64 (h 7), .slice a1 l1.length c1]
   have ON : Off (fun _ => False) w3 (w3.alloc (.cells #[.string key, .int .i64 (h 0), .int .i64 (h 1), .int .i64 (h 2), .int .i64 (h 3), .int .i64 (h 4), .int .i64 (h 5), .int .i64 (h 6), .int .i64 (h 7), .slice a1 l1.length c1] 53)) := (Off.refl _ w3).alloc _
   generalize hvv : w3.alloc (.cells #[.string key, .int .i64 (h 0), .int .i64 (h 1), .int .i64 (h 2), .int .i64 (h 3), .int .i64 (h 4), .int .i64 (h 5), .int .i64 (h 6), .int .i64 (h 7), .slice a1 l1.length c1] 53) = w4 at CN ON ⊢
   generalize hpp : w3.heap.size = pp at CN ⊢
   clear hvv hpp
   have HR4 : Hid _ := HR3.out.off ON (fun h => h) (fun _ _ _ h => h)
   have HO4 : Hid (Off (fun c => c = b) wr w4) := HO3.out.trans (ON.mono (fun _ _ h => h.elim)) (fun _ _ h => h)
   have HNW4 : Hid ((∀ i, blk t = some i → i < wr.heap.size) → AptD w.heap.size t w4 (⟨key, h, a1, c1, l1⟩ : G)) := fun h => (HNW.out h).off (b := b) (ON.mono (fun _ _ h => h.elim)) HB.out
   clear HNW
   clear ON HR3 HO3
   cases ok with
   | false =>
    go_wp2_with fail
    refine bodyPost_ret (results_tmp2 rfl _ _ _) rfl ?_
    exact ⟨⟨.inr ⟨rfl, rdGs_no HDA.out (m := cnt - i - 1) (by omega) HOK.out.symm⟩⟩, HO.out.trans HO4.out (fun _ _ h => h)⟩
   | true =>
    have z0 := CN.cell 0
    have z1 := CN.cell 1
    have z2 := CN.cell 2
    have z3 := CN.cell 3
    have z4 := CN.cell 4
    have z5 := CN.cell 5
    have z6 := CN.cell 6
    have z7 := CN.cell 7
    have z8 := CN.cell 8
    have z9 := CN.cell 9
    simp at z0 z1 z2 z3 z4 z5 z6 z7 z8 z9
    clear CN
    obtain ⟨u, hu⟩ : ∃ u, u = (⟨key, h, a1, c1, l1⟩ : G) := ⟨_, rfl⟩
    have HU : Hid (u = (⟨key, h, a1, c1, l1⟩ : G)) := hu
    have ecu : gcs u = [.string key, .int .i64 (h 0), .int .i64 (h 1), .int .i64 (h 2), .int .i64 (h 3), .int .i64 (h 4), .int .i64 (h 5), .int .i64 (h 6), .int .i64 (h 7), .slice a1 l1.length c1] := by rw [hu]; rfl
    clear hu
    have OA : Off (fun _ => False) w4 (w4.alloc (.cells #[.string key, .int .i64 (h 0), .int .i64 (h 1), .int .i64 (h 2), .int .i64 (h 3), .int .i64 (h 4), .int .i64 (h 5), .int .i64 (h 6), .int .i64 (h 7), .slice a1 l1.length c1] 53)) := (Off.refl _ w4).alloc _
    have own5 := (HOWN.out.off HO4.out (fun c h e => by have := HLO.out c (by first | exact h | exact e); have := HB.out; omega)).off OA (fun _ _ _ h => h)
    have cn := Cel.new w4 53 #[.string key, .int .i64 (h 0), .int .i64 (h 1), .int .i64 (h 2), .int .i64 (h 3), .int .i64 (h 4), .int .i64 (h 5), .int .i64 (h 6), .int .i64 (h 7), .slice a1 l1.length c1]
    have hcn : ∀ j x, (gcs u)[j]? = some x → (w4.alloc (.cells #[.string key, .int .i64 (h 0), .int .i64 (h 1), .int .i64 (h 2), .int .i64 (h 3), .int .i64 (h 4), .int .i64 (h 5), .int .i64 (h 6), .int .i64 (h 7), .slice a1 l1.length c1] 53)).cell? ⟨w4.heap.size, j, none⟩ = some x := fun j x hj => by
     rw [cn.cell j]
     rw [ecu] at hj
     simpa using hj
    have HOA : Hid _ := OA
    have hk1 : k.length ≤ 1000000 := by have := HKI.out; have := HCN.out; omega
    clear OA cn ecu
    go_wp2_with (at_builtin; refine wpList_appG rfl (.tmp 24) (.tmp 26) Try.underlying23 Try.infoG rfl (by decide) (by decide) gcs_len gcs_one rfl t c k rfl own5 w4.heap.size 1 u rfl hcn hk1 ?_; intro t' c' w' ys hys own' off' at')
    have HYS : Hid _ := hys.out
    have hyl : ys.length = k.length + 1 := by rw [hys.out]; simp
    have HYL : Hid _ := hyl
    clear hys hyl hk1
    have HOW' : Hid _ := own'
    have HOF' : Hid _ := off'
    have HAT' : Hid _ := at'
    clear own' off' own5 hcn at' z0 z1 z2 z3 z4 z5 z6 z7 z8 z9
    go_wp2_with fail
    go_roundw
    case rel =>
     have hyl := HYL.out
     have hki := HKI.out
     have s4 := HO4.out.size
     have so := HO.out.size
     have at' := HAT'.out
     have sa := HOA.out.size
     have hb := HB.out
     have hcn := HCN.out
     have tf : ∀ i, blk t' = some i → w.heap.size ≤ i := fun i hi => by
      rcases at' with h9 | h9
      ·exact HLO.out i (h9 ▸ hi)
      ·rw [h9] at hi; simp only [World.size_alloc, Option.some.injEq] at hi; omega
     refine ⟨i + 1, drS si, t', c', ys, by go_num, rfl, by omega, by omega, HOW'.out, tf, fun x hx => ?_, ?_, ?_, (HO.out.trans (HO4.out.trans (HOA.out.mono (fun _ _ h => h.elim)) (fun _ _ h => h)) (fun _ _ h => h)).trans HOF'.out (fun i hi e => by have := HLO.out i e; omega)⟩
     ·rw [HYS.out, List.mem_append, List.mem_singleton] at hx
      rcases hx with hx | rfl
      ·exact (((HBL.out x hx).off HO4.out HB.out).off (b := b) (HOA.out.mono (fun _ _ h => h.elim)) HB.out).app HOF'.out at'
      ·rw [HU.out]
       exact ((HNW4.out HOWN.out.lt).off (b := b) (HOA.out.mono (fun _ _ h => h.elim)) HB.out).app HOF'.out at'
     ·have h1 := rdGs_go HDA.out (m := cnt - (i + 1)) (by omega) HOK.out.symm
      rw [HYS.out, List.map_append, List.map_singleton, HU.out, show G.abs (⟨key, h, a1, c1, l1⟩ : G) = (⟨drKey nodeP si, drF nodeP si, drL nodeP si⟩ : GK) from by show GK.mk _ _ _ = GK.mk _ _ _; rw [← HK.out, ← HH.out, ← HL.out]]
      exact h1
     ·exact (HR4.out.off HOA.out (fun h => h) (fun _ _ _ h => h)).off HOF'.out (fun e => by have := HLO.out b e; omega) (fun c _ hc e => by have := HLO.out c e; have := HLD.out c hc; omega)
    case measure => simp [intOf]; omega
  ·obtain rfl : i = cnt := by omega
   have g1b : decide ((i : Int) < (i : Int)) = false := decide_eq_false (by omega)
   have g2b : decide (i < i) = false := decide_eq_false (by omega)
   go_wp2_with fail
   refine bodyPost_ret (results_tmp2 rfl _ _ _) rfl ?_
   exact ⟨⟨.inl ⟨t, c, k, si, rfl, rdGs_end HDA.out (by omega), HRD.out, fun v o => (HOWN.out.off o (fun c h e => by have := HLO.out c (by first | exact h | exact e); omega)).dgs (fun x hx => (HBL.out x hx).keep o)⟩⟩, HO.out⟩
structure GotM (D : Nat → Prop) (b N : Nat) (R : Option (List (Int × Int) × RS)) (e : Ending) (w' : World) : Prop where
 is : (∃ (t : Option Addr) (c : Nat) (k : List (Int × Int)) (s' : RS), e = .returned (.tuple #[.slice t k.length c, .bool true]) ∧ R = some (k, s') ∧ Rdr 125 D b s' w' ∧ ∀ v, Off (fun c => c < N) w' v → RowD v t c k) ∨ (e = .returned (.tuple #[.slice none 0 0, .bool false]) ∧ R = none)
set_option maxHeartbeats 4000000 in
theorem readAllM_any {D : Nat → Prop} {b : Nat} {s : RS} {w : World} (hR : Rdr 125 D b s w) :
  Calls Try.prog 103 #[.pointer (some ⟨b, 0, none⟩), .int .i64 8, .func (.func 104) #[] #[]] w fun e w' => GotM D b w.heap.size (rdMs (countS 8 s).1 (countS 8 s).2) e w' ∧ Off (fun c => c = b) w w' := by
 obtain ⟨cnt, hcn⟩ : ∃ x, x = (countS 8 s).1 := ⟨_, rfl⟩
 obtain ⟨s2, hs2⟩ : ∃ x, x = (countS 8 s).2 := ⟨_, rfl⟩
 have HCO : Hid (countS 8 s = (cnt, s2)) := by show _ = _; rw [hcn, hs2]
 have HCN : Hid (cnt ≤ 8) := by show _ ≤ _; rw [hcn]; exact (count_ok 8 hR.ok).2.1
 rw [← hcn, ← hs2]
 obtain ⟨R, hR0⟩ : ∃ R, R = rdMs cnt s2 := ⟨_, rfl⟩
 rw [← hR0]
 have HR0 : Hid (R = (rdMs cnt s2).map (pre [])) := by show _ = _; rw [pre_nil, hR0]
 clear hcn hs2 hR0
 have HB : Hid (b < w.heap.size) := hR.here
 have HLD : Hid (∀ c, D c → c < w.heap.size) := hR.lt
 go_enter Try.func103, Try.ntmps103
 go_wp2_with fail
 refine (rcount_any hR 8 (by decide) (by decide)).mono ?_
 rw [show countS (8 : Int).toNat s = (cnt, s2) from HCO.out]
 dsimp only
 rintro e w0 ⟨rfl, R0, o0⟩
 have HRD0 : Hid _ := R0
 have HO0 : Hid (Off (fun c => c = b) w w0) := o0
 clear R0 o0 hR
 go_wp2_with fail
 go_loopw [8, 14] (fun x y wr => ∃ (i : Nat) (si : RS) (t : Option Addr) (c : Nat) (k : List (Int × Int)), y = .int .i64 (i : Int) ∧ x = .slice t k.length c ∧ i ≤ cnt ∧ k.length = i ∧ OwnG 63 2 dcs wr t c k ∧ (∀ i, blk t = some i → w.heap.size ≤ i) ∧ (∀ x ∈ k, AptM w.heap.size t wr x) ∧ R = (rdMs (cnt - i) si).map (pre (k)) ∧ Rdr 125 D b si wr ∧ Off (fun c => c = b) w wr) (fun _ y _ => (cnt - intOf y).toNat)
 case atStart => exact ⟨0, s2, none, 0, [], rfl, rfl, by omega, rfl, OwnG.nil _ _ _ _, fun i hi => by simp [blk] at hi, by simp, HR0.out, HRD0.out, HO0.out⟩
 case round =>
  clear HRD0 HO0 HR0
  obtain ⟨i, si, t, c, k, rfl, rfl, hi, hki, own, hlo, hbl, hR, rd, O⟩ := hrel
  have HOWN : Hid _ := own
  have HLO : Hid _ := hlo
  have HBL : Hid (∀ x ∈ k, AptM w.heap.size t wr x) := hbl
  have HDA : Hid (R = (rdMs (cnt - i) si).map (pre (k))) := hR
  have HKI : Hid (k.length = i) := hki
  have HRD : Hid _ := rd
  have HO : Hid (Off (fun c => c = b) w wr) := O
  clear own hlo hbl hR hki rd O
  have hcn9 := HCN.out
  by_cases hlt : i < cnt
  ·have g1b : decide ((i : Int) < (cnt : Int)) = true := decide_eq_true (by omega)
   have g2b : decide (i < cnt) = true := decide_eq_true hlt
   obtain ⟨ok, hok⟩ : ∃ ok, ok = mrB si := ⟨_, rfl⟩
   go_wp2_with fail
   refine (mread_any HRD.out).mono ?_
   rw [← hok]
   rintro e w3 ⟨rfl, R3, o3⟩
   have HOK : Hid _ := hok
   clear hok
   have HR3 : Hid _ := R3
   have HO3 : Hid (Off (fun c => c = b) wr w3) := o3
   clear R3 o3
   go_upto_region 5 with fail
   have CN := Cel.new w3 63 #[.int .i64 (mrX si), .int .i64 (mrY si)]
   have ON : Off (fun _ => False) w3 (w3.alloc (.cells #[.int .i64 (mrX si), .int .i64 (mrY si)] 63)) := (Off.refl _ w3).alloc _
   generalize hvv : w3.alloc (.cells #[.int .i64 (mrX si), .int .i64 (mrY si)] 63) = w4 at CN ON ⊢
   generalize hpp : w3.heap.size = pp at CN ⊢
   clear hvv hpp
   have HR4 : Hid _ := HR3.out.off ON (fun h => h) (fun _ _ _ h => h)
   have HO4 : Hid (Off (fun c => c = b) wr w4) := HO3.out.trans (ON.mono (fun _ _ h => h.elim)) (fun _ _ h => h)
   clear ON HR3 HO3
   cases ok with
   | false =>
    go_wp2_with fail
    refine bodyPost_ret (results_tmp2 rfl _ _ _) rfl ?_
    exact ⟨⟨.inr ⟨rfl, rdMs_no HDA.out (m := cnt - i - 1) (by omega) HOK.out.symm⟩⟩, HO.out.trans HO4.out (fun _ _ h => h)⟩
   | true =>
    have z0 := CN.cell 0
    have z1 := CN.cell 1
    simp at z0 z1
    clear CN
    obtain ⟨u, hu⟩ : ∃ u, u = ((mrX si, mrY si) : Int × Int) := ⟨_, rfl⟩
    have HU : Hid (u = ((mrX si, mrY si) : Int × Int)) := hu
    have ecu : dcs u = [.int .i64 (mrX si), .int .i64 (mrY si)] := by rw [hu]; rfl
    clear hu
    have OA : Off (fun _ => False) w4 (w4.alloc (.cells #[.int .i64 (mrX si), .int .i64 (mrY si)] 63)) := (Off.refl _ w4).alloc _
    have own5 := (HOWN.out.off HO4.out (fun c h e => by have := HLO.out c (by first | exact h | exact e); have := HB.out; omega)).off OA (fun _ _ _ h => h)
    have cn := Cel.new w4 63 #[.int .i64 (mrX si), .int .i64 (mrY si)]
    have hcn : ∀ j x, (dcs u)[j]? = some x → (w4.alloc (.cells #[.int .i64 (mrX si), .int .i64 (mrY si)] 63)).cell? ⟨w4.heap.size, j, none⟩ = some x := fun j x hj => by
     rw [cn.cell j]
     rw [ecu] at hj
     simpa using hj
    have HOA : Hid _ := OA
    have hk1 : k.length ≤ 1000000 := by have := HKI.out; have := HCN.out; omega
    clear OA cn ecu
    go_wp2_with (at_builtin; refine wpList_appG rfl (.tmp 24) (.tmp 26) Try.underlying24 Try.infoMb rfl (by decide) (by decide) dcs_len dcs_one rfl t c k rfl own5 w4.heap.size 1 u rfl hcn hk1 ?_; intro t' c' w' ys hys own' off' at')
    have HYS : Hid _ := hys.out
    have hyl : ys.length = k.length + 1 := by rw [hys.out]; simp
    have HYL : Hid _ := hyl
    clear hys hyl hk1
    have HOW' : Hid _ := own'
    have HOF' : Hid _ := off'
    have HAT' : Hid _ := at'
    clear own' off' own5 hcn at' z0 z1
    go_wp2_with fail
    go_roundw
    case rel =>
     have hyl := HYL.out
     have hki := HKI.out
     have s4 := HO4.out.size
     have so := HO.out.size
     have at' := HAT'.out
     have sa := HOA.out.size
     have hb := HB.out
     have hcn := HCN.out
     have tf : ∀ i, blk t' = some i → w.heap.size ≤ i := fun i hi => by
      rcases at' with h9 | h9
      ·exact HLO.out i (h9 ▸ hi)
      ·rw [h9] at hi; simp only [World.size_alloc, Option.some.injEq] at hi; omega
     refine ⟨i + 1, mrS si, t', c', ys, by go_num, rfl, by omega, by omega, HOW'.out, tf, fun x hx => ?_, ?_, ?_, (HO.out.trans (HO4.out.trans (HOA.out.mono (fun _ _ h => h.elim)) (fun _ _ h => h)) (fun _ _ h => h)).trans HOF'.out (fun i hi e => by have := HLO.out i e; omega)⟩
     ·exact ⟨trivial⟩
     ·have h1 := rdMs_go HDA.out (m := cnt - (i + 1)) (by omega) HOK.out.symm
      rw [HYS.out, HU.out]
      exact h1
     ·exact (HR4.out.off HOA.out (fun h => h) (fun _ _ _ h => h)).off HOF'.out (fun e => by have := HLO.out b e; omega) (fun c _ hc e => by have := HLO.out c e; have := HLD.out c hc; omega)
    case measure => simp [intOf]; omega
  ·obtain rfl : i = cnt := by omega
   have g1b : decide ((i : Int) < (i : Int)) = false := decide_eq_false (by omega)
   have g2b : decide (i < i) = false := decide_eq_false (by omega)
   go_wp2_with fail
   refine bodyPost_ret (results_tmp2 rfl _ _ _) rfl ?_
   exact ⟨⟨.inl ⟨t, c, k, si, rfl, rdMs_end HDA.out (by omega), HRD.out, fun v o => (HOWN.out.off o (fun c h e => by have := HLO.out c (by first | exact h | exact e); omega)).rowM⟩⟩, HO.out⟩
end Go.Proofs.Ytmbphlkohlggfaa
