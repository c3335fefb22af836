/- Items of several texts. -/
import Derived.Deep.Cut
import Derived.Test.YtmbphlkohlggfaaDInsP
import Derived.Test.YtmbphlkohlggfaaDRefA
import Derived.Test.YtmbphlkohlggfaaDSRd
namespace Go.Proofs.Ytmbphlkohlggfaa
open Go.RowKit
structure Frh (N : Nat) (a : Option Addr) (l : List V) : Prop where
 lo : ∀ k, blk a = some k → N ≤ k
 val : ∀ v ∈ l, ∀ k, blk v.ad = some k → N ≤ k
theorem Frh.nil (N : Nat) : Frh N none [] := ⟨fun k hk => by simp [blk] at hk, fun v hv => by simp at hv⟩
theorem Row.far {N q : Nat} {w w' : World} {a : Option Addr} {c : Nat} {l : List V} (h : Row w a c l) (fr : Frh N a l) (hq : q < N) (o : Off (fun k => k = q) w w') : Row w' a c l :=
 h.offD o (fun k _ hk e => by have := fr.lo k hk; omega) (fun v hv k _ hk e => by have := fr.val v hv k hk; omega)
def rdSt (s : RS) : Nat → RS
 | 0 => s
 | n + 1 => valS (rdSt s n)
def rdL (nd : Nat → Int) (n : Nat) (s : RS) : List A := (List.range n).map fun i => rdA nd (rdSt s i)
theorem rdL_succ (nd : Nat → Int) (n : Nat) (s : RS) : rdL nd (n + 1) s = rdL nd n s ++ [rdA nd (rdSt s n)] := by simp [rdL, List.range_succ]
def srV (nd : Nat → Int) (s : RS) : List A := rdL nd (countS 16 (rdV s 8)).1 (countS 16 (rdV s 8)).2
def srS (s : RS) : RS := rdSt (countS 16 (rdV s 8)).2 (countS 16 (rdV s 8)).1
def srB (nd : Nat → Int) (s : RS) : Bool := readB s && decide ((srS s).2 = 0) && mayS (readF s) (srV nd s)
def srF (nd : Nat → Int) (s : RS) : Nat → Int := if srB nd s = true then readF s else zer
def srL (nd : Nat → Int) (s : RS) : List A := if srB nd s = true then srV nd s else []
theorem sr_no {nd : Nat → Int} {s : RS} (h : readB s = false ∨ decide ((srS s).2 = 0) = false ∨ mayS (readF s) (srV nd s) = false) : srB nd s = false ∧ zer = srF nd s ∧ cont [] = srL nd s := by
 have e : srB nd s = false := by
  unfold srB
  rcases h with h | h | h <;> simp [h]
 refine ⟨e, ?_, ?_⟩
 ·simp [srF, e]
 ·simp [srL, e, cont]
theorem sr_yes {nd : Nat → Int} {s : RS} (h1 : readB s = true) (h2 : decide ((srS s).2 = 0) = true) (h3 : mayS (readF s) (srV nd s) = true) : srB nd s = true ∧ readF s = srF nd s ∧ srV nd s = srL nd s := by
 have e : srB nd s = true := by simp [srB, h1, h2, h3]
 simp [srF, srL, e]
theorem rdV_ok {s : RS} (h : Ok s) : ∀ n, Ok (rdV s n)
 | 0 => h
 | n + 1 => (num_ok (rdV_ok h n)).1
set_option maxRecDepth 100000 in
set_option maxHeartbeats 4000000 in
theorem sread_any {D : Nat → Prop} {b : Nat} {s : RS} {w : World} (hR : Rdr 125 D b s w) :
  Calls Try.prog 121 #[.pointer (some ⟨b, 0, none⟩)] w fun e w' => ∃ (h : Nat → Int) (a' : Option Addr) (c' : Nat) (l' : List V), e = .returned (.tuple #[.agg #[.int .i64 (h 0), .int .i64 (h 1), .int .i64 (h 2), .int .i64 (h 3), .int .i64 (h 4), .int .i64 (h 5), .int .i64 (h 6), .int .i64 (h 7), .slice a' l'.length c'], .bool (srB nodeP s)]) ∧ h = srF nodeP s ∧ cont l' = srL nodeP s ∧ Row w' a' c' l' ∧ Frh w.heap.size a' l' ∧ Rdr 125 D b (srS s) w' ∧ Off (fun c => c = b) w w' := by
 have hnot := not_any
 have HB : Hid (b < w.heap.size) := hR.here
 have HLD : Hid (∀ c, D c → c < w.heap.size) := hR.lt
 obtain ⟨fF, hfF⟩ : ∃ f, f = readF s := ⟨_, rfl⟩
 obtain ⟨okB, hokB⟩ : ∃ x, x = readB s := ⟨_, rfl⟩
 obtain ⟨cnt, hcn⟩ : ∃ x, x = (countS 16 (rdV s 8)).1 := ⟨_, rfl⟩
 obtain ⟨s2, hs2⟩ : ∃ x, x = (countS 16 (rdV s 8)).2 := ⟨_, rfl⟩
 have HFF : Hid _ := hfF
 have HOK : Hid _ := hokB
 have HCN : Hid (countS 16 (rdV s 8) = (cnt, s2)) := by show _ = _; rw [hcn, hs2]
 have hc16 : cnt ≤ 16 := by rw [hcn]; exact (count_ok 16 (rdV_ok hR.ok 8)).2.1
 clear hfF hokB hcn hs2
 have C2 := Cel.new w 40 #[.int .i64 (zer 0), .int .i64 (zer 1), .int .i64 (zer 2), .int .i64 (zer 3), .int .i64 (zer 4), .int .i64 (zer 5), .int .i64 (zer 6), .int .i64 (zer 7), .slice none 0 0]
 have O : Off (fun _ => False) w (w.alloc (.cells #[.int .i64 (zer 0), .int .i64 (zer 1), .int .i64 (zer 2), .int .i64 (zer 3), .int .i64 (zer 4), .int .i64 (zer 5), .int .i64 (zer 6), .int .i64 (zer 7), .slice none 0 0] 40)) := (Off.refl _ w).alloc _
 have R0 := hR.off O (fun h => h) (fun _ _ _ h => h)
 clear hR
 go_enter Try.func121, Try.ntmps121
 go_upto_region 1 with fail
 have eW : w.alloc (.cells #[.int .i64 0, .int .i64 0, .int .i64 0, .int .i64 0, .int .i64 0, .int .i64 0, .int .i64 0, .int .i64 0, .slice none 0 0] 40) = w.alloc (.cells #[.int .i64 (zer 0), .int .i64 (zer 1), .int .i64 (zer 2), .int .i64 (zer 3), .int .i64 (zer 4), .int .i64 (zer 5), .int .i64 (zer 6), .int .i64 (zer 7), .slice none 0 0] 40) := rfl
 rw [eW]
 clear eW
 generalize hq : w.heap.size = q2 at C2 ⊢
 have HQ2 : Hid (w.heap.size ≤ q2) := by show _ ≤ _; omega
 generalize hv : w.alloc (.cells #[.int .i64 (zer 0), .int .i64 (zer 1), .int .i64 (zer 2), .int .i64 (zer 3), .int .i64 (zer 4), .int .i64 (zer 5), .int .i64 (zer 6), .int .i64 (zer 7), .slice none 0 0] 40) = W at C2 O R0 ⊢
 clear hq hv
 go_wp2_with fail
 refine (vread_any R0).mono ?_
 rw [← HFF.out, ← HOK.out]
 rintro e w1 ⟨rfl, R1, o1⟩
 replace C2 := C2.off o1 (fun e => by have := HB.out; have := HQ2.out; omega)
 have O1 : Off (fun c => c = b) w w1 := (O.mono (fun _ _ h => h.elim)).trans o1 (fun _ _ h => h)
 have hl2 := C2.lt
 clear R0 o1 O
 go_upto_region 2 with fail
 have C4 := Cel.new w1 37 #[.int .i64 (fF 0), .int .i64 (fF 1), .int .i64 (fF 2), .int .i64 (fF 3), .int .i64 (fF 4), .int .i64 (fF 5), .int .i64 (fF 6), .int .i64 (fF 7)]
 have OA : Off (fun _ => False) w1 (w1.alloc (.cells #[.int .i64 (fF 0), .int .i64 (fF 1), .int .i64 (fF 2), .int .i64 (fF 3), .int .i64 (fF 4), .int .i64 (fF 5), .int .i64 (fF 6), .int .i64 (fF 7)] 37)) := (Off.refl _ w1).alloc _
 generalize hq : w1.heap.size = q4 at C4 ⊢
 generalize hv : w1.alloc (.cells #[.int .i64 (fF 0), .int .i64 (fF 1), .int .i64 (fF 2), .int .i64 (fF 3), .int .i64 (fF 4), .int .i64 (fF 5), .int .i64 (fF 6), .int .i64 (fF 7)] 37) = w2 at C4 OA ⊢
 clear hq hv
 replace C2 := C2.off OA (fun h => h)
 have O2 := O1.trans (OA.mono (fun _ _ h => h.elim)) (fun _ _ h => h)
 have R2 := R1.off OA (fun h => h) (fun _ _ _ h => h)
 have hz2 := OA.size
 clear R1 OA O1
 obtain ⟨x0, x1, x2, x3, x4, x5, x6, x7⟩ := cel8 C4
 go_upto_region 3 with fail
 clear x0 x1 x2 x3 x4 x5 x6 x7
 have C6 := Cel.new w2 40 #[.int .i64 (fF 0), .int .i64 (fF 1), .int .i64 (fF 2), .int .i64 (fF 3), .int .i64 (fF 4), .int .i64 (fF 5), .int .i64 (fF 6), .int .i64 (fF 7), .slice none 0 0]
 have OA : Off (fun _ => False) w2 (w2.alloc (.cells #[.int .i64 (fF 0), .int .i64 (fF 1), .int .i64 (fF 2), .int .i64 (fF 3), .int .i64 (fF 4), .int .i64 (fF 5), .int .i64 (fF 6), .int .i64 (fF 7), .slice none 0 0] 40)) := (Off.refl _ w2).alloc _
 generalize hq : w2.heap.size = q6 at C6 ⊢
 have hq6 : q2 < q6 := by omega
 have hq7 : w.heap.size ≤ q6 := by have := O2.size; omega
 generalize hv : w2.alloc (.cells #[.int .i64 (fF 0), .int .i64 (fF 1), .int .i64 (fF 2), .int .i64 (fF 3), .int .i64 (fF 4), .int .i64 (fF 5), .int .i64 (fF 6), .int .i64 (fF 7), .slice none 0 0] 40) = w3 at C6 OA ⊢
 clear hq hv hz2 hl2
 replace C2 := C2.off OA (fun h => h)
 have O3 := O2.trans (OA.mono (fun _ _ h => h.elim)) (fun _ _ h => h)
 have R3 := R2.off OA (fun h => h) (fun _ _ _ h => h)
 clear R2 OA O2 C4
 go_wp2_with fail
 refine (rcount_any R3 16 (by decide) (by decide)).mono ?_
 rw [show countS (16 : Int).toNat (rdV s 8) = (cnt, s2) from HCN.out]
 dsimp only
 rintro e w8 ⟨rfl, R4, o4⟩
 have HQQ : Hid (q2 ≠ q6 ∧ w.heap.size ≤ q2) := ⟨by omega, HQ2.out⟩
 have HQ6 : Hid (w.heap.size ≤ q6) := hq7
 have HC6 : Hid _ := C6.off o4 (fun e => by have := HB.out; omega)
 have H28 : Hid _ := C2.off o4 (fun e => by have := HB.out; have := HQ2.out; omega)
 have HO8 : Hid (Off (fun c => c = b) w w8) := O3.trans o4 (fun _ _ h => h)
 have HR8 : Hid _ := R4
 have HL6 : Hid (q6 < w8.heap.size) := HC6.out.lt
 have HN : Hid (w.heap.size ≤ w8.heap.size) := HO8.out.size
 clear C6 C2 O3 R3 R4 o4 hq6 hq7
 go_wp2_with fail
 go_loopw [16] (fun y wr => ∃ (i : Nat) (lo : List V) (ao : Option Addr) (co : Nat), y = .int .i64 (i : Int) ∧ i ≤ cnt ∧ Cel q6 40 #[.int .i64 (fF 0), .int .i64 (fF 1), .int .i64 (fF 2), .int .i64 (fF 3), .int .i64 (fF 4), .int .i64 (fF 5), .int .i64 (fF 6), .int .i64 (fF 7), .slice ao lo.length co] wr ∧ Mk w8.heap.size wr ao co lo ∧ lo.length ≤ i ∧ cont lo = rdL nodeP i s2 ∧ Rdr 125 D b (rdSt s2 i) wr ∧ Off (fun c => c = b ∨ c = q6) w8 wr) (fun y _ => (cnt - intOf y).toNat)
 case atStart => exact ⟨0, [], none, 0, rfl, by omega, HC6.out, Mk.nil _ _, by simp, by simp [cont, rdL], HR8.out, Off.refl _ _⟩
 case round =>
  clear HC6 HR8
  obtain ⟨i, lo, ao, co, rfl, hi, bx, mk, hlol, hlo, rd, po⟩ := hrel
  have HBX : Hid _ := bx
  have HMK : Hid _ := mk
  have HLO : Hid _ := hlo
  have HRD : Hid _ := rd
  have HPO : Hid (Off (fun c => c = b ∨ c = q6) w8 wr) := po
  clear bx mk hlo rd po
  by_cases hil : i < cnt
  ·have i1 : decide ((i : Int) < (cnt : Int)) = true := decide_eq_true (by omega)
   have i2 : decide (i < cnt) = true := decide_eq_true hil
   go_upto_region 5 with fail
   have HSW : Hid (w8.heap.size ≤ wr.heap.size) := HPO.out.size
   refine wp_region_held_drew (S := fun w' => Off (fun c => c = b ∨ c = q6 ∨ blk ao = some c) wr w') (by kernel_rfl) ((Off.refl _ wr).drew) (fun hS => ?_)
   have BX := HBX.out.drew
   have MK := HMK.out.free ((Off.refl _ wr).drew)
   have RD := HRD.out.off ((Off.refl (fun _ => False) wr).drew) (fun h => h) (fun _ _ _ h => h)
   have MKA : Hid (∀ k, blk ao = some k → w8.heap.size ≤ k) := HMK.out.lo
   have MKL : Hid (∀ k, blk ao = some k → k < wr.heap.size) := HMK.out.own.lt
   have hv1 : wr.drew.heap.size = wr.heap.size := rfl
   generalize hdr : wr.drew = va at BX MK RD hS hv1 ⊢
   clear hdr
   refine take_at (i := 0) 18 (v := .pointer (some ⟨q6, 8, none⟩)) rfl rfl (by kernel_rfl) (by kernel_rfl) (by kernel_rfl) (fun _ _ _ h => h) (Or.inl ⟨by rfl, fun w' hw' => by go_simp⟩) hS ?_
   simp only [Act.put, lsA, lsZ, lsS]
   refine take_at (i := 2) 20 (v := .pointer (some ⟨b, 0, none⟩)) rfl rfl (by kernel_rfl) (by kernel_rfl) (by kernel_rfl) (fun _ _ _ h => h) (Or.inl ⟨by rfl, fun w' hw' => by go_simp⟩) hS ?_
   simp only [Act.put, lsA, lsZ, lsS]
   refine wpAnyH_ready (rs := [1, 3]) (by kernel_rfl) (by simp) ?_
   refine AllReadyH.cons rfl (fun K' hK' => ?_) (AllReadyH.cons rfl (fun K' hK' => ?_) AllReadyH.nil)
   ·obtain ⟨x0, x1, x2, x3, x4, x5, x6, x7, x8⟩ := cel9 BX
    go_simp
    refine hK'.out _ _ hS (fun hS => ?_)
    clear hK' K' x0 x1 x2 x3 x4 x5 x6 x7 x8
    refine wpAnyH_ready (rs := [3]) (by kernel_rfl) (by simp) ?_
    refine AllReadyH.cons rfl (fun K' hK' => ?_) AllReadyH.nil
    go_simp
    refine (readValue_any RD).mono ?_
    rintro e vb ⟨u, rfl, hu, uo, un, uk, RD2, o1⟩
    have hS1 := hS.trans (o1.mono (E := fun c => c = b ∨ c = q6 ∨ blk ao = some c) (fun _ _ h => .inl h)) (fun _ _ h => h)
    refine hK'.out _ _ hS1 (fun hS => ?_)
    clear hK' K' hS1
    replace BX := BX.off o1 (fun e => by have := HQ6.out; have := HB.out; omega)
    replace MK := MK.off o1 (fun k h1 _ e => by have := HB.out; have := HN.out; omega)
    have UK : VOk vb u ∧ ∀ k, blk u.ad = some k → va.heap.size ≤ k ∧ k < vb.heap.size := ⟨uk, fun k hk => ⟨un k hk, uo.lt k hk⟩⟩
    have HU : Hid _ := hu
    have HSZ : Hid (va.heap.size ≤ vb.heap.size) := o1.size
    clear uo uk un hu o1 RD
    refine wpAnyH_ready (rs := [4]) (by kernel_rfl) (by simp) ?_
    refine AllReadyH.cons rfl (fun K' hK' => ?_) AllReadyH.nil
    go_simp
    refine hK'.out _ _ (hS.alloc _) (fun hS => ?_)
    clear hK' K'
    have CB := Cel.new vb 44 #[.int .i64 u.node, .int .i64 u.num, .slice u.ad u.data.length u.cap, .bool u.dead]
    have OB : Off (fun _ => False) vb (vb.alloc (.cells #[.int .i64 u.node, .int .i64 u.num, .slice u.ad u.data.length u.cap, .bool u.dead] 44)) := (Off.refl _ vb).alloc _
    generalize hqb : vb.heap.size = qb at CB ⊢
    generalize hvb : vb.alloc (.cells #[.int .i64 u.node, .int .i64 u.num, .slice u.ad u.data.length u.cap, .bool u.dead] 44) = vc at CB OB hS ⊢
    clear hvb hqb
    replace BX := BX.off OB (fun h => h)
    replace MK := MK.free OB
    replace RD2 := RD2.off OB (fun h => h) (fun _ _ _ h => h)
    have RB := row_one CB (UK.1.off OB (fun _ _ _ h => h))
    obtain ⟨a2, c2, v2, hr, own2, o2, at2⟩ := app_runV MK.own RB (fun h => by simp at h) (by simp; omega) 38
    refine wpAnyH_ready (rs := [5]) (by kernel_rfl) (by simp) ?_
    refine AllReadyH.cons rfl (fun K' hK' => ?_) AllReadyH.nil
    refine wp_append_if rfl (.tmp 19) (.tmp 22) rfl rfl rfl hr 23 rfl ?_
    simp only [Act.put, lsA, lsZ, lsS]
    have hS2 := hS.trans (o2.mono (E := fun c => c = b ∨ c = q6 ∨ blk ao = some c) (fun _ _ h => .inr (.inr h))) (fun _ _ h => h)
    refine hK'.out _ _ hS2 (fun hS => ?_)
    clear hK' K' hr hS2
    refine take_at (i := 6) 24 (v := .pointer (some ⟨q6, 8, none⟩)) rfl rfl (by kernel_rfl) (by kernel_rfl) (by kernel_rfl) (fun _ _ _ h => h) (Or.inl ⟨by rfl, fun w' hw' => by go_simp⟩) hS ?_
    simp only [Act.put, lsA, lsZ, lsS]
    have szb := HSZ.out
    have szc := OB.size
    have MK2 := MK.snoc (u := u) (by have := HSW.out; omega) (UK.1.off OB (fun _ _ _ h => h)) (fun k hk => ⟨by have := (UK.2 k hk).1; have := HSW.out; omega, by have := (UK.2 k hk).2; omega, fun e => by have := MKL.out k e; have := (UK.2 k hk).1; omega⟩) own2 o2 at2
    have BX2 := BX.off o2 (fun e => by have := MKA.out q6 e; have := HL6.out; omega)
    have RD3 := RD2.off o2 (fun e => by have := MKA.out b e; have := HB.out; have := HN.out; omega) (fun c _ hc e => by have := MKA.out c e; have := HLD.out c hc; have := HN.out; omega)
    obtain ⟨x0, x1, x2, x3, x4, x5, x6, x7, x8⟩ := cel9 BX2
    have fz := BX2.free
    refine wpAnyH_ready (rs := [7]) (by kernel_rfl) (by simp) ?_
    refine AllReadyH.cons rfl (fun K' hK' => ?_) AllReadyH.nil
    go_simp
    have hS3 := hS.setCell (p := ⟨q6, 8, none⟩) (.inl (.inr (.inl rfl))) (.slice a2 (lo ++ [u]).length c2)
    simp only [List.length_append, List.length_cons, List.length_nil, Nat.zero_add] at hS3
    refine hK'.out _ _ hS3 (fun hS => ?_)
    clear hK' K' hS3
    refine wpAnyH_done (by kernel_rfl) ?_ _
    clear x0 x1 x2 x3 x4 x5 x6 x7 x8 fz
    have os := (Off.refl (fun c => c = q6) v2).setCell (p := ⟨q6, 8, none⟩) (.inl rfl) (.slice a2 (lo ++ [u]).length c2)
    have BX3 := BX2.set 8 (.slice a2 (lo ++ [u]).length c2)
    simp only [lsA, lsZ, lsS] at BX3
    have MK3 := MK2.off os (fun k h1 _ h2 => by have := HL6.out; omega)
    have RD4 := RD3.off os (fun e => by have := HQ6.out; have := HB.out; omega) (fun c _ hc e => by have := HLD.out c hc; have := HQ6.out; omega)
    have OF := (HPO.out.mono (E := fun c => c = b ∨ c = q6 ∨ w8.heap.size ≤ c) (fun _ _ h => h.elim .inl (fun h => .inr (.inl h)))).trans hS (fun k _ h => h.elim .inl (fun h => h.elim (fun h => .inr (.inl h)) (fun e => .inr (.inr (MKA.out k e)))))
    simp only [List.length_append, List.length_cons, List.length_nil, Nat.zero_add] at BX3 MK3 RD4 os
    have HB3 : Hid _ := BX3
    have HM3 : Hid _ := MK3
    have HR3 : Hid _ := RD4
    have HOF : Hid _ := OF
    have hl2 : (lo ++ [u]).length = lo.length + 1 := by simp
    have HLC : Hid (cont (lo ++ [u]) = rdL nodeP (i + 1) s2) := by
     show _ = _
     rw [rdL_succ, ← HLO.out, ← HU.out]
     simp [cont]
    clear BX BX2 BX3 MK MK2 MK3 OF hS own2 o2 at2 CB OB UK szb szc RB RD2 RD3 RD4 os
    go_wp2_with fail
    go_roundw
    case rel => exact ⟨i + 1, lo ++ [u], a2, c2, by go_num, by omega, by rw [hl2]; exact HB3.out, HM3.out, by rw [hl2]; omega, HLC.out, HR3.out, HOF.out.mono (fun k hk h => h.elim .inl (fun h => h.elim .inr (fun e => by omega)))⟩
    case measure => simp [intOf]; omega
   ·go_simp
    refine (readValue_any RD).mono ?_
    rintro e vb ⟨u, rfl, hu, uo, un, uk, RD2, o1⟩
    have hS1 := hS.trans (o1.mono (E := fun c => c = b ∨ c = q6 ∨ blk ao = some c) (fun _ _ h => .inl h)) (fun _ _ h => h)
    refine hK'.out _ _ hS1 (fun hS => ?_)
    clear hK' K' hS1
    replace BX := BX.off o1 (fun e => by have := HQ6.out; have := HB.out; omega)
    replace MK := MK.off o1 (fun k h1 _ e => by have := HB.out; have := HN.out; omega)
    have UK : VOk vb u ∧ ∀ k, blk u.ad = some k → va.heap.size ≤ k ∧ k < vb.heap.size := ⟨uk, fun k hk => ⟨un k hk, uo.lt k hk⟩⟩
    have HU : Hid _ := hu
    have HSZ : Hid (va.heap.size ≤ vb.heap.size) := o1.size
    clear uo uk un hu o1 RD
    refine wpAnyH_ready (rs := [1, 4]) (by kernel_rfl) (by simp) ?_
    refine AllReadyH.cons rfl (fun K' hK' => ?_) (AllReadyH.cons rfl (fun K' hK' => ?_) AllReadyH.nil)
    ·obtain ⟨x0, x1, x2, x3, x4, x5, x6, x7, x8⟩ := cel9 BX
     go_simp
     refine hK'.out _ _ hS (fun hS => ?_)
     clear hK' K' x0 x1 x2 x3 x4 x5 x6 x7 x8
     refine wpAnyH_ready (rs := [4]) (by kernel_rfl) (by simp) ?_
     refine AllReadyH.cons rfl (fun K' hK' => ?_) AllReadyH.nil
     go_simp
     refine hK'.out _ _ (hS.alloc _) (fun hS => ?_)
     clear hK' K'
     have CB := Cel.new vb 44 #[.int .i64 u.node, .int .i64 u.num, .slice u.ad u.data.length u.cap, .bool u.dead]
     have OB : Off (fun _ => False) vb (vb.alloc (.cells #[.int .i64 u.node, .int .i64 u.num, .slice u.ad u.data.length u.cap, .bool u.dead] 44)) := (Off.refl _ vb).alloc _
     generalize hqb : vb.heap.size = qb at CB ⊢
     generalize hvb : vb.alloc (.cells #[.int .i64 u.node, .int .i64 u.num, .slice u.ad u.data.length u.cap, .bool u.dead] 44) = vc at CB OB hS ⊢
     clear hvb hqb
     replace BX := BX.off OB (fun h => h)
     replace MK := MK.free OB
     replace RD2 := RD2.off OB (fun h => h) (fun _ _ _ h => h)
     have RB := row_one CB (UK.1.off OB (fun _ _ _ h => h))
     obtain ⟨a2, c2, v2, hr, own2, o2, at2⟩ := app_runV MK.own RB (fun h => by simp at h) (by simp; omega) 38
     refine wpAnyH_ready (rs := [5]) (by kernel_rfl) (by simp) ?_
     refine AllReadyH.cons rfl (fun K' hK' => ?_) AllReadyH.nil
     refine wp_append_if rfl (.tmp 19) (.tmp 22) rfl rfl rfl hr 23 rfl ?_
     simp only [Act.put, lsA, lsZ, lsS]
     have hS2 := hS.trans (o2.mono (E := fun c => c = b ∨ c = q6 ∨ blk ao = some c) (fun _ _ h => .inr (.inr h))) (fun _ _ h => h)
     refine hK'.out _ _ hS2 (fun hS => ?_)
     clear hK' K' hr hS2
     refine take_at (i := 6) 24 (v := .pointer (some ⟨q6, 8, none⟩)) rfl rfl (by kernel_rfl) (by kernel_rfl) (by kernel_rfl) (fun _ _ _ h => h) (Or.inl ⟨by rfl, fun w' hw' => by go_simp⟩) hS ?_
     simp only [Act.put, lsA, lsZ, lsS]
     have szb := HSZ.out
     have szc := OB.size
     have MK2 := MK.snoc (u := u) (by have := HSW.out; omega) (UK.1.off OB (fun _ _ _ h => h)) (fun k hk => ⟨by have := (UK.2 k hk).1; have := HSW.out; omega, by have := (UK.2 k hk).2; omega, fun e => by have := MKL.out k e; have := (UK.2 k hk).1; omega⟩) own2 o2 at2
     have BX2 := BX.off o2 (fun e => by have := MKA.out q6 e; have := HL6.out; omega)
     have RD3 := RD2.off o2 (fun e => by have := MKA.out b e; have := HB.out; have := HN.out; omega) (fun c _ hc e => by have := MKA.out c e; have := HLD.out c hc; have := HN.out; omega)
     obtain ⟨x0, x1, x2, x3, x4, x5, x6, x7, x8⟩ := cel9 BX2
     have fz := BX2.free
     refine wpAnyH_ready (rs := [7]) (by kernel_rfl) (by simp) ?_
     refine AllReadyH.cons rfl (fun K' hK' => ?_) AllReadyH.nil
     go_simp
     have hS3 := hS.setCell (p := ⟨q6, 8, none⟩) (.inl (.inr (.inl rfl))) (.slice a2 (lo ++ [u]).length c2)
     simp only [List.length_append, List.length_cons, List.length_nil, Nat.zero_add] at hS3
     refine hK'.out _ _ hS3 (fun hS => ?_)
     clear hK' K' hS3
     refine wpAnyH_done (by kernel_rfl) ?_ _
     clear x0 x1 x2 x3 x4 x5 x6 x7 x8 fz
     have os := (Off.refl (fun c => c = q6) v2).setCell (p := ⟨q6, 8, none⟩) (.inl rfl) (.slice a2 (lo ++ [u]).length c2)
     have BX3 := BX2.set 8 (.slice a2 (lo ++ [u]).length c2)
     simp only [lsA, lsZ, lsS] at BX3
     have MK3 := MK2.off os (fun k h1 _ h2 => by have := HL6.out; omega)
     have RD4 := RD3.off os (fun e => by have := HQ6.out; have := HB.out; omega) (fun c _ hc e => by have := HLD.out c hc; have := HQ6.out; omega)
     have OF := (HPO.out.mono (E := fun c => c = b ∨ c = q6 ∨ w8.heap.size ≤ c) (fun _ _ h => h.elim .inl (fun h => .inr (.inl h)))).trans hS (fun k _ h => h.elim .inl (fun h => h.elim (fun h => .inr (.inl h)) (fun e => .inr (.inr (MKA.out k e)))))
     simp only [List.length_append, List.length_cons, List.length_nil, Nat.zero_add] at BX3 MK3 RD4 os
     have HB3 : Hid _ := BX3
     have HM3 : Hid _ := MK3
     have HR3 : Hid _ := RD4
     have HOF : Hid _ := OF
     have hl2 : (lo ++ [u]).length = lo.length + 1 := by simp
     have HLC : Hid (cont (lo ++ [u]) = rdL nodeP (i + 1) s2) := by
      show _ = _
      rw [rdL_succ, ← HLO.out, ← HU.out]
      simp [cont]
     clear BX BX2 BX3 MK MK2 MK3 OF hS own2 o2 at2 CB OB UK szb szc RB RD2 RD3 RD4 os
     go_wp2_with fail
     go_roundw
     case rel => exact ⟨i + 1, lo ++ [u], a2, c2, by go_num, by omega, by rw [hl2]; exact HB3.out, HM3.out, by rw [hl2]; omega, HLC.out, HR3.out, HOF.out.mono (fun k hk h => h.elim .inl (fun h => h.elim .inr (fun e => by omega)))⟩
     case measure => simp [intOf]; omega
    ·go_simp
     refine hK'.out _ _ (hS.alloc _) (fun hS => ?_)
     clear hK' K'
     have CB := Cel.new vb 44 #[.int .i64 u.node, .int .i64 u.num, .slice u.ad u.data.length u.cap, .bool u.dead]
     have OB : Off (fun _ => False) vb (vb.alloc (.cells #[.int .i64 u.node, .int .i64 u.num, .slice u.ad u.data.length u.cap, .bool u.dead] 44)) := (Off.refl _ vb).alloc _
     generalize hqb : vb.heap.size = qb at CB ⊢
     generalize hvb : vb.alloc (.cells #[.int .i64 u.node, .int .i64 u.num, .slice u.ad u.data.length u.cap, .bool u.dead] 44) = vc at CB OB hS ⊢
     clear hvb hqb
     replace BX := BX.off OB (fun h => h)
     replace MK := MK.free OB
     replace RD2 := RD2.off OB (fun h => h) (fun _ _ _ h => h)
     refine wpAnyH_ready (rs := [1]) (by kernel_rfl) (by simp) ?_
     refine AllReadyH.cons rfl (fun K' hK' => ?_) AllReadyH.nil
     obtain ⟨x0, x1, x2, x3, x4, x5, x6, x7, x8⟩ := cel9 BX
     go_simp
     refine hK'.out _ _ hS (fun hS => ?_)
     clear hK' K' x0 x1 x2 x3 x4 x5 x6 x7 x8
     have RB := row_one CB (UK.1.off OB (fun _ _ _ h => h))
     obtain ⟨a2, c2, v2, hr, own2, o2, at2⟩ := app_runV MK.own RB (fun h => by simp at h) (by simp; omega) 38
     refine wpAnyH_ready (rs := [5]) (by kernel_rfl) (by simp) ?_
     refine AllReadyH.cons rfl (fun K' hK' => ?_) AllReadyH.nil
     refine wp_append_if rfl (.tmp 19) (.tmp 22) rfl rfl rfl hr 23 rfl ?_
     simp only [Act.put, lsA, lsZ, lsS]
     have hS2 := hS.trans (o2.mono (E := fun c => c = b ∨ c = q6 ∨ blk ao = some c) (fun _ _ h => .inr (.inr h))) (fun _ _ h => h)
     refine hK'.out _ _ hS2 (fun hS => ?_)
     clear hK' K' hr hS2
     refine take_at (i := 6) 24 (v := .pointer (some ⟨q6, 8, none⟩)) rfl rfl (by kernel_rfl) (by kernel_rfl) (by kernel_rfl) (fun _ _ _ h => h) (Or.inl ⟨by rfl, fun w' hw' => by go_simp⟩) hS ?_
     simp only [Act.put, lsA, lsZ, lsS]
     have szb := HSZ.out
     have szc := OB.size
     have MK2 := MK.snoc (u := u) (by have := HSW.out; omega) (UK.1.off OB (fun _ _ _ h => h)) (fun k hk => ⟨by have := (UK.2 k hk).1; have := HSW.out; omega, by have := (UK.2 k hk).2; omega, fun e => by have := MKL.out k e; have := (UK.2 k hk).1; omega⟩) own2 o2 at2
     have BX2 := BX.off o2 (fun e => by have := MKA.out q6 e; have := HL6.out; omega)
     have RD3 := RD2.off o2 (fun e => by have := MKA.out b e; have := HB.out; have := HN.out; omega) (fun c _ hc e => by have := MKA.out c e; have := HLD.out c hc; have := HN.out; omega)
     obtain ⟨x0, x1, x2, x3, x4, x5, x6, x7, x8⟩ := cel9 BX2
     have fz := BX2.free
     refine wpAnyH_ready (rs := [7]) (by kernel_rfl) (by simp) ?_
     refine AllReadyH.cons rfl (fun K' hK' => ?_) AllReadyH.nil
     go_simp
     have hS3 := hS.setCell (p := ⟨q6, 8, none⟩) (.inl (.inr (.inl rfl))) (.slice a2 (lo ++ [u]).length c2)
     simp only [List.length_append, List.length_cons, List.length_nil, Nat.zero_add] at hS3
     refine hK'.out _ _ hS3 (fun hS => ?_)
     clear hK' K' hS3
     refine wpAnyH_done (by kernel_rfl) ?_ _
     clear x0 x1 x2 x3 x4 x5 x6 x7 x8 fz
     have os := (Off.refl (fun c => c = q6) v2).setCell (p := ⟨q6, 8, none⟩) (.inl rfl) (.slice a2 (lo ++ [u]).length c2)
     have BX3 := BX2.set 8 (.slice a2 (lo ++ [u]).length c2)
     simp only [lsA, lsZ, lsS] at BX3
     have MK3 := MK2.off os (fun k h1 _ h2 => by have := HL6.out; omega)
     have RD4 := RD3.off os (fun e => by have := HQ6.out; have := HB.out; omega) (fun c _ hc e => by have := HLD.out c hc; have := HQ6.out; omega)
     have OF := (HPO.out.mono (E := fun c => c = b ∨ c = q6 ∨ w8.heap.size ≤ c) (fun _ _ h => h.elim .inl (fun h => .inr (.inl h)))).trans hS (fun k _ h => h.elim .inl (fun h => h.elim (fun h => .inr (.inl h)) (fun e => .inr (.inr (MKA.out k e)))))
     simp only [List.length_append, List.length_cons, List.length_nil, Nat.zero_add] at BX3 MK3 RD4 os
     have HB3 : Hid _ := BX3
     have HM3 : Hid _ := MK3
     have HR3 : Hid _ := RD4
     have HOF : Hid _ := OF
     have hl2 : (lo ++ [u]).length = lo.length + 1 := by simp
     have HLC : Hid (cont (lo ++ [u]) = rdL nodeP (i + 1) s2) := by
      show _ = _
      rw [rdL_succ, ← HLO.out, ← HU.out]
      simp [cont]
     clear BX BX2 BX3 MK MK2 MK3 OF hS own2 o2 at2 CB OB UK szb szc RB RD2 RD3 RD4 os
     go_wp2_with fail
     go_roundw
     case rel => exact ⟨i + 1, lo ++ [u], a2, c2, by go_num, by omega, by rw [hl2]; exact HB3.out, HM3.out, by rw [hl2]; omega, HLC.out, HR3.out, HOF.out.mono (fun k hk h => h.elim .inl (fun h => h.elim .inr (fun e => by omega)))⟩
     case measure => simp [intOf]; omega
  ·have i1 : decide ((i : Int) < (cnt : Int)) = false := decide_eq_false (by omega)
   have i2 : decide (i < cnt) = false := decide_eq_false hil
   have hcnt : i = cnt := by omega
   have HLF : Hid (cont lo = srV nodeP s) := by show _ = _; rw [HLO.out, hcnt]; simp only [srV, HCN.out]
   have HRF : Hid (Rdr 125 D b (srS s) wr) := by have h := HRD.out; rw [hcnt] at h; show Rdr 125 D b (srS s) wr; unfold srS; rw [HCN.out]; exact h
   have H2F : Hid _ := H28.out.off HPO.out (fun e => by have := HQQ.out; have := HB.out; omega)
   have HOA : Hid (Off (fun c => c = b) w wr) := (HO8.out.trans (HPO.out.mono (E := fun c => c = b ∨ c = q6) (fun _ _ h => h)) (fun k hk h => h.elim id (fun e => by have := HQ6.out; omega)))
   clear HRD HLO hcnt i1 i2
   have i1 : decide ((i : Int) < (cnt : Int)) = false := decide_eq_false (by omega)
   have i2 : decide (i < cnt) = false := decide_eq_false hil
   cases hok : okB
   ·have HRES : Hid (srB nodeP s = false ∧ zer = srF nodeP s ∧ cont [] = srL nodeP s) := sr_no (.inl (by rw [← HOK.out]; exact hok))
    subst hok
    have D2 := H2F.out
    obtain ⟨x0, x1, x2, x3, x4, x5, x6, x7, x8⟩ := cel9 D2
    have fz := D2.free
    go_wp2_with fail
    have E2 := D2.clr9
    have OE := HOA.out.clr9 (b := q2) (.inr HQ2.out)
    refine bodyPost_ret (results_err9 rfl rfl rfl E2) rfl ?_
    have os := (Off.refl (fun c => c = q2) wr).clr9 (b := q2) (.inl rfl)
    exact ⟨zer, none, 0, [], by rw [HRES.out.1]; rfl, HRES.out.2.1, HRES.out.2.2, Row.nil _ _ _ (by omega), Frh.nil _, HRF.out.off os (fun e => by have := HQ2.out; have := HB.out; omega) (fun c _ hc e => by have := HLD.out c hc; have := HQ2.out; omega), OE⟩
   cases hst : decide ((srS s).2 = 0)
   ·have HRES : Hid (srB nodeP s = false ∧ zer = srF nodeP s ∧ cont [] = srL nodeP s) := sr_no (.inr (.inl hst))
    subst hok
    go_wp2_with fail
    refine (sfailed_any HRF.out).mono ?_
    rw [hst]
    rintro e x1 ⟨rfl, hw⟩
    rw [hw]
    clear hw x1
    have D2 := H2F.out
    obtain ⟨x0, x1, x2, x3, x4, x5, x6, x7, x8⟩ := cel9 D2
    have fz := D2.free
    go_wp2_with fail
    have E2 := D2.clr9
    have OE := HOA.out.clr9 (b := q2) (.inr HQ2.out)
    refine bodyPost_ret (results_err9 rfl rfl rfl E2) rfl ?_
    have os := (Off.refl (fun c => c = q2) wr).clr9 (b := q2) (.inl rfl)
    exact ⟨zer, none, 0, [], by rw [HRES.out.1]; rfl, HRES.out.2.1, HRES.out.2.2, Row.nil _ _ _ (by omega), Frh.nil _, HRF.out.off os (fun e => by have := HQ2.out; have := HB.out; omega) (fun c _ hc e => by have := HLD.out c hc; have := HQ2.out; omega), OE⟩
   subst hok
   obtain ⟨x0, x1, x2, x3, x4, x5, x6, x7, x8⟩ := cel9 HBX.out
   go_wp2_with fail
   refine (sfailed_any HRF.out).mono ?_
   rw [hst]
   rintro e x1 ⟨rfl, hw⟩
   rw [hw]
   clear hw x1
   go_wp2_with fail
   clear x0 x1 x2 x3 x4 x5 x6 x7 x8
   refine (smay_any fF ao co lo wr HMK.out.row).mono ?_
   cases hmy : mayS fF (cont lo)
   ·have HRES : Hid (srB nodeP s = false ∧ zer = srF nodeP s ∧ cont [] = srL nodeP s) := sr_no (.inr (.inr (by rw [← HFF.out, ← HLF.out]; exact hmy)))
    rintro e xw ⟨rfl, o9⟩
    have HRF9 := HRF.out.off o9 (fun h => h) (fun _ _ _ h => h)
    have H2G : Hid _ := H2F.out.off o9 (fun h => h)
    have HOB : Hid _ := HOA.out.trans (o9.mono (fun _ _ h => h.elim)) (fun _ _ h => h)
    have D2 := H2G.out
    obtain ⟨x0, x1, x2, x3, x4, x5, x6, x7, x8⟩ := cel9 D2
    have fz := D2.free
    go_wp2_with fail
    have E2 := D2.clr9
    have OE := HOB.out.clr9 (b := q2) (.inr HQ2.out)
    refine bodyPost_ret (results_err9 rfl rfl rfl E2) rfl ?_
    have os := (Off.refl (fun c => c = q2) xw).clr9 (b := q2) (.inl rfl)
    exact ⟨zer, none, 0, [], by rw [HRES.out.1]; rfl, HRES.out.2.1, HRES.out.2.2, Row.nil _ _ _ (by omega), Frh.nil _, HRF9.off os (fun e => by have := HQ2.out; have := HB.out; omega) (fun c _ hc e => by have := HLD.out c hc; have := HQ2.out; omega), OE⟩
   ·have HRES : Hid _ := sr_yes (nd := nodeP) (s := s) (by rw [← HOK.out]) hst (by rw [← HFF.out, ← HLF.out]; exact hmy)
    rintro e xw ⟨rfl, o9⟩
    have HRF9 := HRF.out.off o9 (fun h => h) (fun _ _ _ h => h)
    have D2 := H2F.out.off o9 (fun h => h)
    have HOB : Hid _ := HOA.out.trans (o9.mono (fun _ _ h => h.elim)) (fun _ _ h => h)
    have HMX : Hid _ := HMK.out.free o9
    obtain ⟨x0, x1, x2, x3, x4, x5, x6, x7, x8⟩ := cel9 (HBX.out.off o9 (fun h => h))
    obtain ⟨y0, y1, y2, y3, y4, y5, y6, y7, y8⟩ := cel9 D2
    have fz := D2.free
    have HX1 : Hid (q2 < w8.heap.size) := H28.out.lt
    go_wp2_with fail
    have E2 := D2.st9 fF (.slice ao lo.length co)
    have OE := HOB.out.st9 (b := q2) (.inr HQ2.out) fF (.slice ao lo.length co)
    refine bodyPost_ret (results_sibs2 rfl rfl rfl E2) rfl ?_
    have os := (Off.refl (fun c => c = q2) xw).st9 (b := q2) (.inl rfl) fF (.slice ao lo.length co)
    have rw9 := (HMX.out.off os (fun k hk _ e => by have := HX1.out; omega)).row
    have rd9 := HRF9.off os (fun e => by have := HQ2.out; have := HB.out; omega) (fun c _ hc e => by have := HLD.out c hc; have := HQ2.out; omega)
    have h1 : fF = srF nodeP s := by rw [HFF.out]; exact HRES.out.2.1
    have h2 : cont lo = srL nodeP s := by rw [HLF.out]; exact HRES.out.2.2
    exact ⟨fF, ao, co, lo, by rw [HRES.out.1]; rfl, h1, h2, rw9, ⟨fun k hk => Nat.le_trans HN.out (HMX.out.lo k hk), fun v hv k hk => Nat.le_trans HN.out ((HMX.out.val v hv).2 k hk).1⟩, rd9, OE⟩
end Go.Proofs.Ytmbphlkohlggfaa
