/- Items of several texts. -/
import Derived.Test.YtmbphlkohlggfaaGreatAGSm
import Derived.Test.YtmbphlkohlggfaaGreatASRead
namespace Go.Proofs.YtmbphlkohlggfaaGreat
open Go.RowKit
theorem Cel.st10 {b : Nat} {t : TypeId} {x0 x1 x2 x3 x4 x5 x6 x7 x8 x9 : Value} {w : World} (h : Cel b t #[x0, x1, x2, x3, x4, x5, x6, x7, x8, x9] w) (key : ByteArray) (f : Nat → Int) (s : Value) : Cel b t #[.string key, .int .i64 (f 0), .int .i64 (f 1), .int .i64 (f 2), .int .i64 (f 3), .int .i64 (f 4), .int .i64 (f 5), .int .i64 (f 6), .int .i64 (f 7), s] ((((((((((w.setCell ⟨b, 0, none⟩ (.string key)).setCell ⟨b, 1, none⟩ (.int .i64 (f 0))).setCell ⟨b, 2, none⟩ (.int .i64 (f 1))).setCell ⟨b, 3, none⟩ (.int .i64 (f 2))).setCell ⟨b, 4, none⟩ (.int .i64 (f 3))).setCell ⟨b, 5, none⟩ (.int .i64 (f 4))).setCell ⟨b, 6, none⟩ (.int .i64 (f 5))).setCell ⟨b, 7, none⟩ (.int .i64 (f 6))).setCell ⟨b, 8, none⟩ (.int .i64 (f 7))).setCell ⟨b, 9, none⟩ s) := by
 replace h := h.set 0 (.string key)
 simp only [List.setIfInBounds_toArray, List.set_cons_zero] at h
 replace h := h.set 1 (.int .i64 (f 0))
 simp only [lsA, lsZ, lsS] at h
 replace h := h.set 2 (.int .i64 (f 1))
 simp only [lsA, lsZ, lsS] at h
 replace h := h.set 3 (.int .i64 (f 2))
 simp only [lsA, lsZ, lsS] at h
 replace h := h.set 4 (.int .i64 (f 3))
 simp only [lsA, lsZ, lsS] at h
 replace h := h.set 5 (.int .i64 (f 4))
 simp only [lsA, lsZ, lsS] at h
 replace h := h.set 6 (.int .i64 (f 5))
 simp only [lsA, lsZ, lsS] at h
 replace h := h.set 7 (.int .i64 (f 6))
 simp only [lsA, lsZ, lsS] at h
 replace h := h.set 8 (.int .i64 (f 7))
 simp only [lsA, lsZ, lsS] at h
 replace h := h.set 9 s
 simp only [lsA, lsZ, lsS] at h
 exact h
theorem Cel.clr10 {b : Nat} {t : TypeId} {x0 x1 x2 x3 x4 x5 x6 x7 x8 x9 : Value} {w : World} (h : Cel b t #[x0, x1, x2, x3, x4, x5, x6, x7, x8, x9] w) : Cel b t #[.string ⟨#[]⟩, .int .i64 0, .int .i64 0, .int .i64 0, .int .i64 0, .int .i64 0, .int .i64 0, .int .i64 0, .int .i64 0, .slice none 0 0] ((((((((((w.setCell ⟨b, 0, none⟩ (.string ⟨#[]⟩)).setCell ⟨b, 1, none⟩ (.int .i64 0)).setCell ⟨b, 2, none⟩ (.int .i64 0)).setCell ⟨b, 3, none⟩ (.int .i64 0)).setCell ⟨b, 4, none⟩ (.int .i64 0)).setCell ⟨b, 5, none⟩ (.int .i64 0)).setCell ⟨b, 6, none⟩ (.int .i64 0)).setCell ⟨b, 7, none⟩ (.int .i64 0)).setCell ⟨b, 8, none⟩ (.int .i64 0)).setCell ⟨b, 9, none⟩ (.slice none 0 0)) := by
 have := h.st10 ⟨#[]⟩ zer (.slice none 0 0)
 simp only [zer] at this
 exact this
theorem Off.st10 {D : Nat → Prop} {a w : World} {b : Nat} (h : Off D a w) (hb : D b ∨ a.heap.size ≤ b) (key : ByteArray) (f : Nat → Int) (s : Value) : Off D a ((((((((((w.setCell ⟨b, 0, none⟩ (.string key)).setCell ⟨b, 1, none⟩ (.int .i64 (f 0))).setCell ⟨b, 2, none⟩ (.int .i64 (f 1))).setCell ⟨b, 3, none⟩ (.int .i64 (f 2))).setCell ⟨b, 4, none⟩ (.int .i64 (f 3))).setCell ⟨b, 5, none⟩ (.int .i64 (f 4))).setCell ⟨b, 6, none⟩ (.int .i64 (f 5))).setCell ⟨b, 7, none⟩ (.int .i64 (f 6))).setCell ⟨b, 8, none⟩ (.int .i64 (f 7))).setCell ⟨b, 9, none⟩ s) :=
 ((((((((((h.setCell hb _).setCell hb _).setCell hb _).setCell hb _).setCell hb _).setCell hb _).setCell hb _).setCell hb _).setCell hb _).setCell hb _)
theorem Off.clr10 {D : Nat → Prop} {a w : World} {b : Nat} (h : Off D a w) (hb : D b ∨ a.heap.size ≤ b) : Off D a ((((((((((w.setCell ⟨b, 0, none⟩ (.string ⟨#[]⟩)).setCell ⟨b, 1, none⟩ (.int .i64 0)).setCell ⟨b, 2, none⟩ (.int .i64 0)).setCell ⟨b, 3, none⟩ (.int .i64 0)).setCell ⟨b, 4, none⟩ (.int .i64 0)).setCell ⟨b, 5, none⟩ (.int .i64 0)).setCell ⟨b, 6, none⟩ (.int .i64 0)).setCell ⟨b, 7, none⟩ (.int .i64 0)).setCell ⟨b, 8, none⟩ (.int .i64 0)).setCell ⟨b, 9, none⟩ (.slice none 0 0)) :=
 ((((((((((h.setCell hb _).setCell hb _).setCell hb _).setCell hb _).setCell hb _).setCell hb _).setCell hb _).setCell hb _).setCell hb _).setCell hb _)
theorem results_entry {fn : Func} {p u : Tmp} (h : fn.results = #[.cell p 46, .tmp u]) {tmps : Array Value} {w : World} {b : Nat} {x0 x1 x2 x3 x4 x5 x6 x7 x8 x9 : Value} (hp : tmps.getD p undef = .pointer (some ⟨b, 0, none⟩)) {v : Value} (hu : tmps.getD u undef = v) (hc : Cel b 46 #[x0, x1, x2, x3, x4, x5, x6, x7, x8, x9] w) :
  (results fn tmps).run Tryz.prog w = .ok (.tuple #[.agg #[x0, x1, x2, x3, x4, x5, x6, x7, x8, x9], v]) w := by
 rw [results_cell_tmp h]
 have ha : (asAddr (.pointer (some ⟨b, 0, none⟩))).run Tryz.prog w = .ok ⟨b, 0, none⟩ w := rfl
 rw [hp, hu, ha]
 obtain ⟨d, hd⟩ : ∃ d, Tryz.prog.underlying 46 = some (.struct d) := ⟨_, Tryz.underlying46⟩
 have hv := run_loadVar_row (P := Tryz.prog) w b 46 46 _ (0, 0) (.struct d) hc.is hd rfl (by kernel_rfl)
 simp only [Result.andThen, hv]
def reK (s : RS) : ByteArray := strOf (textS 32 s).1
def reT (s : RS) : RS := (textS 32 s).2
def reB (nd : Nat → Int) (s : RS) : Bool := srB nd (reT s) && (keyB (reK s) && mayS (srF nd (reT s)) (srL nd (reT s)))
def reKey (nd : Nat → Int) (s : RS) : ByteArray := if reB nd s = true then reK s else ⟨#[]⟩
def reF (nd : Nat → Int) (s : RS) : Nat → Int := if reB nd s = true then srF nd (reT s) else zer
def reL (nd : Nat → Int) (s : RS) : List A := if reB nd s = true then srL nd (reT s) else []
def reS (s : RS) : RS := srS (reT s)
theorem re_no {nd : Nat → Int} {s : RS} (e : reB nd s = false) : ⟨#[]⟩ = reKey nd s ∧ zer = reF nd s ∧ cont [] = reL nd s := by simp [reKey, reF, reL, e, cont]
theorem re_yes {nd : Nat → Int} {s : RS} (e : reB nd s = true) : reK s = reKey nd s ∧ srF nd (reT s) = reF nd s ∧ srL nd (reT s) = reL nd s := by simp [reKey, reF, reL, e]
set_option maxRecDepth 100000 in
set_option maxHeartbeats 2000000 in
theorem readEntry_any {D : Nat → Prop} {b : Nat} {s : RS} {w : World} (hR : Rdr 96 D b s w) :
  Calls Tryz.prog 50 #[.pointer (some ⟨b, 0, none⟩)] w fun e w' => ∃ (key : ByteArray) (h : Nat → Int) (a' : Option Addr) (c' : Nat) (l' : List V), e = .returned (.tuple #[.agg #[.string key, .int .i64 (h 0), .int .i64 (h 1), .int .i64 (h 2), .int .i64 (h 3), .int .i64 (h 4), .int .i64 (h 5), .int .i64 (h 6), .int .i64 (h 7), .slice a' l'.length c'], .bool (reB nodeP s)]) ∧ key = reKey nodeP s ∧ h = reF nodeP s ∧ cont l' = reL nodeP s ∧ Row w' a' c' l' ∧ Frh w.heap.size a' l' ∧ Rdr 96 D b (reS s) w' ∧ Off (fun c => c = b) w w' := by
 have hnot := not_any
 have HB : Hid (b < w.heap.size) := hR.here
 have HLD : Hid (∀ c, D c → c < w.heap.size) := hR.lt
 obtain ⟨kt, hkt⟩ : ∃ x, x = (textS 32 s).1 := ⟨_, rfl⟩
 obtain ⟨s1, hs1⟩ : ∃ x, x = reT s := ⟨_, rfl⟩
 have HE : Hid (textS (32 : Int).toNat s = (kt, s1)) := by show _ = _; rw [hkt, hs1]; rfl
 have HKT : Hid (strOf kt = reK s) := by show _ = _; rw [hkt]; rfl
 have HS1 : Hid _ := hs1
 clear hkt hs1
 have C2 := Cel.new w 46 #[.string ⟨#[]⟩, .int .i64 0, .int .i64 0, .int .i64 0, .int .i64 0, .int .i64 0, .int .i64 0, .int .i64 0, .int .i64 0, .slice none 0 0]
 have O : Off (fun _ => False) w (w.alloc (.cells #[.string ⟨#[]⟩, .int .i64 0, .int .i64 0, .int .i64 0, .int .i64 0, .int .i64 0, .int .i64 0, .int .i64 0, .int .i64 0, .slice none 0 0] 46)) := (Off.refl _ w).alloc _
 have R0 := hR.off O (fun h => h) (fun _ _ _ h => h)
 clear hR
 go_enter Tryz.func50, Tryz.ntmps50
 go_upto_region 1 with fail
 generalize hq : w.heap.size = q2 at C2 ⊢
 have HQ2 : Hid (w.heap.size ≤ q2) := by show _ ≤ _; omega
 generalize hv : w.alloc (.cells #[.string ⟨#[]⟩, .int .i64 0, .int .i64 0, .int .i64 0, .int .i64 0, .int .i64 0, .int .i64 0, .int .i64 0, .int .i64 0, .slice none 0 0] 46) = W at C2 O R0 ⊢
 clear hq hv
 go_wp2_with fail
 refine (rtext_any R0 32 (by decide) (by decide)).mono ?_
 rw [HE.out]
 dsimp only
 rintro e w1 ⟨tt, tc, rfl, own, -, R1, o1⟩
 have hcs := conv_src own.src
 rw [HKT.out] at hcs
 obtain ⟨ks, hks⟩ : ∃ x, x = reK s := ⟨_, rfl⟩
 rw [← hks] at hcs
 have HKS : Hid _ := hks
 replace C2 := C2.off o1 (fun e => by have := HB.out; have := HQ2.out; omega)
 have O1 : Off (fun c => c = b) w w1 := (O.mono (fun _ _ h => h.elim)).trans o1 (fun _ _ h => h)
 have HW1 : Hid (w.heap.size ≤ w1.heap.size) := O1.size
 clear R0 o1 O own hks
 go_wp2_with fail
 clear hcs
 refine (sread_any R1).mono ?_
 have HQ1 : Hid (q2 < w1.heap.size) := C2.lt
 rintro e w2 ⟨h1, a1, c1, l1, rfl, hh1, hl1, rw1, fr1, R2, o2⟩
 have HFR : Hid _ := fr1
 clear fr1
 have HH1 : Hid (h1 = srF nodeP (reT s)) := by show _ = _; rw [hh1, HS1.out]
 have HL1 : Hid (cont l1 = srL nodeP (reT s)) := by show _ = _; rw [hl1, HS1.out]
 have HR2 : Hid (Rdr 96 D b (reS s) w2) := by show Rdr 96 D b (reS s) w2; unfold reS; rw [← HS1.out]; exact R2
 obtain ⟨B1, hB1⟩ : ∃ x, x = srB nodeP s1 := ⟨_, rfl⟩
 rw [← hB1]
 have HB1 : Hid (B1 = srB nodeP (reT s)) := by show _ = _; rw [hB1, HS1.out]
 replace C2 := C2.off o2 (fun e => by have := HB.out; have := HQ2.out; omega)
 have O2 := O1.trans o2 (fun _ _ h => h)
 have HRW : Hid _ := rw1
 clear R1 R2 o2 O1 hh1 hl1 hB1 rw1
 go_upto_region 3 with fail
 have C5 := Cel.new w2 44 #[.int .i64 (h1 0), .int .i64 (h1 1), .int .i64 (h1 2), .int .i64 (h1 3), .int .i64 (h1 4), .int .i64 (h1 5), .int .i64 (h1 6), .int .i64 (h1 7), .slice a1 l1.length c1]
 have OA : Off (fun _ => False) w2 (w2.alloc (.cells #[.int .i64 (h1 0), .int .i64 (h1 1), .int .i64 (h1 2), .int .i64 (h1 3), .int .i64 (h1 4), .int .i64 (h1 5), .int .i64 (h1 6), .int .i64 (h1 7), .slice a1 l1.length c1] 44)) := (Off.refl _ w2).alloc _
 generalize hq : w2.heap.size = q5 at C5 ⊢
 generalize hv : w2.alloc (.cells #[.int .i64 (h1 0), .int .i64 (h1 1), .int .i64 (h1 2), .int .i64 (h1 3), .int .i64 (h1 4), .int .i64 (h1 5), .int .i64 (h1 6), .int .i64 (h1 7), .slice a1 l1.length c1] 44) = w3 at C5 OA ⊢
 clear hq hv
 replace C2 := C2.off OA (fun h => h)
 have O3 := O2.trans (OA.mono (fun _ _ h => h.elim)) (fun _ _ h => h)
 have R3 := HR2.out.off OA (fun h => h) (fun _ _ _ h => h)
 have RW3 := HRW.out.off OA
 clear OA O2 HR2 HRW
 obtain ⟨x0, x1, x2, x3, x4, x5, x6, x7, x8⟩ := cel9 C5
 go_upto_region 4 with fail
 clear x0 x1 x2 x3 x4 x5 x6 x7 x8 C5
 have C7 := Cel.new w3 46 #[.string ks, .int .i64 (h1 0), .int .i64 (h1 1), .int .i64 (h1 2), .int .i64 (h1 3), .int .i64 (h1 4), .int .i64 (h1 5), .int .i64 (h1 6), .int .i64 (h1 7), .slice a1 l1.length c1]
 have OA : Off (fun _ => False) w3 (w3.alloc (.cells #[.string ks, .int .i64 (h1 0), .int .i64 (h1 1), .int .i64 (h1 2), .int .i64 (h1 3), .int .i64 (h1 4), .int .i64 (h1 5), .int .i64 (h1 6), .int .i64 (h1 7), .slice a1 l1.length c1] 46)) := (Off.refl _ w3).alloc _
 generalize hq : w3.heap.size = q7 at C7 ⊢
 generalize hv : w3.alloc (.cells #[.string ks, .int .i64 (h1 0), .int .i64 (h1 1), .int .i64 (h1 2), .int .i64 (h1 3), .int .i64 (h1 4), .int .i64 (h1 5), .int .i64 (h1 6), .int .i64 (h1 7), .slice a1 l1.length c1] 46) = ew at C7 OA ⊢
 clear hq hv
 have H2 : Hid _ := C2.off OA (fun h => h)
 have eO := O3.trans (OA.mono (fun _ _ h => h.elim)) (fun _ _ h => h)
 have eR := R3.off OA (fun h => h) (fun _ _ _ h => h)
 have RW4 := RW3.off OA
 have eo : Off (fun _ => False) ew ew := Off.refl _ _
 have HC7 : Hid _ := C7
 clear OA O3 R3 RW3 C2 C7
 cases B1
 ·have HRES : Hid (reB nodeP s = false) := by show _ = _; unfold reB; rw [← HB1.out]; rfl
  have D2 := H2.out.off eo (fun h => h)
  have y0 := D2.cell 0
  have y1 := D2.cell 1
  have y2 := D2.cell 2
  have y3 := D2.cell 3
  have y4 := D2.cell 4
  have y5 := D2.cell 5
  have y6 := D2.cell 6
  have y7 := D2.cell 7
  have y8 := D2.cell 8
  have y9 := D2.cell 9
  simp at y0 y1 y2 y3 y4 y5 y6 y7 y8 y9
  have fz := D2.free
  go_wp2_with fail
  have E2 := D2.clr10
  have OE := eO.clr10 (b := q2) (.inr HQ2.out)
  refine bodyPost_ret (results_entry rfl rfl rfl E2) rfl ?_
  have os := (Off.refl (fun c => c = q2) ew).clr10 (b := q2) (.inl rfl)
  have rr := eR.off os (fun e => by have := HQ2.out; have := HB.out; omega) (fun c _ hc e => by have := HLD.out c hc; have := HQ2.out; omega)
  obtain ⟨r1, r2, r3⟩ := re_no HRES.out
  exact ⟨⟨#[]⟩, zer, none, 0, [], by rw [HRES.out]; rfl, r1, r2, r3, Row.nil _ _ _ (by omega), Frh.nil _, rr, OE⟩
 ·have z0 := HC7.out.cell 0
  have z1 := HC7.out.cell 1
  have z2 := HC7.out.cell 2
  have z3 := HC7.out.cell 3
  have z4 := HC7.out.cell 4
  have z5 := HC7.out.cell 5
  have z6 := HC7.out.cell 6
  have z7 := HC7.out.cell 7
  have z8 := HC7.out.cell 8
  have z9 := HC7.out.cell 9
  simp at z0 z1 z2 z3 z4 z5 z6 z7 z8 z9
  go_wp2_with fail
  clear z0 z1 z2 z3 z4 z5 z6 z7 z8 z9
  refine (smayentry_any ks h1 a1 c1 l1 _ RW4).mono ?_
  cases hme : (keyB ks && mayS h1 (cont l1))
  ·have HRES : Hid (reB nodeP s = false) := by show _ = _; unfold reB; rw [← HB1.out, ← HKS.out, ← HH1.out, ← HL1.out, hme]; rfl
   rintro e fw ⟨rfl, fo⟩
   have fO := eO.trans (fo.mono (fun _ _ h => h.elim)) (fun _ _ h => h)
   have fR := eR.off fo (fun h => h) (fun _ _ _ h => h)
   have D2 := H2.out.off fo (fun h => h)
   have y0 := D2.cell 0
   have y1 := D2.cell 1
   have y2 := D2.cell 2
   have y3 := D2.cell 3
   have y4 := D2.cell 4
   have y5 := D2.cell 5
   have y6 := D2.cell 6
   have y7 := D2.cell 7
   have y8 := D2.cell 8
   have y9 := D2.cell 9
   simp at y0 y1 y2 y3 y4 y5 y6 y7 y8 y9
   have fz := D2.free
   go_wp2_with fail
   have E2 := D2.clr10
   have OE := fO.clr10 (b := q2) (.inr HQ2.out)
   refine bodyPost_ret (results_entry rfl rfl rfl E2) rfl ?_
   have os := (Off.refl (fun c => c = q2) fw).clr10 (b := q2) (.inl rfl)
   have rr := fR.off os (fun e => by have := HQ2.out; have := HB.out; omega) (fun c _ hc e => by have := HLD.out c hc; have := HQ2.out; omega)
   obtain ⟨r1, r2, r3⟩ := re_no HRES.out
   exact ⟨⟨#[]⟩, zer, none, 0, [], by rw [HRES.out]; rfl, r1, r2, r3, Row.nil _ _ _ (by omega), Frh.nil _, rr, OE⟩
  ·have HRES : Hid (reB nodeP s = true) := by show _ = _; unfold reB; rw [← HB1.out, ← HKS.out, ← HH1.out, ← HL1.out, hme]; rfl
   rintro e fw ⟨rfl, fo⟩
   have fO := eO.trans (fo.mono (fun _ _ h => h.elim)) (fun _ _ h => h)
   have fR := eR.off fo (fun h => h) (fun _ _ _ h => h)
   have RW5 := RW4.off fo
   have D2 := H2.out.off fo (fun h => h)
   have D7 := HC7.out.off fo (fun h => h)
   have y0 := D2.cell 0
   have y1 := D2.cell 1
   have y2 := D2.cell 2
   have y3 := D2.cell 3
   have y4 := D2.cell 4
   have y5 := D2.cell 5
   have y6 := D2.cell 6
   have y7 := D2.cell 7
   have y8 := D2.cell 8
   have y9 := D2.cell 9
   simp at y0 y1 y2 y3 y4 y5 y6 y7 y8 y9
   have z0 := D7.cell 0
   have z1 := D7.cell 1
   have z2 := D7.cell 2
   have z3 := D7.cell 3
   have z4 := D7.cell 4
   have z5 := D7.cell 5
   have z6 := D7.cell 6
   have z7 := D7.cell 7
   have z8 := D7.cell 8
   have z9 := D7.cell 9
   simp at z0 z1 z2 z3 z4 z5 z6 z7 z8 z9
   have fz := D2.free
   have HRO : Hid (Row fw a1 c1 l1) := RW5
   go_wp2_with fail
   have E2 := D2.st10 ks h1 (.slice a1 l1.length c1)
   have OE := fO.st10 (b := q2) (.inr HQ2.out) ks h1 (.slice a1 l1.length c1)
   refine bodyPost_ret (results_entry rfl rfl rfl E2) rfl ?_
   have os := (Off.refl (fun c => c = q2) fw).st10 (b := q2) (.inl rfl) ks h1 (.slice a1 l1.length c1)
   have rr := fR.off os (fun e => by have := HQ2.out; have := HB.out; omega) (fun c _ hc e => by have := HLD.out c hc; have := HQ2.out; omega)
   obtain ⟨r1, r2, r3⟩ := re_yes HRES.out
   rw [← HKS.out] at r1
   rw [← HH1.out] at r2
   rw [← HL1.out] at r3
   have rw9 := HRO.out.far HFR.out HQ1.out os
   exact ⟨ks, h1, a1, c1, l1, by rw [HRES.out]; rfl, r1, r2, r3, rw9, ⟨fun k hk => Nat.le_trans HW1.out (HFR.out.lo k hk), fun v hv k hk => Nat.le_trans HW1.out (HFR.out.val v hv k hk)⟩, rr, OE⟩
end Go.Proofs.YtmbphlkohlggfaaGreat
