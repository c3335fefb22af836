/- Items of several texts. -/
import Derived.Test.YtmbphlkohlggfaaGreatAGMay
import Derived.Test.YtmbphlkohlggfaaGreatASRead
import Derived.Test.YtmbphlkohlggfaaGreatASRe
namespace Go.Proofs.YtmbphlkohlggfaaGreat
open Go.RowKit
theorem wpList_append_run {P : Program} {w w' : World} {ops : Array Oper} {rest : List Oper} {o : Oper} {a : Act} {Q : Exit → Act → World → Prop} (hgd : o.guard = none) (s x : Operand) {t u : TypeId}
  (ho : o.op = .call { callee := .builtin .append, args := #[s, x], argTypes := #[t, u] }) {v v' X : Value} (hs : a.eval s = v) (hx : a.eval x = X) (hr : (Builtin.append_ #[t, u] o.type #[v, X]).run P w = .ok v' w')
  (h : wpList P ops Q rest (a.put o.dst v') w') : wpList P ops Q (o :: rest) a w := by
 refine wpList_plain hgd fun K hK => ?_
 unfold Oper.wp
 simp [execOp, ho, resolve, invoke, builtin, hs, hx, hr, Result.andThen]
 exact hK _ _ h
theorem results_dot1 {fn : Func} {p : Tmp} (h : fn.results = #[.cell p 93]) {tmps : Array Value} {w : World} {b : Nat} {x y : Int} (hp : tmps.getD p undef = .pointer (some ⟨b, 0, none⟩)) (hc : Cel b 93 #[.int .i64 x, .int .i64 y] w) :
  (results fn tmps).run Tryz.prog w = .ok (.agg #[.int .i64 x, .int .i64 y]) w := by
 obtain ⟨d, hd⟩ : ∃ d, Tryz.prog.underlying 93 = some (.struct d) := ⟨_, Tryz.underlying93⟩
 exact results_cell_row h tmps w b 93 _ (0, 0) (.struct d) hp hc.is hd rfl (by kernel_rfl)
theorem Mk.offB {D : Nat → Prop} {N : Nat} {w w' : World} {a : Option Addr} {c : Nat} {l : List V} (h : Mk N w a c l) (o : Off D w w') (h1 : ∀ k, blk a = some k → ¬ D k) (h2 : ∀ v ∈ l, ∀ k, blk v.ad = some k → ¬ D k) : Mk N w' a c l :=
 ⟨h.own.off o h1, h.lo, fun v hv => ⟨(h.val v hv).1.off o (fun k _ hk => h2 v hv k hk), fun k hk => ⟨((h.val v hv).2 k hk).1, Nat.lt_of_lt_of_le ((h.val v hv).2 k hk).2.1 o.size, ((h.val v hv).2 k hk).2.2⟩⟩⟩
set_option maxRecDepth 100000 in
set_option maxHeartbeats 1000000 in
theorem gdot_any {D : Nat → Prop} {b : Nat} {s : RS} {w : World} (hR : Rdr 68 D b s w) :
  Calls Tryz.prog 68 #[.pointer (some ⟨b, 0, none⟩)] w fun e w' => e = .returned (.agg #[.int .i64 (nodeR (numS s).1), .int .i64 (intS (numS s).2).1]) ∧ Rdr 68 D b (intS (numS s).2).2 w' ∧ Off (fun c => c = b) w w' := by
 have HB : Hid (b < w.heap.size) := hR.here
 have HLD : Hid (∀ c, D c → c < w.heap.size) := hR.lt
 obtain ⟨n, hn⟩ : ∃ x, x = (numS s).1 := ⟨_, rfl⟩
 obtain ⟨s1, hs1⟩ : ∃ x, x = (numS s).2 := ⟨_, rfl⟩
 obtain ⟨i, hi⟩ : ∃ x, x = (intS s1).1 := ⟨_, rfl⟩
 obtain ⟨s2, hs2⟩ : ∃ x, x = (intS s1).2 := ⟨_, rfl⟩
 obtain ⟨nd, hnd⟩ : ∃ x, x = nodeR n := ⟨_, rfl⟩
 have HE1 : Hid (numS s = (n, s1)) := by show _ = _; rw [hn, hs1]
 have HE2 : Hid (intS s1 = (i, s2)) := by show _ = _; rw [hi, hs2]
 rw [← hn, ← hs1, ← hi, ← hs2, ← hnd]
 have hmin : ∀ ts t W, (Builtin.min_ ts t #[.int .u64 (n : Int), .int .u64 1073741824]).run Tryz.prog W = .ok (.int .u64 nd) W := fun ts t W => by
  rw [run_min_int2]
  congr 2
  rw [hnd]
  unfold nodeR
  split <;> omega
 have hndr : 0 ≤ nd ∧ nd ≤ 1073741824 := by rw [hnd]; unfold nodeR; omega
 obtain ⟨hnd0, hnd1⟩ := hndr
 clear hn hs1 hi hs2 hnd
 have C2 := Cel.new w 93 #[.int .i64 0, .int .i64 0]
 have O : Off (fun _ => False) w (w.alloc (.cells #[.int .i64 0, .int .i64 0] 93)) := (Off.refl _ w).alloc _
 have R0 := hR.off O (fun h => h) (fun _ _ _ h => h)
 clear hR
 go_enter Tryz.func68, Tryz.ntmps68
 go_upto_region 1 with fail
 generalize hq : w.heap.size = q2 at C2 ⊢
 have HQ2 : Hid (w.heap.size ≤ q2) := by show _ ≤ _; omega
 generalize hv : w.alloc (.cells #[.int .i64 0, .int .i64 0] 93) = W at C2 O R0 ⊢
 clear hq hv
 go_wp2_with fail
 refine (frnum_any R0).mono ?_
 rw [HE1.out]
 dsimp only
 rintro e v1 ⟨rfl, R1, o1⟩
 replace C2 := C2.off o1 (fun e => by have := HB.out; have := HQ2.out; omega)
 have O1 : Off (fun c => c = b) w v1 := (O.mono (fun _ _ h => h.elim)).trans o1 (fun _ _ h => h)
 clear R0 o1 O
 go_wp2_with fail
 refine (frint_any R1).mono ?_
 rw [HE2.out]
 dsimp only
 rintro e v2 ⟨rfl, R2, o1⟩
 replace C2 := C2.off o1 (fun e => by have := HB.out; have := HQ2.out; omega)
 have O2 := O1.trans o1 (fun _ _ h => h)
 clear R1 o1 O1
 go_upto_region 3 with fail
 have C4 := Cel.new v2 93 #[.int .i64 nd, .int .i64 i]
 have OA : Off (fun _ => False) v2 (v2.alloc (.cells #[.int .i64 nd, .int .i64 i] 93)) := (Off.refl _ v2).alloc _
 have hl2 := C2.lt
 generalize hq : v2.heap.size = q4 at C4 hl2 ⊢
 generalize hv : v2.alloc (.cells #[.int .i64 nd, .int .i64 i] 93) = v3 at C4 OA ⊢
 clear hq hv
 replace C2 := C2.off OA (fun h => h)
 have O3 := O2.trans (OA.mono (fun _ _ h => h.elim)) (fun _ _ h => h)
 have R3 := R2.off OA (fun h => h) (fun _ _ _ h => h)
 obtain ⟨x0, x1⟩ := cel2 C4
 obtain ⟨y0, y1⟩ := cel2 C2
 have fz := C2.free
 have HC2 : Hid _ := C2
 have HR3 : Hid _ := R3
 have HO3 : Hid _ := O3
 clear C2 C4 R2 R3 OA O2 O3 hl2 hmin
 go_wp2_with fail
 have E1 := (HC2.out.set 0 (.int .i64 nd))
 simp only [List.setIfInBounds_toArray, List.set_cons_zero] at E1
 have E2 := E1.set 1 (.int .i64 i)
 simp only [lsA, lsZ, lsS] at E2
 refine bodyPost_ret (results_dot1 rfl rfl E2) rfl ?_
 have os := ((Off.refl (fun c => c = q2) v3).setCell (p := ⟨q2, 0, none⟩) (.inl rfl) (.int .i64 nd)).setCell (p := ⟨q2, 1, none⟩) (.inl rfl) (.int .i64 i)
 exact ⟨rfl, HR3.out.off os (fun e => by have := HQ2.out; have := HB.out; omega) (fun c _ hc e => by have := HLD.out c hc; have := HQ2.out; omega), (HO3.out.setCell (p := ⟨q2, 0, none⟩) (.inr HQ2.out) _).setCell (p := ⟨q2, 1, none⟩) (.inr HQ2.out) _⟩
set_option maxRecDepth 100000 in
set_option maxHeartbeats 4000000 in
theorem gread_any {D : Nat → Prop} {b : Nat} {s : RS} {w : World} (hR : Rdr 68 D b s w) :
  Calls Tryz.prog 66 #[.pointer (some ⟨b, 0, none⟩)] w fun e w' => ∃ (h : Nat → Int) (a' : Option Addr) (c' : Nat) (l' : List V), e = .returned (.tuple #[.agg #[.int .i64 (h 0), .int .i64 (h 1), .int .i64 (h 2), .int .i64 (h 3), .int .i64 (h 4), .int .i64 (h 5), .int .i64 (h 6), .int .i64 (h 7), .slice a' l'.length c'], .bool (srB nodeR s)]) ∧ h = srF nodeR s ∧ cont l' = srL nodeR s ∧ Row w' a' c' l' ∧ Frh w.heap.size a' l' ∧ Rdr 68 D b (srS s) w' ∧ Off (fun c => c = b) w w' := by
 have hnot := not_any
 have HB : Hid (b < w.heap.size) := hR.here
 have HLD : Hid (∀ c, D c → c < w.heap.size) := hR.lt
 obtain ⟨fF, hfF⟩ : ∃ f, f = readF s := ⟨_, rfl⟩
 obtain ⟨okB, hokB⟩ : ∃ x, x = readB s := ⟨_, rfl⟩
 obtain ⟨cnt, hcn⟩ : ∃ x, x = (countS 16 (rdV s 8)).1 := ⟨_, rfl⟩
 obtain ⟨s2, hs2⟩ : ∃ x, x = (countS 16 (rdV s 8)).2 := ⟨_, rfl⟩
 have HFF : Hid _ := hfF
 have HOK : Hid _ := hokB
 have HCN : Hid (countS 16 (rdV s 8) = (cnt, s2)) := by show _ = _; rw [hcn, hs2]
 have hc16 : cnt ≤ 16 := by rw [hcn]; exact (count_ok 16 (rdV_ok hR.ok 8)).2.1
 clear hfF hokB hcn hs2
 have C2 := Cel.new w 44 #[.int .i64 (zer 0), .int .i64 (zer 1), .int .i64 (zer 2), .int .i64 (zer 3), .int .i64 (zer 4), .int .i64 (zer 5), .int .i64 (zer 6), .int .i64 (zer 7), .slice none 0 0]
 have O : Off (fun _ => False) w (w.alloc (.cells #[.int .i64 (zer 0), .int .i64 (zer 1), .int .i64 (zer 2), .int .i64 (zer 3), .int .i64 (zer 4), .int .i64 (zer 5), .int .i64 (zer 6), .int .i64 (zer 7), .slice none 0 0] 44)) := (Off.refl _ w).alloc _
 have R0 := hR.off O (fun h => h) (fun _ _ _ h => h)
 clear hR
 go_enter Tryz.func66, Tryz.ntmps66
 go_upto_region 1 with fail
 have eW : w.alloc (.cells #[.int .i64 0, .int .i64 0, .int .i64 0, .int .i64 0, .int .i64 0, .int .i64 0, .int .i64 0, .int .i64 0, .slice none 0 0] 44) = w.alloc (.cells #[.int .i64 (zer 0), .int .i64 (zer 1), .int .i64 (zer 2), .int .i64 (zer 3), .int .i64 (zer 4), .int .i64 (zer 5), .int .i64 (zer 6), .int .i64 (zer 7), .slice none 0 0] 44) := rfl
 rw [eW]
 clear eW
 generalize hq : w.heap.size = q2 at C2 ⊢
 have HQ2 : Hid (w.heap.size ≤ q2) := by show _ ≤ _; omega
 generalize hv : w.alloc (.cells #[.int .i64 (zer 0), .int .i64 (zer 1), .int .i64 (zer 2), .int .i64 (zer 3), .int .i64 (zer 4), .int .i64 (zer 5), .int .i64 (zer 6), .int .i64 (zer 7), .slice none 0 0] 44) = W at C2 O R0 ⊢
 clear hq hv
 go_wp2_with fail
 refine (fvread_any R0).mono ?_
 rw [← HFF.out, ← HOK.out]
 rintro e w1 ⟨rfl, R1, o1⟩
 replace C2 := C2.off o1 (fun e => by have := HB.out; have := HQ2.out; omega)
 have O1 : Off (fun c => c = b) w w1 := (O.mono (fun _ _ h => h.elim)).trans o1 (fun _ _ h => h)
 have hl2 := C2.lt
 clear R0 o1 O
 go_upto_region 2 with fail
 have C4 := Cel.new w1 41 #[.int .i64 (fF 0), .int .i64 (fF 1), .int .i64 (fF 2), .int .i64 (fF 3), .int .i64 (fF 4), .int .i64 (fF 5), .int .i64 (fF 6), .int .i64 (fF 7)]
 have OA : Off (fun _ => False) w1 (w1.alloc (.cells #[.int .i64 (fF 0), .int .i64 (fF 1), .int .i64 (fF 2), .int .i64 (fF 3), .int .i64 (fF 4), .int .i64 (fF 5), .int .i64 (fF 6), .int .i64 (fF 7)] 41)) := (Off.refl _ w1).alloc _
 generalize hq : w1.heap.size = q4 at C4 ⊢
 generalize hv : w1.alloc (.cells #[.int .i64 (fF 0), .int .i64 (fF 1), .int .i64 (fF 2), .int .i64 (fF 3), .int .i64 (fF 4), .int .i64 (fF 5), .int .i64 (fF 6), .int .i64 (fF 7)] 41) = w2 at C4 OA ⊢
 clear hq hv
 replace C2 := C2.off OA (fun h => h)
 have O2 := O1.trans (OA.mono (fun _ _ h => h.elim)) (fun _ _ h => h)
 have R2 := R1.off OA (fun h => h) (fun _ _ _ h => h)
 have hz2 := OA.size
 clear R1 OA O1
 obtain ⟨x0, x1, x2, x3, x4, x5, x6, x7⟩ := cel8 C4
 go_upto_region 3 with fail
 clear x0 x1 x2 x3 x4 x5 x6 x7
 have C6 := Cel.new w2 44 #[.int .i64 (fF 0), .int .i64 (fF 1), .int .i64 (fF 2), .int .i64 (fF 3), .int .i64 (fF 4), .int .i64 (fF 5), .int .i64 (fF 6), .int .i64 (fF 7), .slice none 0 0]
 have OA : Off (fun _ => False) w2 (w2.alloc (.cells #[.int .i64 (fF 0), .int .i64 (fF 1), .int .i64 (fF 2), .int .i64 (fF 3), .int .i64 (fF 4), .int .i64 (fF 5), .int .i64 (fF 6), .int .i64 (fF 7), .slice none 0 0] 44)) := (Off.refl _ w2).alloc _
 generalize hq : w2.heap.size = q6 at C6 ⊢
 have hq6 : q2 < q6 := by omega
 have hq7 : w.heap.size ≤ q6 := by have := O2.size; omega
 generalize hv : w2.alloc (.cells #[.int .i64 (fF 0), .int .i64 (fF 1), .int .i64 (fF 2), .int .i64 (fF 3), .int .i64 (fF 4), .int .i64 (fF 5), .int .i64 (fF 6), .int .i64 (fF 7), .slice none 0 0] 44) = w3 at C6 OA ⊢
 clear hq hv hz2 hl2
 replace C2 := C2.off OA (fun h => h)
 have O3 := O2.trans (OA.mono (fun _ _ h => h.elim)) (fun _ _ h => h)
 have R3 := R2.off OA (fun h => h) (fun _ _ _ h => h)
 clear R2 OA O2 C4
 go_wp2_with fail
 refine (frcount_any R3 16 (by decide) (by decide)).mono ?_
 rw [show countS (16 : Int).toNat (rdV s 8) = (cnt, s2) from HCN.out]
 dsimp only
 rintro e w8 ⟨rfl, R4, o4⟩
 have HQQ : Hid (q2 ≠ q6 ∧ w.heap.size ≤ q2) := ⟨by omega, HQ2.out⟩
 have HQ6 : Hid (w.heap.size ≤ q6) := hq7
 have HC6 : Hid _ := C6.off o4 (fun e => by have := HB.out; omega)
 have H28 : Hid _ := C2.off o4 (fun e => by have := HB.out; have := HQ2.out; omega)
 have HO8 : Hid (Off (fun c => c = b) w w8) := O3.trans o4 (fun _ _ h => h)
 have HR8 : Hid _ := R4
 have HL6 : Hid (q6 < w8.heap.size) := HC6.out.lt
 have HN : Hid (w.heap.size ≤ w8.heap.size) := HO8.out.size
 clear C6 C2 O3 R3 R4 o4 hq6 hq7
 go_wp2_with fail
 go_loopw [17] (fun y wr => ∃ (i : Nat) (lo : List V) (ao : Option Addr) (co : Nat), y = .int .i64 (i : Int) ∧ i ≤ cnt ∧ Cel q6 44 #[.int .i64 (fF 0), .int .i64 (fF 1), .int .i64 (fF 2), .int .i64 (fF 3), .int .i64 (fF 4), .int .i64 (fF 5), .int .i64 (fF 6), .int .i64 (fF 7), .slice ao lo.length co] wr ∧ Mk w8.heap.size wr ao co lo ∧ lo.length ≤ i ∧ cont lo = rdL nodeR i s2 ∧ Rdr 68 D b (rdSt s2 i) wr ∧ Off (fun c => c = b ∨ c = q6) w8 wr) (fun y _ => (cnt - intOf y).toNat)
 case atStart => exact ⟨0, [], none, 0, rfl, by omega, HC6.out, Mk.nil _ _, by simp, by simp [cont, rdL], HR8.out, Off.refl _ _⟩
 case round =>
  clear HC6 HR8
  obtain ⟨i, lo, ao, co, rfl, hi, bx, mk, hlol, hlo, rd, po⟩ := hrel
  have HBX : Hid _ := bx
  have HMK : Hid _ := mk
  have HLO : Hid _ := hlo
  have HRD : Hid _ := rd
  have HPO : Hid (Off (fun c => c = b ∨ c = q6) w8 wr) := po
  clear bx mk hlo rd po
  by_cases hil : i < cnt
  ·have i1 : decide ((i : Int) < (cnt : Int)) = true := decide_eq_true (by omega)
   have i2 : decide (i < cnt) = true := decide_eq_true hil
   have HSW : Hid (w8.heap.size ≤ wr.heap.size) := HPO.out.size
   have HOKS : Hid (Ok (rdSt s2 i)) := HRD.out.ok
   obtain ⟨sx, hsx⟩ : ∃ x, x = rdSt s2 i := ⟨_, rfl⟩
   rw [← hsx] at HRD HOKS
   have HSX : Hid _ := hsx
   clear hsx
   obtain ⟨t1, ht1⟩ : ∃ x, x = (intS (numS sx).2).2 := ⟨_, rfl⟩
   obtain ⟨nd, hnd⟩ : ∃ x, x = nodeR (numS sx).1 := ⟨_, rfl⟩
   obtain ⟨i2v, hi2⟩ : ∃ x, x = (intS (numS sx).2).1 := ⟨_, rfl⟩
   obtain ⟨t2, ht2⟩ : ∃ x, x = (flagS t1).2 := ⟨_, rfl⟩
   obtain ⟨gv, hgv⟩ : ∃ x, x = (flagS t1).1 := ⟨_, rfl⟩
   obtain ⟨t3, ht3⟩ : ∃ x, x = (textS 200 t2).2 := ⟨_, rfl⟩
   obtain ⟨tx, htx⟩ : ∃ x, x = (textS 200 t2).1 := ⟨_, rfl⟩
   have hA : rdA nodeR sx = ⟨nd, i2v, tx, gv⟩ := by simp only [rdA, valN, valI, valG, valT, hnd, hi2, hgv, htx, ht2, ht1]
   have hS : valS sx = t3 := by simp only [valS, ht3, ht2, ht1]
   have ok1 := (num_ok HOKS.out).1
   have hir : -9223372036854775808 ≤ i2v ∧ i2v ≤ 9223372036854775807 := by rw [hi2]; exact unzig_range5 (num_ok ok1).2.1
   have ok2 : Ok t1 := by rw [ht1]; exact (num_ok ok1).1
   have ok3 : Ok t2 := by rw [ht2]; exact flag_ok ok2
   have htl := text_take 200 ok3
   rw [← htx] at htl
   have hnr : 0 ≤ nd ∧ nd ≤ 1073741824 := by rw [hnd]; unfold nodeR; omega
   have HA : Hid _ := hA
   have HSV : Hid _ := hS
   have HFX : Hid _ := And.intro hnr (And.intro hir htl)
   have HD1 : Hid ((nodeR (numS sx).1, (intS (numS sx).2).1, (intS (numS sx).2).2) = (nd, i2v, t1)) := by show _ = _; rw [hnd, hi2, ht1]
   have HD2 : Hid (flagS t1 = (gv, t2)) := by show _ = _; rw [hgv, ht2]
   have HD3 : Hid (textS (200 : Int).toNat t2 = (tx, t3)) := by show _ = _; rw [htx, ht3]; rfl
   clear ht1 hnd hi2 ht2 hgv ht3 htx hA hS ok1 hir ok2 ok3 htl hnr HOKS
   have BX := HBX.out
   have MK := HMK.out
   have PO := HPO.out
   go_wp2_with fail
   refine (gdot_any HRD.out).mono ?_
   have hd := HD1.out
   simp only [Prod.mk.injEq] at hd
   rw [hd.1, hd.2.1, hd.2.2]
   clear hd
   rintro e v1 ⟨rfl, RD, o1⟩
   replace BX := BX.off o1 (fun e => by have := HB.out; have := HQ6.out; omega)
   replace MK := MK.off o1 (fun k h1 _ e => by have := HB.out; have := HN.out; omega)
   replace PO := PO.trans o1 (fun _ _ h => .inl h)
   clear o1
   go_wp2_with fail
   refine (frflag_any RD).mono ?_
   rw [HD2.out]
   dsimp only
   rintro e v2 ⟨rfl, RD2, o1⟩
   replace BX := BX.off o1 (fun e => by have := HB.out; have := HQ6.out; omega)
   replace MK := MK.off o1 (fun k h1 _ e => by have := HB.out; have := HN.out; omega)
   replace PO := PO.trans o1 (fun _ _ h => .inl h)
   clear o1 RD
   go_upto_region 6 with fail
   have CX := Cel.new v2 137 #[.int .i64 (⟨nd, i2v, none, 0, [], gv⟩ : V).node, .int .i64 (⟨nd, i2v, none, 0, [], gv⟩ : V).num, .slice (⟨nd, i2v, none, 0, [], gv⟩ : V).ad (⟨nd, i2v, none, 0, [], gv⟩ : V).data.length (⟨nd, i2v, none, 0, [], gv⟩ : V).cap, .bool (⟨nd, i2v, none, 0, [], gv⟩ : V).dead]
   have OA : Off (fun _ => False) v2 (v2.alloc (.cells #[.int .i64 (⟨nd, i2v, none, 0, [], gv⟩ : V).node, .int .i64 (⟨nd, i2v, none, 0, [], gv⟩ : V).num, .slice (⟨nd, i2v, none, 0, [], gv⟩ : V).ad (⟨nd, i2v, none, 0, [], gv⟩ : V).data.length (⟨nd, i2v, none, 0, [], gv⟩ : V).cap, .bool (⟨nd, i2v, none, 0, [], gv⟩ : V).dead] 137)) := (Off.refl _ v2).alloc _
   have hlx := BX.lt
   have hm1 := MK.own.lt
   have hm2 := fun v hv k hk => ((MK.val v hv).2 k hk).2.1
   have hz2 := PO.size
   generalize hq : v2.heap.size = qx at CX hlx hz2 hm1 hm2 ⊢
   generalize hv : v2.alloc (.cells #[.int .i64 (⟨nd, i2v, none, 0, [], gv⟩ : V).node, .int .i64 (⟨nd, i2v, none, 0, [], gv⟩ : V).num, .slice (⟨nd, i2v, none, 0, [], gv⟩ : V).ad (⟨nd, i2v, none, 0, [], gv⟩ : V).data.length (⟨nd, i2v, none, 0, [], gv⟩ : V).cap, .bool (⟨nd, i2v, none, 0, [], gv⟩ : V).dead] 137) = v3 at CX OA ⊢
   clear hq hv
   replace BX := BX.off OA (fun h => h)
   replace MK := MK.free OA
   replace PO := PO.trans (OA.mono (fun _ _ h => h.elim)) (fun _ _ h => h)
   have RD3 := RD2.off OA (fun h => h) (fun _ _ _ h => h)
   have HQX : Hid (w8.heap.size ≤ qx ∧ q6 < qx) := ⟨hz2, hlx⟩
   have HM1 : Hid (∀ k, blk ao = some k → k < qx) := hm1
   have HM2 : Hid (∀ v ∈ lo, ∀ k, blk v.ad = some k → k < qx) := hm2
   clear OA RD2 hlx hz2 hm1 hm2
   go_wp2_with fail
   refine (frtext_any RD3 200 (by decide) (by decide)).mono ?_
   rw [HD3.out]
   dsimp only
   rintro e v4 ⟨tt, tc, rfl, own, hk, RD4, o1⟩
   replace BX := BX.off o1 (fun e => by have := HB.out; have := HQ6.out; omega)
   replace MK := MK.off o1 (fun k h1 _ e => by have := HB.out; have := HN.out; omega)
   replace PO := PO.trans o1 (fun _ _ h => .inl h)
   have hx3 := CX.lt
   replace CX := CX.off o1 (fun e => by have := HB.out; have := HQX.out; have := HN.out; omega)
   have HTK : Hid (∀ k, blk tt = some k → qx < k ∧ w8.heap.size ≤ k) := fun k hk1 => by have := hk k hk1; have := HQX.out; omega
   clear o1 RD3 hk hx3
   obtain ⟨e0, e1, e2, e3⟩ := cel4 (v := (⟨nd, i2v, none, 0, [], gv⟩ : V)) CX
   have fx := CX.free
   go_upto_region 7 with fail
   clear e0 e1 e2 e3 fx
   have CX2 := CX.set 2 (.slice tt tx.length tc)
   simp only [lsA, lsZ, lsS] at CX2
   have os : Off (fun c => c = qx) v4 (v4.setCell ⟨qx, 2, none⟩ (.slice tt tx.length tc)) := (Off.refl (fun c => c = qx) v4).setCell (p := ⟨qx, 2, none⟩) (.inl rfl) _
   replace BX := BX.off os (fun e => by have := HQX.out; omega)
   have RD5 := RD4.off os (fun e => by have := HB.out; have := HQX.out; have := HN.out; omega) (fun c _ hc e => by have := HLD.out c hc; have := HQX.out; have := HN.out; omega)
   replace own := own.off os (fun k _ hk e => by have := HTK.out k hk; omega)
   have PO5 := PO.setCell (p := ⟨qx, 2, none⟩) (.inr HQX.out.1) (.slice tt tx.length tc)
   have MK5 := MK.offB os (fun k hk e => by have := HM1.out k hk; omega) (fun v hv k hk e => by have := HM2.out v hv k hk; omega)
   generalize hv : v4.setCell ⟨qx, 2, none⟩ (.slice tt tx.length tc) = v5 at CX2 os BX RD5 own PO5 MK5 ⊢
   clear hv os CX MK PO RD4
   have UK : VOk v5 (⟨nd, i2v, tt, tc, tx, gv⟩ : V) := ⟨own.src, HFX.out.2.2.1, by have := HFX.out.1; show _ ≤ nd; omega, by have := HFX.out.1; show nd ≤ _; omega, HFX.out.2.1.1, HFX.out.2.1.2, by have := HFX.out.2.2.2; show tx.length ≤ _; omega⟩
   have HTL : Hid (∀ k, blk tt = some k → k < v5.heap.size) := own.lt
   have HKT : Hid (∀ k, blk tt = some k → w8.heap.size ≤ k ∧ k < v5.heap.size ∧ blk ao ≠ some k) := fun k hk => ⟨(HTK.out k hk).2, by have := HTL.out k hk; omega, fun e => by have := HM1.out k e; have := (HTK.out k hk).1; omega⟩
   have CB := Cel.new v5 137 #[.int .i64 (⟨nd, i2v, tt, tc, tx, gv⟩ : V).node, .int .i64 (⟨nd, i2v, tt, tc, tx, gv⟩ : V).num, .slice (⟨nd, i2v, tt, tc, tx, gv⟩ : V).ad (⟨nd, i2v, tt, tc, tx, gv⟩ : V).data.length (⟨nd, i2v, tt, tc, tx, gv⟩ : V).cap, .bool (⟨nd, i2v, tt, tc, tx, gv⟩ : V).dead]
   have OB : Off (fun _ => False) v5 (v5.alloc (.cells #[.int .i64 (⟨nd, i2v, tt, tc, tx, gv⟩ : V).node, .int .i64 (⟨nd, i2v, tt, tc, tx, gv⟩ : V).num, .slice (⟨nd, i2v, tt, tc, tx, gv⟩ : V).ad (⟨nd, i2v, tt, tc, tx, gv⟩ : V).data.length (⟨nd, i2v, tt, tc, tx, gv⟩ : V).cap, .bool (⟨nd, i2v, tt, tc, tx, gv⟩ : V).dead] 137)) := (Off.refl _ v5).alloc _
   have MK6 := MK5.free OB
   have BX6 := BX.off OB (fun h => h)
   have UK6 := UK.off OB (fun _ _ _ h => h)
   have RB := row_one CB UK6
   have RD6 := RD5.off OB (fun h => h) (fun _ _ _ h => h)
   have PO6 := PO5.trans (OB.mono (fun _ _ h => h.elim)) (fun _ _ h => h)
   have szc := OB.size
   have sz8 := PO5.size
   obtain ⟨a2, c2, v7, hr, own2, o2, at2⟩ := app_runV MK6.own RB (fun h => by simp at h) (by simp; omega) 42
   have MK7 := MK6.snoc (u := (⟨nd, i2v, tt, tc, tx, gv⟩ : V)) (by omega) UK6 (fun k hk => ⟨(HKT.out k hk).1, by have := (HKT.out k hk).2.1; omega, (HKT.out k hk).2.2⟩) own2 o2 at2
   have BX7 := BX6.off o2 (fun e => by have := MK6.lo q6 e; have := HL6.out; omega)
   have RD7 := RD6.off o2 (fun e => by have := MK6.lo b e; have := HB.out; have := HN.out; omega) (fun c _ hc e => by have := MK6.lo c e; have := HLD.out c hc; have := HN.out; omega)
   have PO7 : Off (fun c => c = b ∨ c = q6) w8 v7 := ((PO6.mono (E := fun c => (c = b ∨ c = q6) ∨ w8.heap.size ≤ c) (fun _ _ h => .inl h)).trans o2 (fun k _ e => .inr (MK6.lo k e))).mono (fun k hk h => h.elim id (fun e => by omega))
   obtain ⟨x0, x1, x2, x3, x4, x5, x6, x7, x8⟩ := cel9 BX
   obtain ⟨e0, e1, e2, e3⟩ := cel4 (v := (⟨nd, i2v, tt, tc, tx, gv⟩ : V)) CX2
   have hlen2 : (lo ++ [(⟨nd, i2v, tt, tc, tx, gv⟩ : V)]).length = lo.length + 1 := by simp
   rw [hlen2] at hr
   have f8 := BX7.free
   have g8 : v7.cell? ⟨q6, 8, none⟩ = some (.slice ao lo.length co) := BX7.cell 8
   have HBX7 : Hid _ := BX7
   have HMK7 : Hid _ := MK7
   have HRD7 : Hid _ := RD7
   have HPO7 : Hid _ := PO7
   have HRU : Hid _ := hr
   clear BX BX6 BX7 MK5 MK6 MK7 RD5 RD6 RD7 PO5 PO6 PO7 UK UK6 RB CB OB own own2 o2 at2 CX2 szc sz8 hr hlen2 HKT HTL HTK
   go_upto_region 8 with (at_builtin; refine wpList_append_run rfl (.tmp 28) (.tmp 30) rfl rfl rfl HRU.out ?_)
   clear x0 x1 x2 x3 x4 x5 x6 x7 x8 e0 e1 e2 e3 g8 f8
   have BX8 := HBX7.out.set 8 (.slice a2 (lo.length + 1) c2)
   simp only [lsA, lsZ, lsS] at BX8
   have os : Off (fun c => c = q6) v7 (v7.setCell ⟨q6, 8, none⟩ (.slice a2 (lo.length + 1) c2)) := (Off.refl (fun c => c = q6) v7).setCell (p := ⟨q6, 8, none⟩) (.inl rfl) _
   have MK8 := HMK7.out.off os (fun k h1 _ h2 => by have := HL6.out; omega)
   have RD8 := HRD7.out.off os (fun e => by have := HQ6.out; have := HB.out; omega) (fun c _ hc e => by have := HLD.out c hc; have := HQ6.out; omega)
   have PO8 : Off (fun c => c = b ∨ c = q6) w8 _ := HPO7.out.setCell (p := ⟨q6, 8, none⟩) (.inl (.inr rfl)) (.slice a2 (lo.length + 1) c2)
   generalize hv : v7.setCell ⟨q6, 8, none⟩ (.slice a2 (lo.length + 1) c2) = v8 at BX8 os MK8 RD8 PO8 ⊢
   have hl2 : (lo ++ [(⟨nd, i2v, tt, tc, tx, gv⟩ : V)]).length = lo.length + 1 := by simp
   have HLC : Hid (cont (lo ++ [(⟨nd, i2v, tt, tc, tx, gv⟩ : V)]) = rdL nodeR (i + 1) s2) := by
    show _ = _
    rw [rdL_succ, ← HLO.out, ← HSX.out, HA.out]
    simp [cont, V.abs]
   have hrs : rdSt s2 (i + 1) = t3 := by rw [← HSV.out, HSX.out]; rfl
   have HB3 : Hid _ := BX8
   have HM3 : Hid _ := MK8
   have HR3 : Hid (Rdr 68 D b (rdSt s2 (i + 1)) v8) := by rw [hrs]; exact RD8
   have HOF : Hid _ := PO8
   clear hv BX8 MK8 RD8 PO8 os hrs
   go_wp2_with fail
   go_roundw
   case rel => exact ⟨i + 1, lo ++ [(⟨nd, i2v, tt, tc, tx, gv⟩ : V)], a2, c2, by go_num, by omega, by rw [hl2]; exact HB3.out, HM3.out, by rw [hl2]; omega, HLC.out, HR3.out, HOF.out⟩
   case measure => simp [intOf]; omega
  ·have i1 : decide ((i : Int) < (cnt : Int)) = false := decide_eq_false (by omega)
   have i2 : decide (i < cnt) = false := decide_eq_false hil
   have hcnt : i = cnt := by omega
   have HLF : Hid (cont lo = srV nodeR s) := by show _ = _; rw [HLO.out, hcnt]; simp only [srV, HCN.out]
   have HRF : Hid (Rdr 68 D b (srS s) wr) := by have h := HRD.out; rw [hcnt] at h; show Rdr 68 D b (srS s) wr; unfold srS; rw [HCN.out]; exact h
   have H2F : Hid _ := H28.out.off HPO.out (fun e => by have := HQQ.out; have := HB.out; omega)
   have HOA : Hid (Off (fun c => c = b) w wr) := (HO8.out.trans (HPO.out.mono (E := fun c => c = b ∨ c = q6) (fun _ _ h => h)) (fun k hk h => h.elim id (fun e => by have := HQ6.out; omega)))
   clear HRD HLO hcnt i1 i2
   have i1 : decide ((i : Int) < (cnt : Int)) = false := decide_eq_false (by omega)
   have i2 : decide (i < cnt) = false := decide_eq_false hil
   cases hok : okB
   ·have HRES : Hid (srB nodeR s = false ∧ zer = srF nodeR s ∧ cont [] = srL nodeR s) := sr_no (.inl (by rw [← HOK.out]; exact hok))
    subst hok
    have D2 := H2F.out
    obtain ⟨x0, x1, x2, x3, x4, x5, x6, x7, x8⟩ := cel9 D2
    have fz := D2.free
    go_wp2_with fail
    have E2 := D2.clr9
    have OE := HOA.out.clr9 (b := q2) (.inr HQ2.out)
    refine bodyPost_ret (results_err9 rfl rfl rfl E2) rfl ?_
    have os := (Off.refl (fun c => c = q2) wr).clr9 (b := q2) (.inl rfl)
    exact ⟨zer, none, 0, [], by rw [HRES.out.1]; rfl, HRES.out.2.1, HRES.out.2.2, Row.nil _ _ _ (by omega), Frh.nil _, HRF.out.off os (fun e => by have := HQ2.out; have := HB.out; omega) (fun c _ hc e => by have := HLD.out c hc; have := HQ2.out; omega), OE⟩
   cases hst : decide ((srS s).2 = 0)
   ·have HRES : Hid (srB nodeR s = false ∧ zer = srF nodeR s ∧ cont [] = srL nodeR s) := sr_no (.inr (.inl hst))
    subst hok
    obtain ⟨ra, rc, k0, k1⟩ := rdr_cells HRF.out
    have hne : (((srS s).2 : Nat) : Int) ≠ 0 := by simpa using hst
    have hne2 : ((((srS s).2 : Nat) : Int) != 0) = true := by simpa using hne
    have D2 := H2F.out
    obtain ⟨x0, x1, x2, x3, x4, x5, x6, x7, x8⟩ := cel9 D2
    have fz := D2.free
    go_wp2_with fail
    have E2 := D2.clr9
    have OE := HOA.out.clr9 (b := q2) (.inr HQ2.out)
    refine bodyPost_ret (results_err9 rfl rfl rfl E2) rfl ?_
    have os := (Off.refl (fun c => c = q2) wr).clr9 (b := q2) (.inl rfl)
    exact ⟨zer, none, 0, [], by rw [HRES.out.1]; rfl, HRES.out.2.1, HRES.out.2.2, Row.nil _ _ _ (by omega), Frh.nil _, HRF.out.off os (fun e => by have := HQ2.out; have := HB.out; omega) (fun c _ hc e => by have := HLD.out c hc; have := HQ2.out; omega), OE⟩
   subst hok
   obtain ⟨x0, x1, x2, x3, x4, x5, x6, x7, x8⟩ := cel9 HBX.out
   obtain ⟨ra, rc, k0, k1⟩ := rdr_cells HRF.out
   have hst0 : (srS s).2 = 0 := of_decide_eq_true hst
   have k1' : wr.cell? ⟨b, 1, none⟩ = some (.int .i64 0) := by rw [k1, hst0]; rfl
   clear k1
   go_wp2_with fail
   clear k0 k1'
   clear x0 x1 x2 x3 x4 x5 x6 x7 x8
   refine (gmay_any fF ao co lo wr HMK.out.row).mono ?_
   cases hmy : mayS fF (cont lo)
   ·have HRES : Hid (srB nodeR s = false ∧ zer = srF nodeR s ∧ cont [] = srL nodeR s) := sr_no (.inr (.inr (by rw [← HFF.out, ← HLF.out]; exact hmy)))
    rintro e xw ⟨rfl, o9⟩
    have HRF9 := HRF.out.off o9 (fun h => h) (fun _ _ _ h => h)
    have H2G : Hid _ := H2F.out.off o9 (fun h => h)
    have HOB : Hid _ := HOA.out.trans (o9.mono (fun _ _ h => h.elim)) (fun _ _ h => h)
    have D2 := H2G.out
    obtain ⟨x0, x1, x2, x3, x4, x5, x6, x7, x8⟩ := cel9 D2
    have fz := D2.free
    go_wp2_with fail
    have E2 := D2.clr9
    have OE := HOB.out.clr9 (b := q2) (.inr HQ2.out)
    refine bodyPost_ret (results_err9 rfl rfl rfl E2) rfl ?_
    have os := (Off.refl (fun c => c = q2) xw).clr9 (b := q2) (.inl rfl)
    exact ⟨zer, none, 0, [], by rw [HRES.out.1]; rfl, HRES.out.2.1, HRES.out.2.2, Row.nil _ _ _ (by omega), Frh.nil _, HRF9.off os (fun e => by have := HQ2.out; have := HB.out; omega) (fun c _ hc e => by have := HLD.out c hc; have := HQ2.out; omega), OE⟩
   ·have HRES : Hid _ := sr_yes (nd := nodeR) (s := s) (by rw [← HOK.out]) hst (by rw [← HFF.out, ← HLF.out]; exact hmy)
    rintro e xw ⟨rfl, o9⟩
    have HRF9 := HRF.out.off o9 (fun h => h) (fun _ _ _ h => h)
    have D2 := H2F.out.off o9 (fun h => h)
    have HOB : Hid _ := HOA.out.trans (o9.mono (fun _ _ h => h.elim)) (fun _ _ h => h)
    have HMX : Hid _ := HMK.out.free o9
    obtain ⟨x0, x1, x2, x3, x4, x5, x6, x7, x8⟩ := cel9 (HBX.out.off o9 (fun h => h))
    obtain ⟨y0, y1, y2, y3, y4, y5, y6, y7, y8⟩ := cel9 D2
    have fz := D2.free
    have HX1 : Hid (q2 < w8.heap.size) := H28.out.lt
    go_wp2_with fail
    have E2 := D2.st9 fF (.slice ao lo.length co)
    have OE := HOB.out.st9 (b := q2) (.inr HQ2.out) fF (.slice ao lo.length co)
    refine bodyPost_ret (results_sibs2 rfl rfl rfl E2) rfl ?_
    have os := (Off.refl (fun c => c = q2) xw).st9 (b := q2) (.inl rfl) fF (.slice ao lo.length co)
    have rw9 := (HMX.out.off os (fun k hk _ e => by have := HX1.out; omega)).row
    have rd9 := HRF9.off os (fun e => by have := HQ2.out; have := HB.out; omega) (fun c _ hc e => by have := HLD.out c hc; have := HQ2.out; omega)
    have h1 : fF = srF nodeR s := by rw [HFF.out]; exact HRES.out.2.1
    have h2 : cont lo = srL nodeR s := by rw [HLF.out]; exact HRES.out.2.2
    exact ⟨fF, ao, co, lo, by rw [HRES.out.1]; rfl, h1, h2, rw9, ⟨fun k hk => Nat.le_trans HN.out (HMX.out.lo k hk), fun v hv k hk => Nat.le_trans HN.out ((HMX.out.val v hv).2 k hk).1⟩, rd9, OE⟩
end Go.Proofs.YtmbphlkohlggfaaGreat

namespace Go.Proofs.YtmbphlkohlggfaaGreat
open Go.RowKit
theorem Cel.st9e {b : Nat} {t : TypeId} {x0 x1 x2 x3 x4 x5 x6 x7 x8 x9 : Value} {w : World} (h : Cel b t #[x0, x1, x2, x3, x4, x5, x6, x7, x8, x9] w) (f : Nat → Int) (s : Value) : Cel b t #[x0, .int .i64 (f 0), .int .i64 (f 1), .int .i64 (f 2), .int .i64 (f 3), .int .i64 (f 4), .int .i64 (f 5), .int .i64 (f 6), .int .i64 (f 7), s] (((((((((w.setCell ⟨b, 1, none⟩ (.int .i64 (f 0))).setCell ⟨b, 2, none⟩ (.int .i64 (f 1))).setCell ⟨b, 3, none⟩ (.int .i64 (f 2))).setCell ⟨b, 4, none⟩ (.int .i64 (f 3))).setCell ⟨b, 5, none⟩ (.int .i64 (f 4))).setCell ⟨b, 6, none⟩ (.int .i64 (f 5))).setCell ⟨b, 7, none⟩ (.int .i64 (f 6))).setCell ⟨b, 8, none⟩ (.int .i64 (f 7))).setCell ⟨b, 9, none⟩ s) := by
 replace h := h.set 1 (.int .i64 (f 0))
 simp only [lsA, lsZ, lsS] at h
 replace h := h.set 2 (.int .i64 (f 1))
 simp only [lsA, lsZ, lsS] at h
 replace h := h.set 3 (.int .i64 (f 2))
 simp only [lsA, lsZ, lsS] at h
 replace h := h.set 4 (.int .i64 (f 3))
 simp only [lsA, lsZ, lsS] at h
 replace h := h.set 5 (.int .i64 (f 4))
 simp only [lsA, lsZ, lsS] at h
 replace h := h.set 6 (.int .i64 (f 5))
 simp only [lsA, lsZ, lsS] at h
 replace h := h.set 7 (.int .i64 (f 6))
 simp only [lsA, lsZ, lsS] at h
 replace h := h.set 8 (.int .i64 (f 7))
 simp only [lsA, lsZ, lsS] at h
 replace h := h.set 9 s
 simp only [lsA, lsZ, lsS] at h
 exact h
theorem Off.st9e {D : Nat → Prop} {a w : World} {b : Nat} (h : Off D a w) (hb : D b ∨ a.heap.size ≤ b) (f : Nat → Int) (s : Value) : Off D a (((((((((w.setCell ⟨b, 1, none⟩ (.int .i64 (f 0))).setCell ⟨b, 2, none⟩ (.int .i64 (f 1))).setCell ⟨b, 3, none⟩ (.int .i64 (f 2))).setCell ⟨b, 4, none⟩ (.int .i64 (f 3))).setCell ⟨b, 5, none⟩ (.int .i64 (f 4))).setCell ⟨b, 6, none⟩ (.int .i64 (f 5))).setCell ⟨b, 7, none⟩ (.int .i64 (f 6))).setCell ⟨b, 8, none⟩ (.int .i64 (f 7))).setCell ⟨b, 9, none⟩ s) :=
 (((((((((h.setCell hb _).setCell hb _).setCell hb _).setCell hb _).setCell hb _).setCell hb _).setCell hb _).setCell hb _).setCell hb _)
theorem sr_end {nd : Nat → Int} {s : RS} (h : srB nd s = true) : (srS s).2 = 0 := by
 unfold srB at h
 simp only [Bool.and_eq_true, decide_eq_true_eq] at h
 exact h.1.2
set_option maxRecDepth 100000 in
set_option maxHeartbeats 2000000 in
theorem greadEntry_any {D : Nat → Prop} {b : Nat} {s : RS} {w : World} (hR : Rdr 68 D b s w) :
  Calls Tryz.prog 27 #[.pointer (some ⟨b, 0, none⟩)] w fun e w' => ∃ (key : ByteArray) (h : Nat → Int) (a' : Option Addr) (c' : Nat) (l' : List V), e = .returned (.tuple #[.agg #[.string key, .int .i64 (h 0), .int .i64 (h 1), .int .i64 (h 2), .int .i64 (h 3), .int .i64 (h 4), .int .i64 (h 5), .int .i64 (h 6), .int .i64 (h 7), .slice a' l'.length c'], .bool (reB nodeR s)]) ∧ key = reKey nodeR s ∧ h = reF nodeR s ∧ cont l' = reL nodeR s ∧ Row w' a' c' l' ∧ Frh w.heap.size a' l' ∧ Rdr 68 D b (reS s) w' ∧ Off (fun c => c = b) w w' := by
 have hnot := not_any
 have HB : Hid (b < w.heap.size) := hR.here
 have HLD : Hid (∀ c, D c → c < w.heap.size) := hR.lt
 obtain ⟨kt, hkt⟩ : ∃ x, x = (textS 32 s).1 := ⟨_, rfl⟩
 obtain ⟨s1, hs1⟩ : ∃ x, x = reT s := ⟨_, rfl⟩
 have HE : Hid (textS (32 : Int).toNat s = (kt, s1)) := by show _ = _; rw [hkt, hs1]; rfl
 have HKT : Hid (strOf kt = reK s) := by show _ = _; rw [hkt]; rfl
 have HS1 : Hid _ := hs1
 clear hkt hs1
 have C2 := Cel.new w 46 #[.string ⟨#[]⟩, .int .i64 0, .int .i64 0, .int .i64 0, .int .i64 0, .int .i64 0, .int .i64 0, .int .i64 0, .int .i64 0, .slice none 0 0]
 have O : Off (fun _ => False) w (w.alloc (.cells #[.string ⟨#[]⟩, .int .i64 0, .int .i64 0, .int .i64 0, .int .i64 0, .int .i64 0, .int .i64 0, .int .i64 0, .int .i64 0, .slice none 0 0] 46)) := (Off.refl _ w).alloc _
 have R0 := hR.off O (fun h => h) (fun _ _ _ h => h)
 clear hR
 go_enter Tryz.func27, Tryz.ntmps27
 go_upto_region 1 with fail
 generalize hq : w.heap.size = q2 at C2 ⊢
 have HQ2 : Hid (w.heap.size ≤ q2) := by show _ ≤ _; omega
 generalize hv : w.alloc (.cells #[.string ⟨#[]⟩, .int .i64 0, .int .i64 0, .int .i64 0, .int .i64 0, .int .i64 0, .int .i64 0, .int .i64 0, .int .i64 0, .slice none 0 0] 46) = W at C2 O R0 ⊢
 clear hq hv
 go_wp2_with fail
 refine (frtext_any R0 32 (by decide) (by decide)).mono ?_
 rw [HE.out]
 dsimp only
 rintro e w1 ⟨tt, tc, rfl, own, -, R1, o1⟩
 have hcs := conv_src own.src
 rw [HKT.out] at hcs
 obtain ⟨ks, hks⟩ : ∃ x, x = reK s := ⟨_, rfl⟩
 rw [← hks] at hcs
 have HKS : Hid _ := hks
 replace C2 := C2.off o1 (fun e => by have := HB.out; have := HQ2.out; omega)
 have O1 : Off (fun c => c = b) w w1 := (O.mono (fun _ _ h => h.elim)).trans o1 (fun _ _ h => h)
 have HW1 : Hid (w.heap.size ≤ w1.heap.size) := O1.size
 clear R0 o1 O own hks
 go_upto_region 2 with fail
 clear hcs
 have C4 := Cel.new w1 46 #[.string ks, .int .i64 0, .int .i64 0, .int .i64 0, .int .i64 0, .int .i64 0, .int .i64 0, .int .i64 0, .int .i64 0, .slice none 0 0]
 have OA : Off (fun _ => False) w1 (w1.alloc (.cells #[.string ks, .int .i64 0, .int .i64 0, .int .i64 0, .int .i64 0, .int .i64 0, .int .i64 0, .int .i64 0, .int .i64 0, .slice none 0 0] 46)) := (Off.refl _ w1).alloc _
 have hzq := C2.lt
 generalize hq : w1.heap.size = q4 at C4 hzq ⊢
 have HQ4 : Hid (q2 < q4 ∧ w.heap.size ≤ q4) := ⟨hzq, by have := HQ2.out; omega⟩
 generalize hv : w1.alloc (.cells #[.string ks, .int .i64 0, .int .i64 0, .int .i64 0, .int .i64 0, .int .i64 0, .int .i64 0, .int .i64 0, .int .i64 0, .slice none 0 0] 46) = u1 at C4 OA ⊢
 clear hq hv hzq
 replace C2 := C2.off OA (fun h => h)
 replace R1 := R1.off OA (fun h => h) (fun _ _ _ h => h)
 replace O1 := O1.trans (OA.mono (fun _ _ h => h.elim)) (fun _ _ h => h)
 have HW2 : Hid (w.heap.size ≤ u1.heap.size) := O1.size
 have HQ5 : Hid (q4 < u1.heap.size) := C4.lt
 clear OA
 go_wp2_with fail
 refine (gread_any R1).mono ?_
 have HQ1 : Hid (q2 < u1.heap.size) := C2.lt
 rintro e w2 ⟨h1, a1, c1, l1, rfl, hh1, hl1, rw1, fr1, R2, o2⟩
 have HFR : Hid _ := fr1
 clear fr1
 have HH1 : Hid (h1 = srF nodeR (reT s)) := by show _ = _; rw [hh1, HS1.out]
 have HL1 : Hid (cont l1 = srL nodeR (reT s)) := by show _ = _; rw [hl1, HS1.out]
 have HR2 : Hid (Rdr 68 D b (reS s) w2) := by show Rdr 68 D b (reS s) w2; unfold reS; rw [← HS1.out]; exact R2
 obtain ⟨B1, hB1⟩ : ∃ x, x = srB nodeR s1 := ⟨_, rfl⟩
 rw [← hB1]
 have HB1 : Hid (B1 = srB nodeR (reT s)) := by show _ = _; rw [hB1, HS1.out]
 replace C2 := C2.off o2 (fun e => by have := HB.out; have := HQ2.out; omega)
 replace C4 := C4.off o2 (fun e => by have := HB.out; have := HQ4.out; omega)
 have O2 := O1.trans o2 (fun _ _ h => h)
 have HRW : Hid _ := rw1
 clear R1 R2 o2 O1 hh1 hl1 hB1 rw1
 go_upto_region 3 with fail
 have C5 := Cel.new w2 44 #[.int .i64 (h1 0), .int .i64 (h1 1), .int .i64 (h1 2), .int .i64 (h1 3), .int .i64 (h1 4), .int .i64 (h1 5), .int .i64 (h1 6), .int .i64 (h1 7), .slice a1 l1.length c1]
 have OA : Off (fun _ => False) w2 (w2.alloc (.cells #[.int .i64 (h1 0), .int .i64 (h1 1), .int .i64 (h1 2), .int .i64 (h1 3), .int .i64 (h1 4), .int .i64 (h1 5), .int .i64 (h1 6), .int .i64 (h1 7), .slice a1 l1.length c1] 44)) := (Off.refl _ w2).alloc _
 generalize hq : w2.heap.size = q5 at C5 ⊢
 generalize hv : w2.alloc (.cells #[.int .i64 (h1 0), .int .i64 (h1 1), .int .i64 (h1 2), .int .i64 (h1 3), .int .i64 (h1 4), .int .i64 (h1 5), .int .i64 (h1 6), .int .i64 (h1 7), .slice a1 l1.length c1] 44) = w3 at C5 OA ⊢
 clear hq hv
 replace C2 := C2.off OA (fun h => h)
 replace C4 := C4.off OA (fun h => h)
 have O3 := O2.trans (OA.mono (fun _ _ h => h.elim)) (fun _ _ h => h)
 have R3 := HR2.out.off OA (fun h => h) (fun _ _ _ h => h)
 have RW3 := HRW.out.off OA
 clear OA O2 HR2 HRW
 obtain ⟨x0, x1, x2, x3, x4, x5, x6, x7, x8⟩ := cel9 C5
 have y0 := C4.cell 0
 have y1 := C4.cell 1
 have y2 := C4.cell 2
 have y3 := C4.cell 3
 have y4 := C4.cell 4
 have y5 := C4.cell 5
 have y6 := C4.cell 6
 have y7 := C4.cell 7
 have y8 := C4.cell 8
 have y9 := C4.cell 9
 simp at y0 y1 y2 y3 y4 y5 y6 y7 y8 y9
 have f4 := C4.free
 go_upto_region 4 with fail
 clear x0 x1 x2 x3 x4 x5 x6 x7 x8 C5 y0 y1 y2 y3 y4 y5 y6 y7 y8 y9 f4
 have C7 := C4.st9e h1 (.slice a1 l1.length c1)
 have os4 := (Off.refl (fun c => c = q4) w3).st9e (b := q4) (.inl rfl) h1 (.slice a1 l1.length c1)
 have H2' := C2.off os4 (fun e => by have := HQ4.out; omega)
 have eO := O3.st9e (b := q4) (.inr HQ4.out.2) h1 (.slice a1 l1.length c1)
 have eR := R3.off os4 (fun e => by have := HB.out; have := HQ4.out; omega) (fun c _ hc e => by have := HLD.out c hc; have := HQ4.out; omega)
 have RW4 := RW3.far HFR.out HQ5.out os4
 generalize hv : (((((((((w3.setCell ⟨q4, 1, none⟩ (.int .i64 (h1 0))).setCell ⟨q4, 2, none⟩ (.int .i64 (h1 1))).setCell ⟨q4, 3, none⟩ (.int .i64 (h1 2))).setCell ⟨q4, 4, none⟩ (.int .i64 (h1 3))).setCell ⟨q4, 5, none⟩ (.int .i64 (h1 4))).setCell ⟨q4, 6, none⟩ (.int .i64 (h1 5))).setCell ⟨q4, 7, none⟩ (.int .i64 (h1 6))).setCell ⟨q4, 8, none⟩ (.int .i64 (h1 7))).setCell ⟨q4, 9, none⟩ (.slice a1 l1.length c1)) = ew at C7 os4 H2' eO eR RW4 ⊢
 have H2 : Hid _ := H2'
 have eo : Off (fun _ => False) ew ew := Off.refl _ _
 have HC7 : Hid _ := C7
 clear hv os4 H2' O3 R3 RW3 C2 C4 C7
 cases B1
 ·have HRES : Hid (reB nodeR s = false) := by show _ = _; unfold reB; rw [← HB1.out]; rfl
  have D2 := H2.out.off eo (fun h => h)
  have y0 := D2.cell 0
  have y1 := D2.cell 1
  have y2 := D2.cell 2
  have y3 := D2.cell 3
  have y4 := D2.cell 4
  have y5 := D2.cell 5
  have y6 := D2.cell 6
  have y7 := D2.cell 7
  have y8 := D2.cell 8
  have y9 := D2.cell 9
  simp at y0 y1 y2 y3 y4 y5 y6 y7 y8 y9
  have fz := D2.free
  go_wp2_with fail
  have E2 := D2.clr10
  have OE := eO.clr10 (b := q2) (.inr HQ2.out)
  refine bodyPost_ret (results_entry rfl rfl rfl E2) rfl ?_
  have os := (Off.refl (fun c => c = q2) ew).clr10 (b := q2) (.inl rfl)
  have rr := eR.off os (fun e => by have := HQ2.out; have := HB.out; omega) (fun c _ hc e => by have := HLD.out c hc; have := HQ2.out; omega)
  obtain ⟨r1, r2, r3⟩ := re_no HRES.out
  exact ⟨⟨#[]⟩, zer, none, 0, [], by rw [HRES.out]; rfl, r1, r2, r3, Row.nil _ _ _ (by omega), Frh.nil _, rr, OE⟩
 ·obtain ⟨ra, rc, g0, g1⟩ := rdr_cells eR
  have hE : (reS s).2 = 0 := by unfold reS; exact sr_end HB1.out.symm
  have g1' : ew.cell? ⟨b, 1, none⟩ = some (.int .i64 0) := by rw [g1, hE]; rfl
  clear g1
  have z0 := HC7.out.cell 0
  have z1 := HC7.out.cell 1
  have z2 := HC7.out.cell 2
  have z3 := HC7.out.cell 3
  have z4 := HC7.out.cell 4
  have z5 := HC7.out.cell 5
  have z6 := HC7.out.cell 6
  have z7 := HC7.out.cell 7
  have z8 := HC7.out.cell 8
  have z9 := HC7.out.cell 9
  simp at z0 z1 z2 z3 z4 z5 z6 z7 z8 z9
  go_wp2_with fail
  clear z0 z1 z2 z3 z4 z5 z6 z7 z8 z9 g0 g1' hE
  refine (gmayentry_any ks h1 a1 c1 l1 _ RW4).mono ?_
  cases hme : (keyB ks && mayS h1 (cont l1))
  ·have HRES : Hid (reB nodeR s = false) := by show _ = _; unfold reB; rw [← HB1.out, ← HKS.out, ← HH1.out, ← HL1.out, hme]; rfl
   rintro e fw ⟨rfl, fo⟩
   have fO := eO.trans (fo.mono (fun _ _ h => h.elim)) (fun _ _ h => h)
   have fR := eR.off fo (fun h => h) (fun _ _ _ h => h)
   have D2 := H2.out.off fo (fun h => h)
   have y0 := D2.cell 0
   have y1 := D2.cell 1
   have y2 := D2.cell 2
   have y3 := D2.cell 3
   have y4 := D2.cell 4
   have y5 := D2.cell 5
   have y6 := D2.cell 6
   have y7 := D2.cell 7
   have y8 := D2.cell 8
   have y9 := D2.cell 9
   simp at y0 y1 y2 y3 y4 y5 y6 y7 y8 y9
   have fz := D2.free
   go_wp2_with fail
   have E2 := D2.clr10
   have OE := fO.clr10 (b := q2) (.inr HQ2.out)
   refine bodyPost_ret (results_entry rfl rfl rfl E2) rfl ?_
   have os := (Off.refl (fun c => c = q2) fw).clr10 (b := q2) (.inl rfl)
   have rr := fR.off os (fun e => by have := HQ2.out; have := HB.out; omega) (fun c _ hc e => by have := HLD.out c hc; have := HQ2.out; omega)
   obtain ⟨r1, r2, r3⟩ := re_no HRES.out
   exact ⟨⟨#[]⟩, zer, none, 0, [], by rw [HRES.out]; rfl, r1, r2, r3, Row.nil _ _ _ (by omega), Frh.nil _, rr, OE⟩
  ·have HRES : Hid (reB nodeR s = true) := by show _ = _; unfold reB; rw [← HB1.out, ← HKS.out, ← HH1.out, ← HL1.out, hme]; rfl
   rintro e fw ⟨rfl, fo⟩
   have fO := eO.trans (fo.mono (fun _ _ h => h.elim)) (fun _ _ h => h)
   have fR := eR.off fo (fun h => h) (fun _ _ _ h => h)
   have RW5 := RW4.off fo
   have D2 := H2.out.off fo (fun h => h)
   have D7 := HC7.out.off fo (fun h => h)
   have y0 := D2.cell 0
   have y1 := D2.cell 1
   have y2 := D2.cell 2
   have y3 := D2.cell 3
   have y4 := D2.cell 4
   have y5 := D2.cell 5
   have y6 := D2.cell 6
   have y7 := D2.cell 7
   have y8 := D2.cell 8
   have y9 := D2.cell 9
   simp at y0 y1 y2 y3 y4 y5 y6 y7 y8 y9
   have z0 := D7.cell 0
   have z1 := D7.cell 1
   have z2 := D7.cell 2
   have z3 := D7.cell 3
   have z4 := D7.cell 4
   have z5 := D7.cell 5
   have z6 := D7.cell 6
   have z7 := D7.cell 7
   have z8 := D7.cell 8
   have z9 := D7.cell 9
   simp at z0 z1 z2 z3 z4 z5 z6 z7 z8 z9
   have fz := D2.free
   have HRO : Hid (Row fw a1 c1 l1) := RW5
   go_wp2_with fail
   have E2 := D2.st10 ks h1 (.slice a1 l1.length c1)
   have OE := fO.st10 (b := q2) (.inr HQ2.out) ks h1 (.slice a1 l1.length c1)
   refine bodyPost_ret (results_entry rfl rfl rfl E2) rfl ?_
   have os := (Off.refl (fun c => c = q2) fw).st10 (b := q2) (.inl rfl) ks h1 (.slice a1 l1.length c1)
   have rr := fR.off os (fun e => by have := HQ2.out; have := HB.out; omega) (fun c _ hc e => by have := HLD.out c hc; have := HQ2.out; omega)
   obtain ⟨r1, r2, r3⟩ := re_yes HRES.out
   rw [← HKS.out] at r1
   rw [← HH1.out] at r2
   rw [← HL1.out] at r3
   have rw9 := HRO.out.far HFR.out HQ1.out os
   exact ⟨ks, h1, a1, c1, l1, by rw [HRES.out]; rfl, r1, r2, r3, rw9, ⟨fun k hk => Nat.le_trans HW2.out (HFR.out.lo k hk), fun v hv k hk => Nat.le_trans HW2.out (HFR.out.val v hv k hk)⟩, rr, OE⟩
end Go.Proofs.YtmbphlkohlggfaaGreat
