/- The reference's dot and Read. -/
import Derived.Test.YtfkpnmmcdhibbaaSRead
import Derived.Test.YtfkpnmmcdhibbaaGMay
namespace Go.Proofs.Ytfkpnmmcdhibbaa
open Go.RowKit

theorem wpList_append_run {P : Program} {w w' : World} {ops : Array Oper} {rest : List Oper} {o : Oper} {a : Act} {Q : Exit → Act → World → Prop} (hgd : o.guard = none) (s x : Operand) {t u : TypeId}
    (ho : o.op = .call { callee := .builtin .append, args := #[s, x], argTypes := #[t, u] }) {v v' X : Value} (hs : a.eval s = v) (hx : a.eval x = X) (hr : (Builtin.append_ #[t, u] o.type #[v, X]).run P w = .ok v' w')
    (h : wpList P ops Q rest (a.put o.dst v') w') : wpList P ops Q (o :: rest) a w := by
  refine wpList_plain hgd fun K hK => ?_
  unfold Oper.wp
  simp [execOp, ho, resolve, invoke, builtin, hs, hx, hr, Result.andThen]
  exact hK _ _ h
theorem results_dot1 {fn : Func} {p : Tmp} (h : fn.results = #[.cell p 75]) {tmps : Array Value} {w : World} {b : Nat} {x y : Int} (hp : tmps.getD p undef = .pointer (some ⟨b, 0, none⟩)) (hc : Cel b 75 #[.int .i64 x, .int .i64 y] w) :
    (results fn tmps).run Try.prog w = .ok (.agg #[.int .i64 x, .int .i64 y]) w := by
  obtain ⟨d, hd⟩ : ∃ d, Try.prog.underlying 75 = some (.struct d) := ⟨_, Try.underlying75⟩
  exact results_cell_row h tmps w b 75 _ (0, 0) (.struct d) hp hc.is hd rfl (by kernel_rfl)
theorem Mk.offB {D : Nat → Prop} {N : Nat} {w w' : World} {a : Option Addr} {c : Nat} {l : List V} (h : Mk N w a c l) (o : Off D w w') (h1 : ∀ k, blk a = some k → ¬ D k) (h2 : ∀ v ∈ l, ∀ k, blk v.ad = some k → ¬ D k) : Mk N w' a c l :=
  ⟨h.own.off o h1, h.lo, fun v hv => ⟨(h.val v hv).1.off o (fun k _ hk => h2 v hv k hk), fun k hk => ⟨((h.val v hv).2 k hk).1, Nat.lt_of_lt_of_le ((h.val v hv).2 k hk).2.1 o.size, ((h.val v hv).2 k hk).2.2⟩⟩⟩

set_option maxRecDepth 100000 in
set_option maxHeartbeats 1000000 in
theorem gdot_any {D : Nat → Prop} {b : Nat} {s : RS} {w : World} (hR : Rdr 63 D b s w) :
    Calls Try.prog 89 #[.pointer (some ⟨b, 0, none⟩)] w fun e w' => e = .returned (.agg #[.int .i64 (nodeR (numS s).1), .int .i64 (intS (numS s).2).1]) ∧ Rdr 63 D b (intS (numS s).2).2 w' ∧ Off (fun c => c = b) w w' := by
  have HB : Hid (b < w.heap.size) := hR.here
  have HLD : Hid (∀ c, D c → c < w.heap.size) := hR.lt
  obtain ⟨n, hn⟩ : ∃ x, x = (numS s).1 := ⟨_, rfl⟩
  obtain ⟨s1, hs1⟩ : ∃ x, x = (numS s).2 := ⟨_, rfl⟩
  obtain ⟨i, hi⟩ : ∃ x, x = (intS s1).1 := ⟨_, rfl⟩
  obtain ⟨s2, hs2⟩ : ∃ x, x = (intS s1).2 := ⟨_, rfl⟩
  obtain ⟨nd, hnd⟩ : ∃ x, x = nodeR n := ⟨_, rfl⟩
  have HE1 : Hid (numS s = (n, s1)) := by show _ = _; rw [hn, hs1]
  have HE2 : Hid (intS s1 = (i, s2)) := by show _ = _; rw [hi, hs2]
  rw [← hn, ← hs1, ← hi, ← hs2, ← hnd]
  have hmin : ∀ ts t W, (Builtin.min_ ts t #[.int .u64 (n : Int), .int .u64 1073741824]).run Try.prog W = .ok (.int .u64 nd) W := fun ts t W => by
    rw [run_min_int2]
    congr 2
    rw [hnd]
    unfold nodeR
    split <;> omega
  have hndr : 0 ≤ nd ∧ nd ≤ 1073741824 := by rw [hnd]; unfold nodeR; omega
  obtain ⟨hnd0, hnd1⟩ := hndr
  clear hn hs1 hi hs2 hnd
  have C2 := Cel.new w 75 #[.int .i64 0, .int .i64 0]
  have O : Off (fun _ => False) w (w.alloc (.cells #[.int .i64 0, .int .i64 0] 75)) := (Off.refl _ w).alloc _
  have R0 := hR.off O (fun h => h) (fun _ _ _ h => h)
  clear hR
  go_enter Try.func89, Try.ntmps89
  go_upto_region 1 with fail
  generalize hq : w.heap.size = q2 at C2 ⊢
  have HQ2 : Hid (w.heap.size ≤ q2) := by show _ ≤ _; omega
  generalize hv : w.alloc (.cells #[.int .i64 0, .int .i64 0] 75) = W at C2 O R0 ⊢
  clear hq hv
  go_wp2_with fail
  refine (frnum_any R0).mono ?_
  rw [HE1.out]
  dsimp only
  rintro e v1 ⟨rfl, R1, o1⟩
  replace C2 := C2.off o1 (fun e => by have := HB.out; have := HQ2.out; omega)
  have O1 : Off (fun c => c = b) w v1 := (O.mono (fun _ _ h => h.elim)).trans o1 (fun _ _ h => h)
  clear R0 o1 O
  go_wp2_with fail
  refine (frint_any R1).mono ?_
  rw [HE2.out]
  dsimp only
  rintro e v2 ⟨rfl, R2, o1⟩
  replace C2 := C2.off o1 (fun e => by have := HB.out; have := HQ2.out; omega)
  have O2 := O1.trans o1 (fun _ _ h => h)
  clear R1 o1 O1
  go_upto_region 3 with fail
  have C4 := Cel.new v2 75 #[.int .i64 nd, .int .i64 i]
  have OA : Off (fun _ => False) v2 (v2.alloc (.cells #[.int .i64 nd, .int .i64 i] 75)) := (Off.refl _ v2).alloc _
  have hl2 := C2.lt
  generalize hq : v2.heap.size = q4 at C4 hl2 ⊢
  generalize hv : v2.alloc (.cells #[.int .i64 nd, .int .i64 i] 75) = v3 at C4 OA ⊢
  clear hq hv
  replace C2 := C2.off OA (fun h => h)
  have O3 := O2.trans (OA.mono (fun _ _ h => h.elim)) (fun _ _ h => h)
  have R3 := R2.off OA (fun h => h) (fun _ _ _ h => h)
  obtain ⟨x0, x1⟩ := cel2 C4
  obtain ⟨y0, y1⟩ := cel2 C2
  have fz := C2.free
  have HC2 : Hid _ := C2
  have HR3 : Hid _ := R3
  have HO3 : Hid _ := O3
  clear C2 C4 R2 R3 OA O2 O3 hl2 hmin
  go_wp2_with fail
  have E1 := (HC2.out.set 0 (.int .i64 nd))
  simp only [List.setIfInBounds_toArray, List.set_cons_zero] at E1
  have E2 := E1.set 1 (.int .i64 i)
  simp only [List.setIfInBounds_toArray, List.set_cons_zero, List.set_cons_succ] at E2
  refine bodyPost_ret (results_dot1 rfl rfl E2) rfl ?_
  have os := ((Off.refl (fun c => c = q2) v3).setCell (p := ⟨q2, 0, none⟩) (.inl rfl) (.int .i64 nd)).setCell (p := ⟨q2, 1, none⟩) (.inl rfl) (.int .i64 i)
  exact ⟨rfl, HR3.out.off os (fun e => by have := HQ2.out; have := HB.out; omega) (fun c _ hc e => by have := HLD.out c hc; have := HQ2.out; omega), (HO3.out.setCell (p := ⟨q2, 0, none⟩) (.inr HQ2.out) _).setCell (p := ⟨q2, 1, none⟩) (.inr HQ2.out) _⟩

set_option maxRecDepth 100000 in
set_option maxHeartbeats 4000000 in
theorem gread_any {D : Nat → Prop} {b : Nat} {s : RS} {w : World} (hR : Rdr 63 D b s w) :
    Calls Try.prog 39 #[.pointer (some ⟨b, 0, none⟩)] w fun e w' => ∃ (h : Nat → Int) (a' : Option Addr) (c' : Nat) (l' : List V), e = .returned (.tuple #[.agg #[.int .i64 (h 0), .int .i64 (h 1), .int .i64 (h 2), .int .i64 (h 3), .int .i64 (h 4), .int .i64 (h 5), .int .i64 (h 6), .int .i64 (h 7), .slice a' l'.length c'], .bool (srB nodeR s)]) ∧ h = srF nodeR s ∧ cont l' = srL nodeR s ∧ Row w' a' c' l' ∧ Frh w.heap.size a' l' ∧ Rdr 63 D b (srS s) w' ∧ Off (fun c => c = b) w w' := by
  have hnot := not_any
  have HB : Hid (b < w.heap.size) := hR.here
  have HLD : Hid (∀ c, D c → c < w.heap.size) := hR.lt
  obtain ⟨fF, hfF⟩ : ∃ f, f = readF s := ⟨_, rfl⟩
  obtain ⟨okB, hokB⟩ : ∃ x, x = readB s := ⟨_, rfl⟩
  obtain ⟨cnt, hcn⟩ : ∃ x, x = (countS 16 (rdV s 8)).1 := ⟨_, rfl⟩
  obtain ⟨s2, hs2⟩ : ∃ x, x = (countS 16 (rdV s 8)).2 := ⟨_, rfl⟩
  have HFF : Hid _ := hfF
  have HOK : Hid _ := hokB
  have HCN : Hid (countS 16 (rdV s 8) = (cnt, s2)) := by show _ = _; rw [hcn, hs2]
  have hc16 : cnt ≤ 16 := by rw [hcn]; exact (count_ok 16 (rdV_ok hR.ok 8)).2.1
  clear hfF hokB hcn hs2
  have C2 := Cel.new w 26 #[.int .i64 (zer 0), .int .i64 (zer 1), .int .i64 (zer 2), .int .i64 (zer 3), .int .i64 (zer 4), .int .i64 (zer 5), .int .i64 (zer 6), .int .i64 (zer 7), .slice none 0 0]
  have O : Off (fun _ => False) w (w.alloc (.cells #[.int .i64 (zer 0), .int .i64 (zer 1), .int .i64 (zer 2), .int .i64 (zer 3), .int .i64 (zer 4), .int .i64 (zer 5), .int .i64 (zer 6), .int .i64 (zer 7), .slice none 0 0] 26)) := (Off.refl _ w).alloc _
  have R0 := hR.off O (fun h => h) (fun _ _ _ h => h)
  clear hR
  go_enter Try.func39, Try.ntmps39
  go_upto_region 1 with fail
  have eW : w.alloc (.cells #[.int .i64 0, .int .i64 0, .int .i64 0, .int .i64 0, .int .i64 0, .int .i64 0, .int .i64 0, .int .i64 0, .slice none 0 0] 26) = w.alloc (.cells #[.int .i64 (zer 0), .int .i64 (zer 1), .int .i64 (zer 2), .int .i64 (zer 3), .int .i64 (zer 4), .int .i64 (zer 5), .int .i64 (zer 6), .int .i64 (zer 7), .slice none 0 0] 26) := rfl
  rw [eW]
  clear eW
  generalize hq : w.heap.size = q2 at C2 ⊢
  have HQ2 : Hid (w.heap.size ≤ q2) := by show _ ≤ _; omega
  generalize hv : w.alloc (.cells #[.int .i64 (zer 0), .int .i64 (zer 1), .int .i64 (zer 2), .int .i64 (zer 3), .int .i64 (zer 4), .int .i64 (zer 5), .int .i64 (zer 6), .int .i64 (zer 7), .slice none 0 0] 26) = W at C2 O R0 ⊢
  clear hq hv
  go_wp2_with fail
  refine (fvread_any R0).mono ?_
  rw [← HFF.out, ← HOK.out]
  rintro e w1 ⟨rfl, R1, o1⟩
  replace C2 := C2.off o1 (fun e => by have := HB.out; have := HQ2.out; omega)
  have O1 : Off (fun c => c = b) w w1 := (O.mono (fun _ _ h => h.elim)).trans o1 (fun _ _ h => h)
  have hl2 := C2.lt
  clear R0 o1 O
  go_upto_region 2 with fail
  have C4 := Cel.new w1 23 #[.int .i64 (fF 0), .int .i64 (fF 1), .int .i64 (fF 2), .int .i64 (fF 3), .int .i64 (fF 4), .int .i64 (fF 5), .int .i64 (fF 6), .int .i64 (fF 7)]
  have OA : Off (fun _ => False) w1 (w1.alloc (.cells #[.int .i64 (fF 0), .int .i64 (fF 1), .int .i64 (fF 2), .int .i64 (fF 3), .int .i64 (fF 4), .int .i64 (fF 5), .int .i64 (fF 6), .int .i64 (fF 7)] 23)) := (Off.refl _ w1).alloc _
  generalize hq : w1.heap.size = q4 at C4 ⊢
  generalize hv : w1.alloc (.cells #[.int .i64 (fF 0), .int .i64 (fF 1), .int .i64 (fF 2), .int .i64 (fF 3), .int .i64 (fF 4), .int .i64 (fF 5), .int .i64 (fF 6), .int .i64 (fF 7)] 23) = w2 at C4 OA ⊢
  clear hq hv
  replace C2 := C2.off OA (fun h => h)
  have O2 := O1.trans (OA.mono (fun _ _ h => h.elim)) (fun _ _ h => h)
  have R2 := R1.off OA (fun h => h) (fun _ _ _ h => h)
  have hz2 := OA.size
  clear R1 OA O1
  obtain ⟨x0, x1, x2, x3, x4, x5, x6, x7⟩ := cel8 C4
  go_upto_region 3 with fail
  clear x0 x1 x2 x3 x4 x5 x6 x7
  have C6 := Cel.new w2 26 #[.int .i64 (fF 0), .int .i64 (fF 1), .int .i64 (fF 2), .int .i64 (fF 3), .int .i64 (fF 4), .int .i64 (fF 5), .int .i64 (fF 6), .int .i64 (fF 7), .slice none 0 0]
  have OA : Off (fun _ => False) w2 (w2.alloc (.cells #[.int .i64 (fF 0), .int .i64 (fF 1), .int .i64 (fF 2), .int .i64 (fF 3), .int .i64 (fF 4), .int .i64 (fF 5), .int .i64 (fF 6), .int .i64 (fF 7), .slice none 0 0] 26)) := (Off.refl _ w2).alloc _
  generalize hq : w2.heap.size = q6 at C6 ⊢
  have hq6 : q2 < q6 := by omega
  have hq7 : w.heap.size ≤ q6 := by have := O2.size; omega
  generalize hv : w2.alloc (.cells #[.int .i64 (fF 0), .int .i64 (fF 1), .int .i64 (fF 2), .int .i64 (fF 3), .int .i64 (fF 4), .int .i64 (fF 5), .int .i64 (fF 6), .int .i64 (fF 7), .slice none 0 0] 26) = w3 at C6 OA ⊢
  clear hq hv hz2 hl2
  replace C2 := C2.off OA (fun h => h)
  have O3 := O2.trans (OA.mono (fun _ _ h => h.elim)) (fun _ _ h => h)
  have R3 := R2.off OA (fun h => h) (fun _ _ _ h => h)
  clear R2 OA O2 C4
  go_wp2_with fail
  refine (frcount_any R3 16 (by decide) (by decide)).mono ?_
  rw [show countS (16 : Int).toNat (rdV s 8) = (cnt, s2) from HCN.out]
  dsimp only
  rintro e w8 ⟨rfl, R4, o4⟩
  have HQQ : Hid (q2 ≠ q6 ∧ w.heap.size ≤ q2) := ⟨by omega, HQ2.out⟩
  have HQ6 : Hid (w.heap.size ≤ q6) := hq7
  have HC6 : Hid _ := C6.off o4 (fun e => by have := HB.out; omega)
  have H28 : Hid _ := C2.off o4 (fun e => by have := HB.out; have := HQ2.out; omega)
  have HO8 : Hid (Off (fun c => c = b) w w8) := O3.trans o4 (fun _ _ h => h)
  have HR8 : Hid _ := R4
  have HL6 : Hid (q6 < w8.heap.size) := HC6.out.lt
  have HN : Hid (w.heap.size ≤ w8.heap.size) := HO8.out.size
  clear C6 C2 O3 R3 R4 o4 hq6 hq7
  go_wp2_with fail
  go_loopw [17] (fun y wr => ∃ (i : Nat) (lo : List V) (ao : Option Addr) (co : Nat), y = .int .i64 (i : Int) ∧ i ≤ cnt ∧ Cel q6 26 #[.int .i64 (fF 0), .int .i64 (fF 1), .int .i64 (fF 2), .int .i64 (fF 3), .int .i64 (fF 4), .int .i64 (fF 5), .int .i64 (fF 6), .int .i64 (fF 7), .slice ao lo.length co] wr ∧ Mk w8.heap.size wr ao co lo ∧ lo.length ≤ i ∧ cont lo = rdL nodeR i s2 ∧ Rdr 63 D b (rdSt s2 i) wr ∧ Off (fun c => c = b ∨ c = q6) w8 wr) (fun y _ => (cnt - intOf y).toNat)
  case atStart => exact ⟨0, [], none, 0, rfl, by omega, HC6.out, Mk.nil _ _, by simp, by simp [cont, rdL], HR8.out, Off.refl _ _⟩
  case round =>
    clear HC6 HR8
    obtain ⟨i, lo, ao, co, rfl, hi, bx, mk, hlol, hlo, rd, po⟩ := hrel
    have HBX : Hid _ := bx
    have HMK : Hid _ := mk
    have HLO : Hid _ := hlo
    have HRD : Hid _ := rd
    have HPO : Hid (Off (fun c => c = b ∨ c = q6) w8 wr) := po
    clear bx mk hlo rd po
    by_cases hil : i < cnt
    · have i1 : decide ((i : Int) < (cnt : Int)) = true := decide_eq_true (by omega)
      have i2 : decide (i < cnt) = true := decide_eq_true hil
      have HSW : Hid (w8.heap.size ≤ wr.heap.size) := HPO.out.size
      have HOKS : Hid (Ok (rdSt s2 i)) := HRD.out.ok
      obtain ⟨sx, hsx⟩ : ∃ x, x = rdSt s2 i := ⟨_, rfl⟩
      rw [← hsx] at HRD HOKS
      have HSX : Hid _ := hsx
      clear hsx
      obtain ⟨t1, ht1⟩ : ∃ x, x = (intS (numS sx).2).2 := ⟨_, rfl⟩
      obtain ⟨nd, hnd⟩ : ∃ x, x = nodeR (numS sx).1 := ⟨_, rfl⟩
      obtain ⟨i2v, hi2⟩ : ∃ x, x = (intS (numS sx).2).1 := ⟨_, rfl⟩
      obtain ⟨t2, ht2⟩ : ∃ x, x = (flagS t1).2 := ⟨_, rfl⟩
      obtain ⟨gv, hgv⟩ : ∃ x, x = (flagS t1).1 := ⟨_, rfl⟩
      obtain ⟨t3, ht3⟩ : ∃ x, x = (textS 200 t2).2 := ⟨_, rfl⟩
      obtain ⟨tx, htx⟩ : ∃ x, x = (textS 200 t2).1 := ⟨_, rfl⟩
      have hA : rdA nodeR sx = ⟨nd, i2v, tx, gv⟩ := by simp only [rdA, valN, valI, valG, valT, hnd, hi2, hgv, htx, ht2, ht1]
      have hS : valS sx = t3 := by simp only [valS, ht3, ht2, ht1]
      have ok1 := (num_ok HOKS.out).1
      have hir : -9223372036854775808 ≤ i2v ∧ i2v ≤ 9223372036854775807 := by rw [hi2]; exact unzig_range5 (num_ok ok1).2.1
      have ok2 : Ok t1 := by rw [ht1]; exact (num_ok ok1).1
      have ok3 : Ok t2 := by rw [ht2]; exact flag_ok ok2
      have htl := text_take 200 ok3
      rw [← htx] at htl
      have hnr : 0 ≤ nd ∧ nd ≤ 1073741824 := by rw [hnd]; unfold nodeR; omega
      have HA : Hid _ := hA
      have HSV : Hid _ := hS
      have HFX : Hid _ := And.intro hnr (And.intro hir htl)
      have HD1 : Hid ((nodeR (numS sx).1, (intS (numS sx).2).1, (intS (numS sx).2).2) = (nd, i2v, t1)) := by show _ = _; rw [hnd, hi2, ht1]
      have HD2 : Hid (flagS t1 = (gv, t2)) := by show _ = _; rw [hgv, ht2]
      have HD3 : Hid (textS (200 : Int).toNat t2 = (tx, t3)) := by show _ = _; rw [htx, ht3]; rfl
      clear ht1 hnd hi2 ht2 hgv ht3 htx hA hS ok1 hir ok2 ok3 htl hnr HOKS
      have BX := HBX.out
      have MK := HMK.out
      have PO := HPO.out
      go_wp2_with fail
      refine (gdot_any HRD.out).mono ?_
      have hd := HD1.out
      simp only [Prod.mk.injEq] at hd
      rw [hd.1, hd.2.1, hd.2.2]
      clear hd
      rintro e v1 ⟨rfl, RD, o1⟩
      replace BX := BX.off o1 (fun e => by have := HB.out; have := HQ6.out; omega)
      replace MK := MK.off o1 (fun k h1 _ e => by have := HB.out; have := HN.out; omega)
      replace PO := PO.trans o1 (fun _ _ h => .inl h)
      clear o1
      go_wp2_with fail
      refine (frflag_any RD).mono ?_
      rw [HD2.out]
      dsimp only
      rintro e v2 ⟨rfl, RD2, o1⟩
      replace BX := BX.off o1 (fun e => by have := HB.out; have := HQ6.out; omega)
      replace MK := MK.off o1 (fun k h1 _ e => by have := HB.out; have := HN.out; omega)
      replace PO := PO.trans o1 (fun _ _ h => .inl h)
      clear o1 RD
      go_upto_region 6 with fail
      have CX := Cel.new v2 77 #[.int .i64 (⟨nd, i2v, none, 0, [], gv⟩ : V).node, .int .i64 (⟨nd, i2v, none, 0, [], gv⟩ : V).num, .slice (⟨nd, i2v, none, 0, [], gv⟩ : V).ad (⟨nd, i2v, none, 0, [], gv⟩ : V).data.length (⟨nd, i2v, none, 0, [], gv⟩ : V).cap, .bool (⟨nd, i2v, none, 0, [], gv⟩ : V).dead]
      have OA : Off (fun _ => False) v2 (v2.alloc (.cells #[.int .i64 (⟨nd, i2v, none, 0, [], gv⟩ : V).node, .int .i64 (⟨nd, i2v, none, 0, [], gv⟩ : V).num, .slice (⟨nd, i2v, none, 0, [], gv⟩ : V).ad (⟨nd, i2v, none, 0, [], gv⟩ : V).data.length (⟨nd, i2v, none, 0, [], gv⟩ : V).cap, .bool (⟨nd, i2v, none, 0, [], gv⟩ : V).dead] 77)) := (Off.refl _ v2).alloc _
      have hlx := BX.lt
      have hm1 := MK.own.lt
      have hm2 := fun v hv k hk => ((MK.val v hv).2 k hk).2.1
      have hz2 := PO.size
      generalize hq : v2.heap.size = qx at CX hlx hz2 hm1 hm2 ⊢
      generalize hv : v2.alloc (.cells #[.int .i64 (⟨nd, i2v, none, 0, [], gv⟩ : V).node, .int .i64 (⟨nd, i2v, none, 0, [], gv⟩ : V).num, .slice (⟨nd, i2v, none, 0, [], gv⟩ : V).ad (⟨nd, i2v, none, 0, [], gv⟩ : V).data.length (⟨nd, i2v, none, 0, [], gv⟩ : V).cap, .bool (⟨nd, i2v, none, 0, [], gv⟩ : V).dead] 77) = v3 at CX OA ⊢
      clear hq hv
      replace BX := BX.off OA (fun h => h)
      replace MK := MK.free OA
      replace PO := PO.trans (OA.mono (fun _ _ h => h.elim)) (fun _ _ h => h)
      have RD3 := RD2.off OA (fun h => h) (fun _ _ _ h => h)
      have HQX : Hid (w8.heap.size ≤ qx ∧ q6 < qx) := ⟨hz2, hlx⟩
      have HM1 : Hid (∀ k, blk ao = some k → k < qx) := hm1
      have HM2 : Hid (∀ v ∈ lo, ∀ k, blk v.ad = some k → k < qx) := hm2
      clear OA RD2 hlx hz2 hm1 hm2
      go_wp2_with fail
      refine (frtext_any RD3 200 (by decide) (by decide)).mono ?_
      rw [HD3.out]
      dsimp only
      rintro e v4 ⟨tt, tc, rfl, own, hk, RD4, o1⟩
      replace BX := BX.off o1 (fun e => by have := HB.out; have := HQ6.out; omega)
      replace MK := MK.off o1 (fun k h1 _ e => by have := HB.out; have := HN.out; omega)
      replace PO := PO.trans o1 (fun _ _ h => .inl h)
      have hx3 := CX.lt
      replace CX := CX.off o1 (fun e => by have := HB.out; have := HQX.out; have := HN.out; omega)
      have HTK : Hid (∀ k, blk tt = some k → qx < k ∧ w8.heap.size ≤ k) := fun k hk1 => by have := hk k hk1; have := HQX.out; omega
      clear o1 RD3 hk hx3
      obtain ⟨e0, e1, e2, e3⟩ := cel4 (v := (⟨nd, i2v, none, 0, [], gv⟩ : V)) CX
      have fx := CX.free
      go_upto_region 7 with fail
      clear e0 e1 e2 e3 fx
      have CX2 := CX.set 2 (.slice tt tx.length tc)
      simp only [List.setIfInBounds_toArray, List.set_cons_zero, List.set_cons_succ] at CX2
      have os : Off (fun c => c = qx) v4 (v4.setCell ⟨qx, 2, none⟩ (.slice tt tx.length tc)) := (Off.refl (fun c => c = qx) v4).setCell (p := ⟨qx, 2, none⟩) (.inl rfl) _
      replace BX := BX.off os (fun e => by have := HQX.out; omega)
      have RD5 := RD4.off os (fun e => by have := HB.out; have := HQX.out; have := HN.out; omega) (fun c _ hc e => by have := HLD.out c hc; have := HQX.out; have := HN.out; omega)
      replace own := own.off os (fun k _ hk e => by have := HTK.out k hk; omega)
      have PO5 := PO.setCell (p := ⟨qx, 2, none⟩) (.inr HQX.out.1) (.slice tt tx.length tc)
      have MK5 := MK.offB os (fun k hk e => by have := HM1.out k hk; omega) (fun v hv k hk e => by have := HM2.out v hv k hk; omega)
      generalize hv : v4.setCell ⟨qx, 2, none⟩ (.slice tt tx.length tc) = v5 at CX2 os BX RD5 own PO5 MK5 ⊢
      clear hv os CX MK PO RD4
      have UK : VOk v5 (⟨nd, i2v, tt, tc, tx, gv⟩ : V) := ⟨own.src, HFX.out.2.2.1, by have := HFX.out.1; show _ ≤ nd; omega, by have := HFX.out.1; show nd ≤ _; omega, HFX.out.2.1.1, HFX.out.2.1.2, by have := HFX.out.2.2.2; show tx.length ≤ _; omega⟩
      have HTL : Hid (∀ k, blk tt = some k → k < v5.heap.size) := own.lt
      have HKT : Hid (∀ k, blk tt = some k → w8.heap.size ≤ k ∧ k < v5.heap.size ∧ blk ao ≠ some k) := fun k hk => ⟨(HTK.out k hk).2, by have := HTL.out k hk; omega, fun e => by have := HM1.out k e; have := (HTK.out k hk).1; omega⟩
      have CB := Cel.new v5 77 #[.int .i64 (⟨nd, i2v, tt, tc, tx, gv⟩ : V).node, .int .i64 (⟨nd, i2v, tt, tc, tx, gv⟩ : V).num, .slice (⟨nd, i2v, tt, tc, tx, gv⟩ : V).ad (⟨nd, i2v, tt, tc, tx, gv⟩ : V).data.length (⟨nd, i2v, tt, tc, tx, gv⟩ : V).cap, .bool (⟨nd, i2v, tt, tc, tx, gv⟩ : V).dead]
      have OB : Off (fun _ => False) v5 (v5.alloc (.cells #[.int .i64 (⟨nd, i2v, tt, tc, tx, gv⟩ : V).node, .int .i64 (⟨nd, i2v, tt, tc, tx, gv⟩ : V).num, .slice (⟨nd, i2v, tt, tc, tx, gv⟩ : V).ad (⟨nd, i2v, tt, tc, tx, gv⟩ : V).data.length (⟨nd, i2v, tt, tc, tx, gv⟩ : V).cap, .bool (⟨nd, i2v, tt, tc, tx, gv⟩ : V).dead] 77)) := (Off.refl _ v5).alloc _
      have MK6 := MK5.free OB
      have BX6 := BX.off OB (fun h => h)
      have UK6 := UK.off OB (fun _ _ _ h => h)
      have RB := row_one CB UK6
      have RD6 := RD5.off OB (fun h => h) (fun _ _ _ h => h)
      have PO6 := PO5.trans (OB.mono (fun _ _ h => h.elim)) (fun _ _ h => h)
      have szc := OB.size
      have sz8 := PO5.size
      obtain ⟨a2, c2, v7, hr, own2, o2, at2⟩ := app_runV MK6.own RB (fun h => by simp at h) (by simp; omega) 24
      have MK7 := MK6.snoc (u := (⟨nd, i2v, tt, tc, tx, gv⟩ : V)) (by omega) UK6 (fun k hk => ⟨(HKT.out k hk).1, by have := (HKT.out k hk).2.1; omega, (HKT.out k hk).2.2⟩) own2 o2 at2
      have BX7 := BX6.off o2 (fun e => by have := MK6.lo q6 e; have := HL6.out; omega)
      have RD7 := RD6.off o2 (fun e => by have := MK6.lo b e; have := HB.out; have := HN.out; omega) (fun c _ hc e => by have := MK6.lo c e; have := HLD.out c hc; have := HN.out; omega)
      have PO7 : Off (fun c => c = b ∨ c = q6) w8 v7 := ((PO6.mono (E := fun c => (c = b ∨ c = q6) ∨ w8.heap.size ≤ c) (fun _ _ h => .inl h)).trans o2 (fun k _ e => .inr (MK6.lo k e))).mono (fun k hk h => h.elim id (fun e => by omega))
      obtain ⟨x0, x1, x2, x3, x4, x5, x6, x7, x8⟩ := cel9 BX
      obtain ⟨e0, e1, e2, e3⟩ := cel4 (v := (⟨nd, i2v, tt, tc, tx, gv⟩ : V)) CX2
      have hlen2 : (lo ++ [(⟨nd, i2v, tt, tc, tx, gv⟩ : V)]).length = lo.length + 1 := by simp
      rw [hlen2] at hr
      have f8 := BX7.free
      have g8 : v7.cell? ⟨q6, 8, none⟩ = some (.slice ao lo.length co) := BX7.cell 8
      have HBX7 : Hid _ := BX7
      have HMK7 : Hid _ := MK7
      have HRD7 : Hid _ := RD7
      have HPO7 : Hid _ := PO7
      have HRU : Hid _ := hr
      clear BX BX6 BX7 MK5 MK6 MK7 RD5 RD6 RD7 PO5 PO6 PO7 UK UK6 RB CB OB own own2 o2 at2 CX2 szc sz8 hr hlen2 HKT HTL HTK
      go_upto_region 8 with (at_builtin; refine wpList_append_run rfl (.tmp 28) (.tmp 30) rfl rfl rfl HRU.out ?_)
      clear x0 x1 x2 x3 x4 x5 x6 x7 x8 e0 e1 e2 e3 g8 f8
      have BX8 := HBX7.out.set 8 (.slice a2 (lo.length + 1) c2)
      simp only [List.setIfInBounds_toArray, List.set_cons_zero, List.set_cons_succ] at BX8
      have os : Off (fun c => c = q6) v7 (v7.setCell ⟨q6, 8, none⟩ (.slice a2 (lo.length + 1) c2)) := (Off.refl (fun c => c = q6) v7).setCell (p := ⟨q6, 8, none⟩) (.inl rfl) _
      have MK8 := HMK7.out.off os (fun k h1 _ h2 => by have := HL6.out; omega)
      have RD8 := HRD7.out.off os (fun e => by have := HQ6.out; have := HB.out; omega) (fun c _ hc e => by have := HLD.out c hc; have := HQ6.out; omega)
      have PO8 : Off (fun c => c = b ∨ c = q6) w8 _ := HPO7.out.setCell (p := ⟨q6, 8, none⟩) (.inl (.inr rfl)) (.slice a2 (lo.length + 1) c2)
      generalize hv : v7.setCell ⟨q6, 8, none⟩ (.slice a2 (lo.length + 1) c2) = v8 at BX8 os MK8 RD8 PO8 ⊢
      have hl2 : (lo ++ [(⟨nd, i2v, tt, tc, tx, gv⟩ : V)]).length = lo.length + 1 := by simp
      have HLC : Hid (cont (lo ++ [(⟨nd, i2v, tt, tc, tx, gv⟩ : V)]) = rdL nodeR (i + 1) s2) := by
        show _ = _
        rw [rdL_succ, ← HLO.out, ← HSX.out, HA.out]
        simp [cont, V.abs]
      have hrs : rdSt s2 (i + 1) = t3 := by rw [← HSV.out, HSX.out]; rfl
      have HB3 : Hid _ := BX8
      have HM3 : Hid _ := MK8
      have HR3 : Hid (Rdr 63 D b (rdSt s2 (i + 1)) v8) := by rw [hrs]; exact RD8
      have HOF : Hid _ := PO8
      clear hv BX8 MK8 RD8 PO8 os hrs
      go_wp2_with fail
      go_roundw
      case rel => exact ⟨i + 1, lo ++ [(⟨nd, i2v, tt, tc, tx, gv⟩ : V)], a2, c2, by go_num, by omega, by rw [hl2]; exact HB3.out, HM3.out, by rw [hl2]; omega, HLC.out, HR3.out, HOF.out⟩
      case measure => simp [intOf]; omega
    · have i1 : decide ((i : Int) < (cnt : Int)) = false := decide_eq_false (by omega)
      have i2 : decide (i < cnt) = false := decide_eq_false hil
      have hcnt : i = cnt := by omega
      have HLF : Hid (cont lo = srV nodeR s) := by show _ = _; rw [HLO.out, hcnt]; simp only [srV, HCN.out]
      have HRF : Hid (Rdr 63 D b (srS s) wr) := by have h := HRD.out; rw [hcnt] at h; show Rdr 63 D b (srS s) wr; unfold srS; rw [HCN.out]; exact h
      have H2F : Hid _ := H28.out.off HPO.out (fun e => by have := HQQ.out; have := HB.out; omega)
      have HOA : Hid (Off (fun c => c = b) w wr) := (HO8.out.trans (HPO.out.mono (E := fun c => c = b ∨ c = q6) (fun _ _ h => h)) (fun k hk h => h.elim id (fun e => by have := HQ6.out; omega)))
      clear HRD HLO hcnt i1 i2
      have i1 : decide ((i : Int) < (cnt : Int)) = false := decide_eq_false (by omega)
      have i2 : decide (i < cnt) = false := decide_eq_false hil
      cases hok : okB
      · have HRES : Hid (srB nodeR s = false ∧ zer = srF nodeR s ∧ cont [] = srL nodeR s) := sr_no (.inl (by rw [← HOK.out]; exact hok))
        subst hok
        have D2 := H2F.out
        obtain ⟨x0, x1, x2, x3, x4, x5, x6, x7, x8⟩ := cel9 D2
        have fz := D2.free
        go_wp2_with fail
        have E2 := D2.clr9
        have OE := HOA.out.clr9 (b := q2) (.inr HQ2.out)
        refine bodyPost_ret (results_err9 rfl rfl rfl E2) rfl ?_
        have os := (Off.refl (fun c => c = q2) wr).clr9 (b := q2) (.inl rfl)
        exact ⟨zer, none, 0, [], by rw [HRES.out.1]; rfl, HRES.out.2.1, HRES.out.2.2, Row.nil _ _ _ (by omega), Frh.nil _, HRF.out.off os (fun e => by have := HQ2.out; have := HB.out; omega) (fun c _ hc e => by have := HLD.out c hc; have := HQ2.out; omega), OE⟩
      cases hst : decide ((srS s).2 = 0)
      · have HRES : Hid (srB nodeR s = false ∧ zer = srF nodeR s ∧ cont [] = srL nodeR s) := sr_no (.inr (.inl hst))
        subst hok
        obtain ⟨ra, rc, k0, k1⟩ := rdr_cells HRF.out
        have hne : (((srS s).2 : Nat) : Int) ≠ 0 := by simpa using hst
        have hne2 : ((((srS s).2 : Nat) : Int) != 0) = true := by simpa using hne
        have D2 := H2F.out
        obtain ⟨x0, x1, x2, x3, x4, x5, x6, x7, x8⟩ := cel9 D2
        have fz := D2.free
        go_wp2_with fail
        have E2 := D2.clr9
        have OE := HOA.out.clr9 (b := q2) (.inr HQ2.out)
        refine bodyPost_ret (results_err9 rfl rfl rfl E2) rfl ?_
        have os := (Off.refl (fun c => c = q2) wr).clr9 (b := q2) (.inl rfl)
        exact ⟨zer, none, 0, [], by rw [HRES.out.1]; rfl, HRES.out.2.1, HRES.out.2.2, Row.nil _ _ _ (by omega), Frh.nil _, HRF.out.off os (fun e => by have := HQ2.out; have := HB.out; omega) (fun c _ hc e => by have := HLD.out c hc; have := HQ2.out; omega), OE⟩
      subst hok
      obtain ⟨x0, x1, x2, x3, x4, x5, x6, x7, x8⟩ := cel9 HBX.out
      obtain ⟨ra, rc, k0, k1⟩ := rdr_cells HRF.out
      have hst0 : (srS s).2 = 0 := of_decide_eq_true hst
      have k1' : wr.cell? ⟨b, 1, none⟩ = some (.int .i64 0) := by rw [k1, hst0]; rfl
      clear k1
      go_wp2_with fail
      clear k0 k1'
      clear x0 x1 x2 x3 x4 x5 x6 x7 x8
      refine (gmay_any fF ao co lo wr HMK.out.row).mono ?_
      cases hmy : mayS fF (cont lo)
      · have HRES : Hid (srB nodeR s = false ∧ zer = srF nodeR s ∧ cont [] = srL nodeR s) := sr_no (.inr (.inr (by rw [← HFF.out, ← HLF.out]; exact hmy)))
        rintro e xw ⟨rfl, o9⟩
        have HRF9 := HRF.out.off o9 (fun h => h) (fun _ _ _ h => h)
        have H2G : Hid _ := H2F.out.off o9 (fun h => h)
        have HOB : Hid _ := HOA.out.trans (o9.mono (fun _ _ h => h.elim)) (fun _ _ h => h)
        have D2 := H2G.out
        obtain ⟨x0, x1, x2, x3, x4, x5, x6, x7, x8⟩ := cel9 D2
        have fz := D2.free
        go_wp2_with fail
        have E2 := D2.clr9
        have OE := HOB.out.clr9 (b := q2) (.inr HQ2.out)
        refine bodyPost_ret (results_err9 rfl rfl rfl E2) rfl ?_
        have os := (Off.refl (fun c => c = q2) xw).clr9 (b := q2) (.inl rfl)
        exact ⟨zer, none, 0, [], by rw [HRES.out.1]; rfl, HRES.out.2.1, HRES.out.2.2, Row.nil _ _ _ (by omega), Frh.nil _, HRF9.off os (fun e => by have := HQ2.out; have := HB.out; omega) (fun c _ hc e => by have := HLD.out c hc; have := HQ2.out; omega), OE⟩
      · have HRES : Hid _ := sr_yes (nd := nodeR) (s := s) (by rw [← HOK.out]) hst (by rw [← HFF.out, ← HLF.out]; exact hmy)
        rintro e xw ⟨rfl, o9⟩
        have HRF9 := HRF.out.off o9 (fun h => h) (fun _ _ _ h => h)
        have D2 := H2F.out.off o9 (fun h => h)
        have HOB : Hid _ := HOA.out.trans (o9.mono (fun _ _ h => h.elim)) (fun _ _ h => h)
        have HMX : Hid _ := HMK.out.free o9
        obtain ⟨x0, x1, x2, x3, x4, x5, x6, x7, x8⟩ := cel9 (HBX.out.off o9 (fun h => h))
        obtain ⟨y0, y1, y2, y3, y4, y5, y6, y7, y8⟩ := cel9 D2
        have fz := D2.free
        have HX1 : Hid (q2 < w8.heap.size) := H28.out.lt
        go_wp2_with fail
        have E2 := D2.st9 fF (.slice ao lo.length co)
        have OE := HOB.out.st9 (b := q2) (.inr HQ2.out) fF (.slice ao lo.length co)
        refine bodyPost_ret (results_sibs2 rfl rfl rfl E2) rfl ?_
        have os := (Off.refl (fun c => c = q2) xw).st9 (b := q2) (.inl rfl) fF (.slice ao lo.length co)
        have rw9 := (HMX.out.off os (fun k hk _ e => by have := HX1.out; omega)).row
        have rd9 := HRF9.off os (fun e => by have := HQ2.out; have := HB.out; omega) (fun c _ hc e => by have := HLD.out c hc; have := HQ2.out; omega)
        have h1 : fF = srF nodeR s := by rw [HFF.out]; exact HRES.out.2.1
        have h2 : cont lo = srL nodeR s := by rw [HLF.out]; exact HRES.out.2.2
        exact ⟨fF, ao, co, lo, by rw [HRES.out.1]; rfl, h1, h2, rw9, ⟨fun k hk => Nat.le_trans HN.out (HMX.out.lo k hk), fun v hv k hk => Nat.le_trans HN.out ((HMX.out.val v hv).2 k hk).1⟩, rd9, OE⟩
end Go.Proofs.Ytfkpnmmcdhibbaa
