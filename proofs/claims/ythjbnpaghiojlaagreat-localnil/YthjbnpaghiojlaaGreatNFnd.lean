/- Items of several texts. -/
import Derived.Lib.Bytealg
import Derived.Test.YthjbnpaghiojlaaGreatNHm
namespace Go.Proofs.YthjbnpaghiojlaaGreat
open Go.RowKit

theorem cmpB_lt : ∀ (a b : List UInt8), Lib.compareBytes a b < 0 ↔ bytesBefore a b = true
  | [], [] => by simp [Lib.compareBytes, bytesBefore]
  | [], _ :: _ => by simp [Lib.compareBytes, bytesBefore]
  | _ :: _, [] => by simp [Lib.compareBytes, bytesBefore]
  | a :: r, b :: s => by
    unfold Lib.compareBytes bytesBefore
    have ih := cmpB_lt r s
    by_cases h1 : a < b
    · simp [h1]
    · by_cases h2 : b < a
      · have h3 : a ≠ b := fun e => by subst e; exact absurd h2 h1
        simp [h1, h2, h3]
      · have h3 : a = b := by
          rcases UInt8.lt_or_lt_of_ne (a := a) (b := b) |> fun _ => Classical.em (a = b) with e | e
          · exact e
          · rcases UInt8.lt_or_lt_of_ne e with h | h
            · exact absurd h h1
            · exact absurd h h2
        subst h3
        simp [h1, ih]
theorem cmpB_eq : ∀ (a b : List UInt8), Lib.compareBytes a b = 0 ↔ a = b
  | [], [] => by simp [Lib.compareBytes]
  | [], _ :: _ => by simp [Lib.compareBytes]
  | _ :: _, [] => by simp [Lib.compareBytes]
  | a :: r, b :: s => by
    unfold Lib.compareBytes
    have ih := cmpB_eq r s
    by_cases h1 : a < b
    · have h3 : a ≠ b := fun e => by subst e; exact absurd h1 (by simp)
      simp [h1, h3]
    · by_cases h2 : b < a
      · have h3 : a ≠ b := fun e => by subst e; exact absurd h2 h1
        simp [h1, h2, h3]
      · have h3 : a = b := by
          rcases Classical.em (a = b) with e | e
          · exact e
          · rcases UInt8.lt_or_lt_of_ne e with h | h
            · exact absurd h h1
            · exact absurd h h2
        subst h3
        simp [h1, ih]
theorem cmpB_abs : ∀ (a b : List UInt8), -1 ≤ Lib.compareBytes a b ∧ Lib.compareBytes a b ≤ 1
  | [], [] => by simp [Lib.compareBytes]
  | [], _ :: _ => by simp [Lib.compareBytes]
  | _ :: _, [] => by simp [Lib.compareBytes]
  | a :: r, b :: s => by
    unfold Lib.compareBytes
    have ih := cmpB_abs r s
    split
    · omega
    · split
      · omega
      · exact ih
set_option maxHeartbeats 1000000 in
set_option maxRecDepth 100000 in
theorem cstr_any (a b : ByteArray) (w : World) : Calls Tryz.prog 226 #[.string a, .string b] w fun e w' => e = .returned (.int .i64 (Lib.compareBytes a.data.toList b.data.toList)) ∧ w' = w := by
  go_enter Tryz.func226, Tryz.ntmps226
  go_wp2
  rw [run_callFunc_extern Tryz.func242 (by kernel_rfl) (by kernel_rfl) (by kernel_rfl) (e := Extern.BytealgCompare.compare) (by kernel_rfl), Lib.run_compareString]
  simp only [Result.andThen]
  rw [Oper.upon_value]
  go_wp2
  go_ret
  exact ⟨rfl, rfl⟩
theorem scompare_any (a b : ByteArray) (w : World) : Calls Tryz.prog 205 #[.string a, .string b] w fun e w' => ∃ r : Int, e = .returned (.int .i64 r) ∧ (r < 0 ↔ blt a b = true) ∧ (r = 0 ↔ a = b) ∧ -1 ≤ r ∧ r ≤ 1 ∧ w' = w := by
  go_enter Tryz.func205, Tryz.ntmps205
  go_wp2_with fail
  refine (cstr_any a b w).mono ?_
  rintro e w' ⟨rfl, hw⟩
  rw [hw]
  clear hw w'
  go_wp2_with fail
  go_ret
  refine ⟨_, rfl, cmpB_lt _ _, (cmpB_eq _ _).trans ⟨fun h => kb_inj h, fun h => by rw [h]⟩, (cmpB_abs _ _).1, (cmpB_abs _ _).2, rfl⟩
theorem cmpint_any (x y : Int) (w : World) : Calls Tryz.prog 204 #[.int .i64 x, .int .i64 y] w fun e w' => ∃ r : Int, e = .returned (.int .i64 r) ∧ (r < 0 ↔ x < y) ∧ (r = 0 ↔ x = y) ∧ -1 ≤ r ∧ r ≤ 1 ∧ w' = w := by
  rcases Int.lt_trichotomy x y with h | h | h
  · have d1 : decide (x < y) = true := decide_eq_true h
    go_enter Tryz.func204, Tryz.ntmps204
    go_wp2
    go_ret
    exact ⟨-1, rfl, by omega, by omega, by omega, by omega, rfl⟩
  · subst h
    have d1 : decide (x < x) = false := decide_eq_false (by omega)
    go_enter Tryz.func204, Tryz.ntmps204
    go_wp2
    go_ret
    exact ⟨0, rfl, by simp, by simp, by omega, by omega, rfl⟩
  · have d1 : decide (x < y) = false := decide_eq_false (by omega)
    have d2 : decide (y < x) = true := decide_eq_true h
    go_enter Tryz.func204, Tryz.ntmps204
    go_wp2
    go_ret
    exact ⟨1, rfl, by omega, by omega, by omega, by omega, rfl⟩
/-- What the closure tells of a hint. -/
structure Cmp (x : NK) (k : NK) (r : Int) : Prop where
  lt : r < 0 ↔ plt x k = true
  eq : r = 0 ↔ x = k
  lo : -1 ≤ r
  hi : r ≤ 1
set_option maxHeartbeats 1000000 in
set_option maxRecDepth 100000 in
theorem cmp_any (x : H) (node : Int) (key : ByteArray) (q : Nat) (w : World) (hq : Cel q 9 #[.string key] w) :
    Calls Tryz.prog 203 #[(.agg #[.int .i64 x.node, .string x.e.key, .int .i64 (x.e.f 0), .int .i64 (x.e.f 1), .int .i64 (x.e.f 2), .int .i64 (x.e.f 3), .int .i64 (x.e.f 4), .int .i64 (x.e.f 5), .int .i64 (x.e.f 6), .int .i64 (x.e.f 7), .slice x.e.a x.e.l.length x.e.cap]), .int .i64 node, .pointer (some ⟨q, 0, none⟩)] w fun e w' => ∃ r : Int, e = .returned (.int .i64 r) ∧ Cmp x.nk (node, key) r ∧ Off (fun _ => False) w w' := by
  have C := Cel.new w 75 #[.int .i64 x.node, .string x.e.key, .int .i64 (x.e.f 0), .int .i64 (x.e.f 1), .int .i64 (x.e.f 2), .int .i64 (x.e.f 3), .int .i64 (x.e.f 4), .int .i64 (x.e.f 5), .int .i64 (x.e.f 6), .int .i64 (x.e.f 7), .slice x.e.a x.e.l.length x.e.cap]
  have O : Off (fun _ => False) w (w.alloc (.cells #[.int .i64 x.node, .string x.e.key, .int .i64 (x.e.f 0), .int .i64 (x.e.f 1), .int .i64 (x.e.f 2), .int .i64 (x.e.f 3), .int .i64 (x.e.f 4), .int .i64 (x.e.f 5), .int .i64 (x.e.f 6), .int .i64 (x.e.f 7), .slice x.e.a x.e.l.length x.e.cap] 75)) := (Off.refl _ w).alloc _
  go_enter Tryz.func203, Tryz.ntmps203
  go_upto_region 1 with fail
  generalize hqq : w.heap.size = q1 at C ⊢
  generalize hv : w.alloc (.cells #[.int .i64 x.node, .string x.e.key, .int .i64 (x.e.f 0), .int .i64 (x.e.f 1), .int .i64 (x.e.f 2), .int .i64 (x.e.f 3), .int .i64 (x.e.f 4), .int .i64 (x.e.f 5), .int .i64 (x.e.f 6), .int .i64 (x.e.f 7), .slice x.e.a x.e.l.length x.e.cap] 75) = V at C O ⊢
  clear hqq hv
  obtain ⟨x0, x1, x2, x3, x4, x5, x6, x7, x8, x9, x10⟩ := cel11 C
  have y0 : V.cell? ⟨q, 0, none⟩ = some (.string key) := (hq.off O (fun h => h)).cell 0
  have HO : Hid _ := O
  clear hq C O
  by_cases hn : x.node = node
  · have d1 : (x.node != node) = false := by rw [hn]; simp
    have HN : Hid _ := hn
    clear hn
    go_wp2_with fail
    refine (scompare_any x.e.key key _).mono ?_
    rintro e w' ⟨r, rfl, h1, h2, h3, h4, hw⟩
    rw [hw]
    clear hw w'
    have HR : Hid (Cmp x.nk (node, key) r) := ⟨by rw [h1, plt_iff]; show _ ↔ x.node < node ∨ x.node = node ∧ blt x.e.key key = true; have := HN.out; constructor <;> intro h; exact .inr ⟨this, h⟩; rcases h with h | h; omega; exact h.2,
      by rw [h2]; show _ ↔ (x.node, x.e.key) = (node, key); rw [Prod.mk.injEq]; exact ⟨fun h => ⟨HN.out, h⟩, fun h => h.2⟩, h3, h4⟩
    clear h1 h2 h3 h4
    go_wp2_with fail
    go_ret
    exact ⟨r, rfl, HR.out, HO.out⟩
  · have d1 : (x.node != node) = true := by simp [hn]
    have HN : Hid _ := hn
    clear hn
    go_wp2_with fail
    refine (cmpint_any x.node node _).mono ?_
    rintro e w' ⟨r, rfl, h1, h2, h3, h4, hw⟩
    rw [hw]
    clear hw w'
    have HR : Hid (Cmp x.nk (node, key) r) := ⟨by rw [h1, plt_iff]; show _ ↔ x.node < node ∨ x.node = node ∧ blt x.e.key key = true; have := HN.out; constructor <;> intro h; exact .inl h; rcases h with h | h; exact h; exact absurd h.1 this,
      by rw [h2]; show _ ↔ (x.node, x.e.key) = (node, key); rw [Prod.mk.injEq]; exact ⟨fun h => absurd h HN.out, fun h => h.1⟩, h3, h4⟩
    clear h1 h2 h3 h4
    go_wp2_with fail
    go_ret
    exact ⟨r, rfl, HR.out, HO.out⟩
/-- Where a node and key stand, or would stand. -/
structure Fnd (xs : List H) (k : NK) (n : Nat) : Prop where
  le : n ≤ xs.length
  lo : ∀ i x, i < n → xs[i]? = some x → plt x.nk k = true
  hi : ∀ i x, n ≤ i → xs[i]? = some x → plt x.nk k = false
def isAt (xs : List H) (k : NK) (n : Nat) : Bool := match xs[n]? with | some x => smkH x.nk k | none => false
set_option maxHeartbeats 1000000 in
set_option maxRecDepth 100000 in
theorem bsf_any (a : Option Addr) (cap : Nat) (xs : List H) (node : Int) (key : ByteArray) (q : Nat) (w : World) (own : OwnG 75 11 hcs w a cap xs) (hs : SorH H.nk xs) (hf : xs.length ≤ 64) (hq : Cel q 9 #[.string key] w) :
    Calls Tryz.prog 202 #[.slice a xs.length cap, .int .i64 node, .func (.func 203) #[] #[.pointer (some ⟨q, 0, none⟩)]] w fun e w' => ∃ n : Nat, e = .returned (.tuple #[.int .i64 (n : Int), .bool (isAt xs (node, key) n)]) ∧ Fnd xs (node, key) n ∧ Off (fun _ => False) w w' := by
  have HOW : Hid _ := own
  have HS : Hid _ := hs
  have HQ : Hid _ := hq
  clear own hs hq
  go_enter Tryz.func202, Tryz.ntmps202
  go_wp2_with fail
  go_loopw [9, 10] (fun y z wr => ∃ i j : Nat, y = .int .i64 (i : Int) ∧ z = .int .i64 (j : Int) ∧ i ≤ j ∧ j ≤ xs.length ∧ (∀ n x, n < i → xs[n]? = some x → plt x.nk (node, key) = true) ∧ (∀ n x, j ≤ n → xs[n]? = some x → plt x.nk (node, key) = false) ∧ Off (fun _ => False) w wr) (fun y z _ => (intOf z - intOf y).toNat)
  case atStart => exact ⟨0, xs.length, rfl, rfl, by omega, by omega, fun n x hn => by omega, fun n x hn hx => by
    obtain ⟨h, -⟩ := List.getElem?_eq_some_iff.1 hx
    omega, Off.refl _ w⟩
  case round =>
    obtain ⟨i, j, rfl, rfl, hij, hjl, hlo, hhi, O⟩ := hrel
    have HLO : Hid _ := hlo
    have HHI : Hid _ := hhi
    have HO : Hid _ := O
    clear hlo hhi O
    by_cases hlt : i < j
    · have e1 : decide ((i : Int) < (j : Int)) = true := decide_eq_true (by omega)
      have e2 : decide (i < j) = true := decide_eq_true hlt
      obtain ⟨h, hh⟩ : ∃ h : Nat, h = (i + j) / 2 := ⟨_, rfl⟩
      have hhi : ((i : Int) + (j : Int)) / 2 = (h : Int) := by omega
      have hh1 : i ≤ h := by omega
      have hh2 : h < j := by omega
      clear hh
      have hhl : h < xs.length := by omega
      obtain ⟨x, hx⟩ : ∃ x, xs[h]? = some x := ⟨_, List.getElem?_eq_getElem hhl⟩
      obtain ⟨g, rfl, hat⟩ := (HOW.out.off HO.out (fun _ _ _ h => h)).atH hx
      obtain ⟨x0, x1, x2, x3, x4, x5, x6, x7, x8, x9, x10⟩ := hat.cells
      have hix := idx_hin hhl
      clear hat
      go_wp2_with fail
      clear x0 x1 x2 x3 x4 x5 x6 x7 x8 x9 x10 hix
      refine (cmp_any x node key q _ (HQ.out.off HO.out (fun h => h))).mono ?_
      rintro e w1 ⟨r, rfl, hr, o1⟩
      have HO1 : Hid _ := HO.out.trans o1 (fun _ _ h => h)
      have HX : Hid _ := hx
      clear o1 hx hhi
      by_cases hr0 : r < 0
      · have d1 : decide (r < 0) = true := decide_eq_true hr0
        have HP : Hid _ := hr.lt.1 hr0
        clear hr
        go_wp2_with fail
        go_roundw
        case rel =>
          refine ⟨h + 1, j, by go_num, rfl, by omega, by omega, fun n y hn hy => ?_, HHI.out, HO1.out⟩
          by_cases e : n = h
          · subst e
            rw [HX.out] at hy
            cases hy
            exact HP.out
          · obtain ⟨l1, e1⟩ := List.getElem?_eq_some_iff.1 hy
            obtain ⟨l2, e2⟩ := List.getElem?_eq_some_iff.1 HX.out
            have := List.pairwise_iff_getElem.1 HS.out n h l1 l2 (by omega)
            rw [e1, e2] at this
            exact plt_trans this HP.out
        case measure => simp [intOf]; omega
      · have d1 : decide (r < 0) = false := decide_eq_false hr0
        have HP : Hid (plt x.nk (node, key) = false) := by
          show _ = false
          rw [← Bool.not_eq_true, ← hr.lt]
          exact hr0
        clear hr
        go_wp2_with fail
        go_roundw
        case rel =>
          refine ⟨i, h, rfl, rfl, by omega, by omega, HLO.out, fun n y hn hy => ?_, HO1.out⟩
          by_cases e : n = h
          · subst e
            rw [HX.out] at hy
            cases hy
            exact HP.out
          · obtain ⟨l1, e1⟩ := List.getElem?_eq_some_iff.1 hy
            obtain ⟨l2, e2⟩ := List.getElem?_eq_some_iff.1 HX.out
            have := List.pairwise_iff_getElem.1 HS.out h n l2 l1 (by omega)
            rw [e1, e2] at this
            cases e : plt y.nk (node, key)
            · rfl
            · have := plt_trans this e
              rw [HP.out] at this
              cases this
        case measure => simp [intOf]; omega
    · obtain rfl : i = j := by omega
      have e1 : decide ((i : Int) < (i : Int)) = false := decide_eq_false (by omega)
      have e2 : decide (i < i) = false := decide_eq_false (by omega)
      by_cases hil : i < xs.length
      · have i1 : decide ((i : Int) < (xs.length : Int)) = true := decide_eq_true (by omega)
        have i2 : decide (i < xs.length) = true := decide_eq_true hil
        obtain ⟨x, hx⟩ : ∃ x, xs[i]? = some x := ⟨_, List.getElem?_eq_getElem hil⟩
        obtain ⟨g, rfl, hat⟩ := (HOW.out.off HO.out (fun _ _ _ h => h)).atH hx
        obtain ⟨x0, x1, x2, x3, x4, x5, x6, x7, x8, x9, x10⟩ := hat.cells
        have hix := idx_hin hil
        clear hat
        go_wp2_with fail
        clear x0 x1 x2 x3 x4 x5 x6 x7 x8 x9 x10 hix
        refine (cmp_any x node key q _ (HQ.out.off HO.out (fun h => h))).mono ?_
        rintro e w1 ⟨r, rfl, hr, o1⟩
        have HO1 : Hid _ := HO.out.trans o1 (fun _ _ h => h)
        have HX : Hid _ := hx
        clear o1 hx
        have HB : Hid (isAt xs (node, key) i = decide (r = 0)) := by
          show _ = _
          unfold isAt
          rw [HX.out]
          show smkH x.nk (node, key) = _
          by_cases e : r = 0
          · rw [decide_eq_true e, smk_iffH]
            exact hr.eq.1 e
          · rw [decide_eq_false e, smk_noH]
            exact fun h => e (hr.eq.2 h)
        clear hr
        by_cases hr0 : r = 0
        · have d1 : (r == 0) = true := by rw [hr0]; rfl
          have HB1 : Hid (isAt xs (node, key) i = true) := by show _ = _; rw [HB.out, decide_eq_true hr0]
          clear HB hr0
          go_wp2_with fail
          go_ret2
          exact ⟨i, by rw [HB1.out]; rfl, ⟨by omega, HLO.out, HHI.out⟩, HO1.out⟩
        · have d1 : (r == 0) = false := by rw [beq_eq_false_iff_ne]; exact hr0
          have HB1 : Hid (isAt xs (node, key) i = false) := by show _ = _; rw [HB.out, decide_eq_false hr0]
          clear HB hr0
          go_wp2_with fail
          go_ret2
          exact ⟨i, by rw [HB1.out]; rfl, ⟨by omega, HLO.out, HHI.out⟩, HO1.out⟩
      · obtain rfl : i = xs.length := by omega
        have i1 : decide ((xs.length : Int) < (xs.length : Int)) = false := decide_eq_false (by omega)
        have i2 : decide (xs.length < xs.length) = false := decide_eq_false (by omega)
        go_wp2_with fail
        go_ret2
        refine ⟨xs.length, ?_, ⟨Nat.le_refl _, HLO.out, HHI.out⟩, HO.out⟩
        have : isAt xs (node, key) xs.length = false := by
          unfold isAt
          rw [List.getElem?_eq_none (Nat.le_refl _)]
        rw [this]; rfl
set_option maxHeartbeats 1000000 in
set_option maxRecDepth 100000 in
theorem hfind_any (D : Nat → Prop) (p : Nat) (xs : List H) (node : Int) (key : ByteArray) (w : World) (h : HSt D p xs w) :
    Calls Tryz.prog 162 #[.pointer (some ⟨p, 0, none⟩), .int .i64 node, .string key] w fun e w' => ∃ n : Nat, e = .returned (.tuple #[.int .i64 (n : Int), .bool (isAt xs (node, key) n)]) ∧ Fnd xs (node, key) n ∧ Off (fun _ => False) w w' := by
  have hf := h.few
  have hs := h.sor
  obtain ⟨a, cap, h1, h2, -, -⟩ := h.is
  have C := Cel.new w 9 #[.string key]
  have O : Off (fun _ => False) w (w.alloc (.cells #[.string key] 9)) := (Off.refl _ w).alloc _
  go_enter Tryz.func162, Tryz.ntmps162
  go_upto_region 1 with fail
  generalize hqq : w.heap.size = q at C ⊢
  generalize hv : w.alloc (.cells #[.string key] 9) = V at C O ⊢
  clear hqq hv
  have c0 : V.cell? ⟨p, 0, none⟩ = some (.slice a xs.length cap) := (h1.off O (fun h => h)).cell 0
  have HC : Hid _ := C
  have HW : Hid _ := h2.off O (fun _ _ _ h => h)
  have HO : Hid _ := O
  have HS : Hid _ := hs
  clear h h1 h2 C O hs
  go_wp2_with fail
  refine (bsf_any a cap xs node key q _ HW.out HS.out hf HC.out).mono ?_
  rintro e w1 ⟨n, rfl, hfn, o1⟩
  generalize hb : isAt xs (node, key) n = b
  go_wp2_with fail
  go_ret2
  exact ⟨n, by rw [hb]; rfl, hfn, HO.out.trans o1 (fun _ _ h => h)⟩
end Go.Proofs.YthjbnpaghiojlaaGreat
