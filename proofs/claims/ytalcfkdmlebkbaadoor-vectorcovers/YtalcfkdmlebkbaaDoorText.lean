/- Text. -/
import Derived.Test.YtalcfkdmlebkbaaDoorBld
import Derived.Test.YtalcfkdmlebkbaaDoorShelf
import Derived.Lib.AppendIntMem
import Derived.Lib.ItoaLen
namespace Go.Proofs.YtalcfkdmlebkbaaDoor
open Go.RowKit Go.Sort

/-- The table that FormatInt reads. -/
structure Tab (w : World) : Prop where
  is : Lib.TabIs Tryd.prog w "internal/strconv.uint64pow10" .u64 Lib.pow10Tab
theorem tabG : ∃ g, Tryd.prog.globalNamed "internal/strconv.uint64pow10" = some g := by
  have h : (Tryd.prog.globalNamed "internal/strconv.uint64pow10").isSome = true := by kernel_rfl
  exact Option.isSome_iff_exists.1 h
theorem Tab.off {D : Nat → Prop} {w w' : World} (h : Tab w) (k : Off D w w') (hD : ∀ c, c < w.heap.size → ¬ D c) : Tab w' := by
  obtain ⟨g, hg⟩ := tabG
  have h := h.is
  refine ⟨?_⟩
  simp only [Lib.TabIs, World.var?] at h ⊢
  rw [hg] at h ⊢
  simp only [Option.bind_some] at h ⊢
  have hl : g < w.heap.size := by
    rcases Nat.lt_or_ge g w.heap.size with h' | h'
    · exact h'
    · rw [Array.getElem?_eq_none h'] at h; cases h
  rw [k.block g hl (hD g hl)]
  exact h
theorem Off.of_below {B : Nat} {a b : World} (h : Below B a b) : Off (fun c => B ≤ c) a b := ⟨h.os, h.tape, h.output, h.size, fun k _ hD => h.block k (by omega)⟩
theorem Off.of_grow (w : World) (k : Nat) (os : Array Obj) : Off (fun _ => False) w (grow (w.drewN k) os) :=
  (Off.of_below (Lib.below_grow w.heap.size w (Nat.le_refl _) k os)).mono (fun i hi h => by omega)
theorem bld_off {B b : Nat} {bs : List Value} {w w' : World} (h : Lib.IsBuilder 76 5 B b bs w) (k : Off (fun _ => False) w w') : Lib.IsBuilder 76 5 B b bs w' := by
  have key : ∀ p, Lib.BuilderAt 76 5 B b p bs w → Lib.BuilderAt 76 5 B b p bs w' := by
    rintro p ⟨hB, v, hb, hown, hne⟩
    refine ⟨hB, v, (k.block b (lt_of_block hb) (fun h => h)).trans hb, ⟨hown.1, ?_⟩, hne⟩
    rcases hown.2 with h2 | ⟨g, c, cur, hv, hg, hh, r⟩
    · exact .inl h2
    · exact .inr ⟨g, c, cur, hv, hg, (k.block g (lt_of_block hh) (fun h => h)).trans hh, r⟩
  exact h.imp (key _) (key _)

theorem bld_lt {T e : TypeId} {B b : Nat} {bs : List Value} {w : World} (h : Lib.IsBuilder T e B b bs w) : b < w.heap.size := by
  rcases h with h | h
  · exact h.lt
  · exact h.lt
/-- The text of the first counts. -/
def textL (f : Nat → Int) : Nat → List UInt8
  | 0 => []
  | n + 1 => textL f n ++ (if n = 0 then [] else [44]) ++ Lib.itoa (f n)
def textV (f : Nat → Int) : List UInt8 := if lastV f 8 = 0 then [48] else textL f (lastV f 8)
theorem textL_len (f : Nat → Int) (hr : ∀ j, j < 8 → -9223372036854775808 ≤ f j ∧ f j ≤ 9223372036854775807) : ∀ n, n ≤ 8 → (textL f n).length ≤ 22 * n
  | 0, _ => by simp [textL]
  | n + 1, h => by
    have := textL_len f hr n (by omega)
    have h2 := Lib.itoa_length_le (f n) (hr n (by omega)).1 (hr n (by omega)).2
    have h3 : (if n = 0 then ([] : List UInt8) else [44]).length ≤ 1 := by split <;> simp
    simp only [textL, List.length_append]
    omega
theorem lastV_zero (f : Nat → Int) (n : Nat) : lastV f n = 0 ↔ ∀ j, j < n → f j = 0 := by
  induction n with
  | zero => simp [lastV]
  | succ n ih =>
    simp only [lastV]
    split
    · rename_i h0
      rw [ih]
      constructor
      · intro h j hj
        rcases Nat.lt_or_ge j n with h1 | h1
        · exact h j h1
        · rw [show j = n by omega]; exact h0
      · intro h j hj
        exact h j (by omega)
    · rename_i h0
      constructor
      · intro h; omega
      · intro h; exact absurd (h n (by omega)) h0
theorem slice_vec (b : Nat) {n : Nat} (h : n ≤ 8) (W : World) : (Instr.sliceAt 23 (.pointer (some ⟨b, 0, none⟩)) none (some (.int .i64 (n : Int))) none).run Tryd.prog W = .ok (.slice (some ⟨b, 0, none⟩) n 8) W := by
  obtain rfl | rfl | rfl | rfl | rfl | rfl | rfl | rfl | rfl : n = 0 ∨ n = 1 ∨ n = 2 ∨ n = 3 ∨ n = 4 ∨ n = 5 ∨ n = 6 ∨ n = 7 ∨ n = 8 := by omega
  all_goals kernel_rfl
theorem at_vecS (b : Nat) {i n : Nat} (h : i < n) (W : World) : (Instr.indexAt 77 (.slice (some ⟨b, 0, none⟩) n 8) (.int .i64 (i : Int))).run Tryd.prog W = .ok (.pointer (some ⟨b, i, none⟩)) W := by
  rw [run_indexAt_slice (h := by kernel_rfl)]
  have hs : (sizeOf (Tryd.prog.elem 77)).run Tryd.prog W = .ok 1 W := by kernel_rfl
  rw [hs, if_pos ⟨by omega, by omega⟩]
  simp [Result.andThen, Addr.add]
  intro h0
  exact h0.symm

set_option maxRecDepth 100000 in
set_option maxHeartbeats 1000000 in
theorem text_any (f : Nat → Int) (hr : ∀ j, j < 8 → -9223372036854775808 ≤ f j ∧ f j ≤ 9223372036854775807) (w : World) (ht : Tab w) :
    Calls Tryd.prog 36 #[.agg #[.int .i64 (f 0), .int .i64 (f 1), .int .i64 (f 2), .int .i64 (f 3), .int .i64 (f 4), .int .i64 (f 5), .int .i64 (f 6), .int .i64 (f 7)]] w fun e w' => e = .returned (.string ⟨(textV f).toArray⟩) ∧ Off (fun _ => False) w w' := by
  have hq := eql_vec f zer
  by_cases h0 : eqB f zer = true
  · have hv : Hid (textV f = [48]) := by
      show textV f = [48]
      simp only [eqB, decide_eq_true_eq] at h0
      have : lastV f 8 = 0 := (lastV_zero f 8).2 h0
      simp [textV, this]
    have hz : (.agg #[.int .i64 (zer 0), .int .i64 (zer 1), .int .i64 (zer 2), .int .i64 (zer 3), .int .i64 (zer 4), .int .i64 (zer 5), .int .i64 (zer 6), .int .i64 (zer 7)] : Value) = .agg #[.int .i64 0, .int .i64 0, .int .i64 0, .int .i64 0, .int .i64 0, .int .i64 0, .int .i64 0, .int .i64 0] := rfl
    rw [h0, hz] at hq
    go_enter Tryd.func36, Tryd.ntmps36
    go_wp2_with fail
    go_ret
    rw [hv.out]
    exact ⟨rfl, (Off.refl _ w).alloc _⟩
  · have h0 : eqB f zer = false := by simpa using h0
    have hz : (.agg #[.int .i64 (zer 0), .int .i64 (zer 1), .int .i64 (zer 2), .int .i64 (zer 3), .int .i64 (zer 4), .int .i64 (zer 5), .int .i64 (zer 6), .int .i64 (zer 7)] : Value) = .agg #[.int .i64 0, .int .i64 0, .int .i64 0, .int .i64 0, .int .i64 0, .int .i64 0, .int .i64 0, .int .i64 0] := rfl
    rw [h0, hz] at hq
    obtain ⟨N, hN⟩ : ∃ N, N = lastV f 8 := ⟨_, rfl⟩
    have hN8 : N ≤ 8 := hN ▸ lastV_le f 8
    have hv : Hid (textV f = textL f N) := by
      show textV f = _
      have : lastV f 8 ≠ 0 := fun h => by
        have h2 := (lastV_zero f 8).1 h
        have : eqB f zer = true := by
          simp only [eqB, decide_eq_true_eq]
          exact h2
        rw [this] at h0
        cases h0
      simp [textV, this, hN]
    have hs := slice_vec w.heap.size hN8
    go_enter Tryd.func36, Tryd.ntmps36
    go_wp2_with fail
    refine (used_any f _).mono ?_
    rw [← hN]
    rintro e w1 ⟨rfl, o1⟩
    have C0 : Cel w.heap.size 23 #[.int .i64 (f 0), .int .i64 (f 1), .int .i64 (f 2), .int .i64 (f 3), .int .i64 (f 4), .int .i64 (f 5), .int .i64 (f 6), .int .i64 (f 7)] w1 := ((Cel.new w _ _).alloc _).off o1 (fun h => h)
    have C1 : Cel (w.heap.size + 1) 76 #[.pointer none, .slice none 0 0] w1 := (Cel.new1 w _ _ _).off o1 (fun h => h)
    have O1 : Off (fun _ => False) w w1 := (((Off.refl _ w).alloc _).alloc _).trans o1 (fun _ _ h => h)
    clear o1 hN
    have I1 : Lib.IsBuilder 76 5 (w.heap.size + 1) (w.heap.size + 1) (Lib.byteCells []) w1 := .inl ⟨Nat.le_refl _, .slice none 0 0, C1.is, World.ownsRow_nil _ _ _ _, by simp [Value.ownBlock]⟩
    have HC0 : Hid _ := C0
    have HI1 : Hid _ := I1
    clear C0 C1 I1
    go_wp2_with fail
    go_loopw [13] (fun y wr => ∃ i : Nat, y = .int .i64 (i : Int) ∧ i ≤ N ∧ Lib.IsBuilder 76 5 (w.heap.size + 1) (w.heap.size + 1) (Lib.byteCells (textL f i)) wr ∧ Cel w.heap.size 23 #[.int .i64 (f 0), .int .i64 (f 1), .int .i64 (f 2), .int .i64 (f 3), .int .i64 (f 4), .int .i64 (f 5), .int .i64 (f 6), .int .i64 (f 7)] wr ∧ Off (fun _ => False) w wr) (fun y _ => (8 - intOf y).toNat)
    case atStart => exact ⟨0, rfl, by omega, HI1.out, HC0.out, O1⟩
    case round =>
      obtain ⟨i, rfl, hi, ib, cb, O⟩ := hrel
      have IB : Hid _ := ib
      have CB : Hid _ := cb
      clear ib cb HI1 HC0
      by_cases h : i < N
      · have hd : decide ((i : Int) < (N : Int)) = true := by simp; omega
        have hi8 : i < 8 := by omega
        have ha := at_vecS w.heap.size h
        have hc : wr.cell? ⟨w.heap.size, i, none⟩ = some (.int .i64 (f i)) := (CB.out.cell i).trans (vec_get f hi8)
        have hlen := textL_len f hr i (by omega)
        have hlen2 := Lib.itoa_length_le (f i) (hr i hi8).1 (hr i hi8).2
        by_cases hi0 : i = 0
        · subst hi0
          go_wp2_with fail
          refine (Tryd.strconv_FormatInt_10 (f 0) (hr 0 hi8).1 (hr 0 hi8).2 _ (ht.off O (fun _ _ h => h)).is).mono ?_
          rintro e w2 ⟨rfl, k, os, hw⟩
          have o2 : Off (fun _ => False) wr w2 := by rw [hw]; exact Off.of_grow wr k os
          clear hw
          have I2 := bld_off IB.out o2
          have C2 := CB.out.off o2 (fun h => h)
          have hO2 : Off (fun _ => False) w w2 := O.trans o2 (fun _ _ h => h)
          have hlt := bld_lt I2
          have HI2 : Hid _ := I2
          have HC2 : Hid _ := C2
          clear I2 C2
          go_wp2_with fail
          refine (ws_any _ _ _ _ _ HI2.out (by simp [ByteArray.size]; omega) (by omega)).mono ?_
          rintro e w3 ⟨rfl, I3, b3⟩
          have C3 := HC2.out.off (Off.of_below b3) (by omega)
          have hO3 : Off (fun _ => False) w w3 := hO2.trans (Off.of_below b3) (fun c hc h => by omega)
          have HI3 : Hid _ := I3
          have HC3 : Hid _ := C3
          clear I3 C3 hlt
          go_wp2_with fail
          go_roundw
          case rel =>
            refine ⟨0 + 1, by go_num, by omega, ?_, HC3.out, hO3⟩
            have e : textL f (0 + 1) = textL f 0 ++ (⟨(Lib.itoa (f 0)).toArray⟩ : ByteArray).data.toList := by simp [textL]
            rw [e]
            exact HI3.out
          case measure => simp [intOf]
        · have hd0 : decide ((0 : Int) < (i : Int)) = true := by simp; omega
          have hlt0 := bld_lt IB.out
          go_wp2_with fail
          refine (ws_any _ _ _ _ _ IB.out (by simp [ByteArray.size]; omega) (by omega)).mono ?_
          rintro e w5 ⟨rfl, I5, b5⟩
          have C5 := CB.out.off (Off.of_below b5) (by omega)
          have hO5 : Off (fun _ => False) w w5 := O.trans (Off.of_below b5) (fun c hc h => by omega)
          have HI5 : Hid _ := I5
          have HC5 : Hid _ := C5
          clear I5 C5 hlt0 b5
          go_wp2_with fail
          refine (Tryd.strconv_FormatInt_10 (f i) (hr i hi8).1 (hr i hi8).2 _ (ht.off hO5 (fun _ _ h => h)).is).mono ?_
          rintro e w2 ⟨rfl, k, os, hw⟩
          have o2 : Off (fun _ => False) w5 w2 := by rw [hw]; exact Off.of_grow w5 k os
          clear hw
          have I2 := bld_off HI5.out o2
          have C2 := HC5.out.off o2 (fun h => h)
          have hO2 : Off (fun _ => False) w w2 := hO5.trans o2 (fun _ _ h => h)
          have hlt := bld_lt I2
          have HI2 : Hid _ := I2
          have HC2 : Hid _ := C2
          clear I2 C2
          go_wp2_with fail
          refine (ws_any _ _ _ _ _ HI2.out (by simp [ByteArray.size]; omega) (by omega)).mono ?_
          rintro e w3 ⟨rfl, I3, b3⟩
          have C3 := HC2.out.off (Off.of_below b3) (by omega)
          have hO3 : Off (fun _ => False) w w3 := hO2.trans (Off.of_below b3) (fun c hc h => by omega)
          have HI3 : Hid _ := I3
          have HC3 : Hid _ := C3
          clear I3 C3 hlt
          go_wp2_with fail
          go_roundw
          case rel =>
            refine ⟨i + 1, by go_num, by omega, ?_, HC3.out, hO3⟩
            have e : textL f (i + 1) = textL f i ++ (⟨#[44]⟩ : ByteArray).data.toList ++ (⟨(Lib.itoa (f i)).toArray⟩ : ByteArray).data.toList := by simp [textL, hi0]
            rw [e]
            exact HI3.out
          case measure => simp [intOf]; omega
      · obtain rfl : i = N := by omega
        have hlt0 := bld_lt IB.out
        go_wp2_with fail
        refine (Tryd.Builder_String_any _ _ _ _ IB.out (by omega)).mono ?_
        rintro e w2 ⟨rfl, b2⟩
        go_wp2_with fail
        go_ret
        rw [hv.out]
        exact ⟨rfl, O.trans (Off.of_below b2) (fun c hc h => by omega)⟩
end Go.Proofs.YtalcfkdmlebkbaaDoor
