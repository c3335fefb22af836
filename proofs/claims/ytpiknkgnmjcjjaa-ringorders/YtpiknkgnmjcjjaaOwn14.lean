/- Owners, Owns, awake; the ring that there isn't. -/
import Derived.Test.YtpiknkgnmjcjjaaRin14
namespace Go.Proofs.Ytpiknkgnmjcjjaa
set_option maxRecDepth 100000
open Go.RowKit

theorem min_int (x y : Int) (ts : Array TypeId) (t : TypeId) (W : World) : (Builtin.min_ ts t #[.int .i64 x, .int .i64 y]).run Try.prog W = .ok (.int .i64 (min x y)) W := by
  rw [run_min_int2]
  congr 2
  split <;> omega
theorem max_int (x y : Int) (ts : Array TypeId) (t : TypeId) (W : World) : (Builtin.max_ ts t #[.int .i64 x, .int .i64 y]).run Try.prog W = .ok (.int .i64 (max x y)) W := by
  rw [run_max_int2]
  congr 2
  split <;> omega
/-- What Owners tells: how many. -/
def capN (q : Int) (n : Nat) : Nat := (min (max q 0) (n : Int)).toNat
theorem capN_eq (q : Int) (n : Nat) : min (max q 0) (n : Int) = (capN q n : Int) := by unfold capN; omega
theorem capN_le (q : Int) (n : Nat) : capN q n ≤ n := by unfold capN; omega
theorem Its.slice {w : World} {t : Option Addr} {c : Nat} {l : List Nat} (h : Its w t c l) (hn : t = none → c = 0) {k : Nat} (hk : k ≤ l.length) (W : World) :
    (Instr.slice 24 (.slice t l.length c) none (some (.int .i64 (k : Int))) none).run Try.prog W = .ok (.slice t (l.take k).length c) W := by
  have hc := h.len
  rw [run_slice_h (P := Try.prog) (t := 24) (ht := by kernel_rfl) (h0 := by omega) (h2 := by omega)]
  have hs : (sizeOf (Try.prog.elem 24)).run Try.prog W = .ok 1 W := by
    have : Try.prog.elem 24 = 3 := by kernel_rfl
    rw [this]
    obtain ⟨i0, hi, hz0, hz1, hz2⟩ := info_parts Try.infoN
    simp [sizeOf, typeInfo, hi, hz1]
  rw [hs]
  cases t with
  | none =>
    obtain rfl := hn rfl
    have : k = 0 := by omega
    subst this
    simp [Result.andThen, sliced]
  | some a =>
    have ha : a.add 0 = a := by unfold Addr.add; split <;> simp_all
    simp [Result.andThen, sliced, ha]
    omega
theorem owners_any (D : Nat → Prop) (b n m : Nat) (hn : n ≤ 8) (s : ByteArray) (hs : s.size ≤ 140737488351232) (q : Int) (w : World) (h : Rng D b n m w) :
    Calls Try.prog 14 #[.pointer (some ⟨b, 0, none⟩), .string s, .int .i64 q] w fun e w' => ∃ t c, e = .returned (.slice t ((ordP (mixL (tx s)) (ptsP n)).take (capN q n)).length c) ∧ ∃ D', Rng D' b n 1 w' ∧ OwnG 3 1 ics w' t c ((ordP (mixL (tx s)) (ptsP n)).take (capN q n)) ∧ (∀ k, blk t = some k → w.heap.size ≤ k ∧ ¬ D' k) ∧ (∀ k, D' k → D k ∨ w.heap.size ≤ k) ∧ Off D w w' := by
  have HOR : Hid _ := order_any D b n m hn s hs w h
  have HLN : Hid _ := ord_len (mixL (tx s)) n
  clear h
  generalize ordP (mixL (tx s)) (ptsP n) = l at *
  have HLE := capN_le q n
  have hmx := max_int q 0
  have hmn := min_int (max q 0) (n : Int)
  rw [capN_eq] at hmn
  generalize capN q n = K at *
  go_enter Try.func14, Try.ntmps14
  go_wp2_with fail
  refine Calls.mono HOR.out ?_
  rintro e w1 ⟨t, c, rfl, D', r1, own, hat, hD, o⟩
  have hsl := own.its.slice own.none0 (k := K) (by rw [HLN.out]; exact HLE)
  rw [HLN.out] at hsl ⊢
  have HF : Hid (∃ D', Rng D' b n 1 w1 ∧ OwnG 3 1 ics w1 t c (l.take K) ∧ (∀ k, blk t = some k → w.heap.size ≤ k ∧ ¬ D' k) ∧ (∀ k, D' k → D k ∨ w.heap.size ≤ k) ∧ Off D w w1) := ⟨D', r1, own.take ics_len (by rw [HLN.out]; exact HLE), hat, hD, o⟩
  clear r1 own hat hD o
  generalize hlt : l.take K = lt at hsl HF
  have HT : Hid (l.take K = lt) := hlt
  clear hlt
  go_wp2_with fail
  go_ret
  rw [HT.out]
  exact ⟨t, c, rfl, HF.out⟩
theorem owns_any (D : Nat → Prop) (b n m : Nat) (hn : n ≤ 8) (s : ByteArray) (hs : s.size ≤ 140737488351232) (q v : Int) (w : World) (h : Rng D b n m w) :
    Calls Try.prog 15 #[.pointer (some ⟨b, 0, none⟩), .int .i64 v, .string s, .int .i64 q] w fun e w' => e = .returned (.bool (inB ((ordP (mixL (tx s)) (ptsP n)).take (capN q n)) v)) ∧ ∃ D', Rng D' b n 1 w' ∧ (∀ k, D' k → D k ∨ w.heap.size ≤ k) ∧ Off D w w' := by
  have HOR : Hid _ := owners_any D b n m hn s hs q w h
  have HLN : Hid (((ordP (mixL (tx s)) (ptsP n)).take (capN q n)).length ≤ 8) := by have := ord_len (mixL (tx s)) n; show _ ≤ _; rw [List.length_take]; omega
  clear h
  generalize (ordP (mixL (tx s)) (ptsP n)).take (capN q n) = l at *
  go_enter Try.func15, Try.ntmps15
  go_wp2_with fail
  refine Calls.mono HOR.out ?_
  rintro e w1 ⟨t, c, rfl, D', r1, own, hat, hD, o⟩
  have HC : Hid _ := contains_any t c l v w1 own.its (by have : l.length ≤ 8 := HLN.out; omega)
  have HF : Hid (∃ D', Rng D' b n 1 w1 ∧ (∀ k, D' k → D k ∨ w.heap.size ≤ k) ∧ Off D w w1) := ⟨D', r1, hD, o⟩
  clear r1 own hat hD o
  go_wp2_with fail
  refine Calls.mono HC.out ?_
  rintro e w2 ⟨rfl, hw⟩
  rw [hw]
  clear hw w2
  go_wp2_with fail
  go_ret
  exact ⟨rfl, HF.out⟩
theorem order_nil (s : ByteArray) (w : World) : Calls Try.prog 12 #[.pointer none, .string s] w fun e w' => e = .returned (.slice none 0 0) ∧ w' = w := by
  go_enter Try.func12, Try.ntmps12
  go_wp2
  go_ret
  exact ⟨rfl, rfl⟩
theorem owners_nil (s : ByteArray) (q : Int) (w : World) : Calls Try.prog 14 #[.pointer none, .string s, .int .i64 q] w fun e w' => e = .returned (.slice none 0 0) ∧ w' = w := by
  have HO : Hid _ := order_nil s
  have hmx := max_int q 0
  have hmn : ∀ ts t W, (Builtin.min_ ts t #[.int .i64 (max q 0), .int .i64 0]).run Try.prog W = .ok (.int .i64 0) W := fun ts t W => by
    rw [min_int, show min (max q 0) 0 = 0 by omega]
  go_enter Try.func14, Try.ntmps14
  go_wp2_with fail
  refine (HO.out w).mono ?_
  rintro e w2 ⟨rfl, hw⟩
  rw [hw]
  clear hw w2
  go_wp2_with fail
  go_ret
  exact ⟨rfl, rfl⟩
theorem owns_nil (s : ByteArray) (q v : Int) (w : World) : Calls Try.prog 15 #[.pointer none, .int .i64 v, .string s, .int .i64 q] w fun e w' => e = .returned (.bool false) ∧ w' = w := by
  have HO : Hid _ := owners_nil s q
  have HC : Hid _ := contains_any none 0 [] v w (Its.nil _ _ _) (by simp)
  go_enter Try.func15, Try.ntmps15
  go_wp2_with fail
  refine (HO.out w).mono ?_
  rintro e w2 ⟨rfl, hw⟩
  rw [hw]
  clear hw w2
  go_wp2_with fail
  refine Calls.mono HC.out ?_
  rintro e w2 ⟨rfl, hw⟩
  rw [hw]
  clear hw w2
  go_wp2_with fail
  go_ret
  exact ⟨rfl, rfl⟩
theorem new_any (q : Int) (w : World) : Calls Try.prog 8 #[.int .i64 q] w fun e w' => e = .returned (.pointer (some ⟨w.heap.size, 0, none⟩)) ∧ Rng (fun k => k = w.heap.size) w.heap.size (capN q 8) 0 w' ∧ Off (fun _ => False) w w' := by
  refine (new_at q (capN q 8 : Nat) (by have := capN_eq q 8; omega) w).mono ?_
  rintro e w' ⟨rfl, h, o⟩
  exact ⟨rfl, Rng.new h, o⟩
theorem one_ord (M : Nat) : ordP M (ptsP 1) = [0] := by
  have h1 := ord_len M 1
  have h2 := ord_mem M 1
  match h : ordP M (ptsP 1), h1 with
  | [x], _ =>
    have := (h2 x).1 (by rw [h]; simp)
    obtain rfl : x = 0 := by omega
    rfl
set_option maxHeartbeats 1000000 in
theorem awake_any (w : World) : Calls Try.prog 17 #[] w fun e w' => e = .returned (.bool true) ∧ Off (fun _ => False) w w' := by
  have HN1 : Hid _ := new_any 1 w
  have e1 : capN 1 8 = 1 := rfl
  have e5 : capN 5 8 = 5 := rfl
  rw [e1] at HN1
  have HO1 : Hid _ := one_ord (mixL (tx { data := #[107] }))
  have HO5 : Hid _ := ord_len (mixL (tx { data := #[107] })) 5
  go_enter Try.func17, Try.ntmps17
  go_wp2_with fail
  refine Calls.mono HN1.out ?_
  rintro e w1 ⟨rfl, r1, o1⟩
  generalize hb : w.heap.size = b at r1 ⊢
  have HC1 : Hid _ := order_any _ b 1 0 (by omega) { data := #[107] } (by decide) w1 r1
  rw [HO1.out] at HC1
  have HB : Hid (w.heap.size = b) := hb
  have HF1 : Hid _ := o1
  clear r1 o1 hb HN1
  go_wp2_with fail
  refine Calls.mono HC1.out ?_
  rintro e w2 ⟨t, c, rfl, D', r2, own, hat, hD, o2⟩
  obtain ⟨g, rfl, k0⟩ := own.its.at_ 0 0 rfl
  have HF2 : Hid _ := HF1.out.trans o2 (fun k hk e => by have e : k = b := e; have := HB.out; omega)
  have HN5 : Hid _ := new_any 5 w2
  rw [e5] at HN5
  clear r2 own hat hD o2 HC1 HF1
  go_wp2_with fail
  refine Calls.mono HN5.out ?_
  rintro e w3 ⟨rfl, r3, o3⟩
  have hsz := HF2.out.size
  generalize hb5 : w2.heap.size = b5 at r3 hsz ⊢
  have HC5 : Hid _ := order_any _ b5 5 0 (by omega) { data := #[107] } (by decide) w3 r3
  rw [HO5.out] at HC5
  have HS5 : Hid (w.heap.size ≤ b5) := hsz
  have HF3 : Hid _ := HF2.out.trans o3 (fun _ _ h => h)
  clear r3 o3 hb5 HN5 HF2 hsz
  go_wp2_with fail
  refine Calls.mono HC5.out ?_
  rintro e w4 ⟨t4, c4, rfl, D4, r4, own4, hat4, hD4, o4⟩
  have HF4 : Hid _ := HF3.out.trans o4 (fun k hk e => by have e : k = b5 := e; have : w.heap.size ≤ b5 := HS5.out; omega)
  clear r4 own4 hat4 hD4 o4 HC5
  go_wp2_with fail
  go_ret
  exact ⟨rfl, HF4.out⟩
set_option maxHeartbeats 1000000 in
theorem nil_walk (s : ByteArray) (q : Int) (w : World) (_ : s.size ≤ 140737488351232) (_ : -9223372036854775808 ≤ q ∧ q ≤ 9223372036854775807) :
    Calls Try.prog 5 #[.string s, .int .i64 q] w fun e w' => e = .returned (.bool true) ∧ Off (fun _ => False) w w' := by
  have H1 : Hid _ := nodes_nil w
  have H2 : Hid _ := order_nil s w
  have H3 : Hid _ := owners_nil s q w
  have H4 : Hid _ := owns_nil s q q w
  have H5 : Hid _ := made_nil w
  have H6 : Hid _ := awake_any w
  go_enter Try.func5, Try.ntmps5
  go_wp2_with fail
  refine Calls.mono H1.out ?_
  rintro e w2 ⟨rfl, hw⟩
  rw [hw]
  clear hw w2
  go_wp2_with fail
  refine Calls.mono H2.out ?_
  rintro e w2 ⟨rfl, hw⟩
  rw [hw]
  clear hw w2
  go_wp2_with fail
  refine Calls.mono H3.out ?_
  rintro e w2 ⟨rfl, hw⟩
  rw [hw]
  clear hw w2
  go_wp2_with fail
  refine Calls.mono H4.out ?_
  rintro e w2 ⟨rfl, hw⟩
  rw [hw]
  clear hw w2
  go_wp2_with fail
  refine Calls.mono H5.out ?_
  rintro e w2 ⟨rfl, hw⟩
  rw [hw]
  clear hw w2
  go_wp2_with fail
  refine Calls.mono H6.out ?_
  rintro e w2 ⟨rfl, o⟩
  go_wp2_with fail
  go_ret
  exact ⟨rfl, o⟩
end Go.Proofs.Ytpiknkgnmjcjjaa
