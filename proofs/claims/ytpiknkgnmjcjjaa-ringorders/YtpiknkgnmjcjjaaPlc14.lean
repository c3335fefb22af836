/- Mix, Place, Point of the program and of the reference. -/
import Derived.Test.YtpiknkgnmjcjjaaTxt
import Derived.Laws.IdiomStrings
namespace Go.Proofs.Ytpiknkgnmjcjjaa
open Go.RowKit

theorem x32 {a b : Nat} (ha : a < 4294967296) (hb : b < 4294967296) : a ^^^ b < 4294967296 := Nat.xor_lt_two_pow (n := 32) ha hb
/-- What a mix is behind n bytes. -/
def mixst (B : Nat → Nat) : Nat → Nat
  | 0 => 2166136261
  | n + 1 => (mixst B n ^^^ B n) * 16777619 % 4294967296
def mixend (h : Nat) : Nat := ((h ^^^ (h / 32768)) * 2246822507 % 4294967296) ^^^ (((h ^^^ (h / 32768)) * 2246822507 % 4294967296) / 8192)
theorem mixst_lt (B : Nat → Nat) (n : Nat) : mixst B n < 4294967296 := by
  cases n with
  | zero => simp [mixst]
  | succ n => exact Nat.mod_lt _ (by decide)

theorem bits_xor {a b : Nat} (ha : a < 4294967296) (hb : b < 4294967296) : bits .xor .u32 (a : Int) (b : Int) = ((a ^^^ b : Nat) : Int) := u32_xor_nat a b ha hb

theorem mix_any (ad : Option Addr) (len cap : Nat) (hlen : len ≤ 9223372036854775807) (B : Nat → Nat) (w : World)
    (hz : ∀ i, i < len → ∃ b off, ad = some ⟨b, off, none⟩ ∧ B i < 256 ∧ w.cell? ⟨b, off + i, none⟩ = some (.int .u8 (B i))) :
    Calls Try.prog 38 #[.slice ad len cap] w fun e w' => e = .returned (.int .u32 (mixend (mixst B len))) ∧ w' = w := by
  have HZ : Hid _ := hz
  clear hz
  go_enter Try.func38, Try.ntmps38
  go_wp2
  go_loopw [3, 8] (fun l i wr => ∃ (j : Nat), j ≤ len ∧ i = .int .i64 j ∧ l = .int .u32 (mixst B j) ∧ wr = w) (fun _ i _ => (len - intOf i).toNat)
  case atStart => exact ⟨0, by omega, rfl, rfl, rfl⟩
  case round =>
    obtain ⟨j, hj, rfl, rfl, rfl⟩ := hrel
    have hy := mixst_lt B j
    obtain ⟨y, hyy⟩ : ∃ y, y = mixst B j := ⟨_, rfl⟩
    have HY : Hid _ := hyy
    rw [← hyy] at hy ⊢
    clear hyy
    by_cases hlt : j < len
    · obtain ⟨b, off, rfl, hb, hc⟩ := HZ.out j hlt
      go_wp2
      go_roundw
      case rel =>
        refine ⟨j + 1, by omega, by go_num, ?_, trivial⟩
        rw [bits_xor hy (by omega), mixst, ← HY.out]
        rfl
      case measure => simp [intOf]; omega
    · obtain rfl : j = len := by omega
      go_wp2
      go_ret
      refine ⟨?_, rfl⟩
      have e1 : ((y : Nat) : Int) / 32768 = ((y / 32768 : Nat) : Int) := rfl
      have hx := x32 hy (show y / 32768 < 4294967296 by omega)
      have e2 := bits_xor hy (show y / 32768 < 4294967296 by omega)
      have e3 : ((y ^^^ (y / 32768) : Nat) : Int) * 2246822507 % 4294967296 = (((y ^^^ (y / 32768)) * 2246822507 % 4294967296 : Nat) : Int) := rfl
      have hm : (y ^^^ (y / 32768)) * 2246822507 % 4294967296 < 4294967296 := Nat.mod_lt _ (by decide)
      have e5 : (((y ^^^ (y / 32768)) * 2246822507 % 4294967296 : Nat) : Int) / 8192 = (((y ^^^ (y / 32768)) * 2246822507 % 4294967296 / 8192 : Nat) : Int) := rfl
      have e4 := bits_xor hm (show (y ^^^ (y / 32768)) * 2246822507 % 4294967296 / 8192 < 4294967296 by omega)
      simp only [e1, e2, e3, e5, e4, mixend, ← HY.out]
      rfl

theorem rmix_any (ad : Option Addr) (len cap : Nat) (hlen : len ≤ 9223372036854775807) (B : Nat → Nat) (w : World)
    (hz : ∀ i, i < len → ∃ b off, ad = some ⟨b, off, none⟩ ∧ B i < 256 ∧ w.cell? ⟨b, off + i, none⟩ = some (.int .u8 (B i))) :
    Calls Try.prog 19 #[.slice ad len cap] w fun e w' => e = .returned (.int .u32 (mixend (mixst B len))) ∧ w' = w := by
  have HZ : Hid _ := hz
  clear hz
  go_enter Try.func19, Try.ntmps19
  go_wp2
  go_loopw [3, 8] (fun l i wr => ∃ (j : Nat), j ≤ len ∧ i = .int .i64 j ∧ l = .int .u32 (mixst B j) ∧ wr = w) (fun _ i _ => (len - intOf i).toNat)
  case atStart => exact ⟨0, by omega, rfl, rfl, rfl⟩
  case round =>
    obtain ⟨j, hj, rfl, rfl, rfl⟩ := hrel
    have hy := mixst_lt B j
    obtain ⟨y, hyy⟩ : ∃ y, y = mixst B j := ⟨_, rfl⟩
    have HY : Hid _ := hyy
    rw [← hyy] at hy ⊢
    clear hyy
    by_cases hlt : j < len
    · obtain ⟨b, off, rfl, hb, hc⟩ := HZ.out j hlt
      go_wp2
      go_roundw
      case rel =>
        refine ⟨j + 1, by omega, by go_num, ?_, trivial⟩
        rw [bits_xor hy (by omega), mixst, ← HY.out]
        rfl
      case measure => simp [intOf]; omega
    · obtain rfl : j = len := by omega
      go_wp2
      go_ret
      refine ⟨?_, rfl⟩
      have e1 : ((y : Nat) : Int) / 32768 = ((y / 32768 : Nat) : Int) := rfl
      have hx := x32 hy (show y / 32768 < 4294967296 by omega)
      have e2 := bits_xor hy (show y / 32768 < 4294967296 by omega)
      have e3 : ((y ^^^ (y / 32768) : Nat) : Int) * 2246822507 % 4294967296 = (((y ^^^ (y / 32768)) * 2246822507 % 4294967296 : Nat) : Int) := rfl
      have hm : (y ^^^ (y / 32768)) * 2246822507 % 4294967296 < 4294967296 := Nat.mod_lt _ (by decide)
      have e5 : (((y ^^^ (y / 32768)) * 2246822507 % 4294967296 : Nat) : Int) / 8192 = (((y ^^^ (y / 32768)) * 2246822507 % 4294967296 / 8192 : Nat) : Int) := rfl
      have e4 := bits_xor hm (show (y ^^^ (y / 32768)) * 2246822507 % 4294967296 / 8192 < 4294967296 by omega)
      simp only [e1, e2, e3, e5, e4, mixend, ← HY.out]
      rfl

theorem conv_tx (key : ByteArray) (W : World) : ∃ cap W', (convert 9 42 (.string key)).run Try.prog W = .ok (.slice (some ⟨W.heap.size, 0, none⟩) (tx key).length cap) W' ∧ Src W' (some ⟨W.heap.size, 0, none⟩) cap (tx key) ∧ Off (fun _ => False) W W' := by
  refine ⟨_, _, by rw [tx_len]; exact run_bytes_of_string W 9 42 5 key Try.underlying9 Try.underlying42 Try.underlying5, ⟨.inr ⟨_, rfl, fun j u hj => ?_⟩⟩, ((Off.refl _ W).drew).alloc _⟩
  have hj' := vl_lt hj
  rw [vl_get _ _ hj'] at hj
  rw [tx_len] at hj'
  rw [add_lit]
  simp only [World.cell?]
  rw [show (W.heap.size) = W.drew.heap.size from rfl, heap_alloc_new]
  simp only [Nat.zero_add]
  rw [← hj]
  have hj2 : j < key.data.size := hj'
  have h := bytesRow_at key (grownCap W key.size 0 5) j hj2
  have e : (tx key).getD j 0 = key.data[j].toNat := by
    unfold tx
    rw [List.getD_eq_getElem?_getD, List.getElem?_map, Array.getElem?_toList, Array.getElem?_eq_getElem hj2]
    rfl
  rw [e]
  exact h


/-- The mix of some bytes. -/
def mixL (bs : List Nat) : Nat := mixend (mixst (fun i => bs.getD i 0) bs.length)
theorem src_at {w : World} {g cap : Nat} {bs : List Nat} (h : Src w (some ⟨g, 0, none⟩) cap bs) (hl : ∀ x ∈ bs, x < 256) : ∀ i, i < bs.length → ∃ b off, some (⟨g, 0, none⟩ : Addr) = some ⟨b, off, none⟩ ∧ bs.getD i 0 < 256 ∧ w.cell? ⟨b, off + i, none⟩ = some (.int .u8 ((bs.getD i 0 : Nat) : Int)) := by
  intro i hi
  refine ⟨g, 0, rfl, ?_, ?_⟩
  · rw [List.getD_eq_getElem?_getD, List.getElem?_eq_getElem hi]
    exact hl _ (List.getElem_mem hi)
  · rcases h.is with ⟨h0, -⟩ | ⟨ad, e, hc⟩
    · cases h0
    · obtain rfl := Option.some.inj e
      have := hc i _ (vl_get bs i hi)
      rw [add_lit] at this
      exact this
set_option maxRecDepth 100000 in
theorem place_any (s : ByteArray) (hs : s.size ≤ 140737488351232) (w : World) : Calls Try.prog 25 #[.string s] w fun e w' => e = .returned (.int .u32 (mixL (tx s) : Nat)) ∧ Off (fun _ => False) w w' := by
  obtain ⟨cap, W, hcv, src, off⟩ := conv_tx s w
  have hl := tx_len s
  have HM : Hid _ := mix_any (some ⟨w.heap.size, 0, none⟩) (tx s).length cap (by omega) (fun i => (tx s).getD i 0) W (src_at src (tx_lt s))
  have OFF : Hid _ := off
  clear src off hl
  go_enter Try.func25, Try.ntmps25
  go_wp2_with fail
  refine Calls.mono HM.out ?_
  rintro e w1 ⟨rfl, hw⟩
  rw [hw]
  clear hw w1
  go_wp2_with fail
  go_ret
  exact ⟨rfl, OFF.out⟩
theorem u8_nat (p : Int) : ∃ x : Nat, x < 256 ∧ IntKind.u8.wrap p = (x : Int) ∧ p % 256 = (x : Int) := by
  refine ⟨(p % 256).toNat, by omega, ?_, by omega⟩
  rw [IntKind.wrap_u8]
  omega
theorem src4 (w : World) (t : TypeId) (a b c d : Nat) : Src (w.alloc (.cells #[.int .u8 (a : Int), .int .u8 (b : Int), .int .u8 (c : Int), .int .u8 (d : Int)] t)) (some ⟨w.heap.size, 0, none⟩) 4 [a, b, c, d] := by
  refine ⟨.inr ⟨_, rfl, fun j u hj => ?_⟩⟩
  have hc := Cel.new w t #[.int .u8 (a : Int), .int .u8 (b : Int), .int .u8 (c : Int), .int .u8 (d : Int)]
  rw [add_lit, Nat.zero_add, hc.cell]
  match j, hj with
  | 0, hj => simp [vl] at hj; subst hj; rfl
  | 1, hj => simp [vl] at hj; subst hj; rfl
  | 2, hj => simp [vl] at hj; subst hj; rfl
  | 3, hj => simp [vl] at hj; subst hj; rfl
set_option maxRecDepth 100000 in
theorem rpoint_any (p q : Int) (x y : Nat) (hx : x < 256) (hy : y < 256) (ex : IntKind.u8.wrap p = (x : Int)) (ey : IntKind.u8.wrap q = (y : Int)) (w : World) : Calls Try.prog 21 #[.int .i64 p, .int .i64 q] w fun e w' => e = .returned (.int .u32 (mixL [110, x, 112, y] : Nat)) ∧ Off (fun _ => False) w w' := by
  have src := src4 w 5 110 x 112 y
  have HM : Hid _ := rmix_any (some ⟨w.heap.size, 0, none⟩) 4 4 (by omega) (fun i => [110, x, 112, y].getD i 0) _ (src_at src (by simp; omega))
  clear src
  go_enter Try.func21, Try.ntmps21
  go_wp2_with fail
  refine Calls.mono HM.out ?_
  rintro e w1 ⟨rfl, hw⟩
  rw [hw]
  clear hw w1
  go_wp2_with fail
  go_ret
  exact ⟨rfl, (Off.refl _ w).alloc _⟩
set_option maxRecDepth 100000 in
theorem point_any (p q : Int) (x y : Nat) (hx : x < 256) (hy : y < 256) (ex : IntKind.u8.wrap p = (x : Int)) (ey : IntKind.u8.wrap q = (y : Int)) (w : World) : Calls Try.prog 31 #[.int .i64 p, .int .i64 q] w fun e w' => e = .returned (.int .u32 (mixL [110, x, 112, y] : Nat)) ∧ Off (fun _ => False) w w' := by
  have src := src4 w 91 110 x 112 y
  have HM : Hid _ := mix_any (some ⟨w.heap.size, 0, none⟩) 4 4 (by omega) (fun i => [110, x, 112, y].getD i 0) _ (src_at src (by simp; omega))
  clear src
  go_enter Try.func31, Try.ntmps31
  go_wp2_with fail
  refine Calls.mono HM.out ?_
  rintro e w1 ⟨rfl, hw⟩
  rw [hw]
  clear hw w1
  go_wp2_with fail
  go_ret
  exact ⟨rfl, (Off.refl _ w).alloc _⟩
end Go.Proofs.Ytpiknkgnmjcjjaa
