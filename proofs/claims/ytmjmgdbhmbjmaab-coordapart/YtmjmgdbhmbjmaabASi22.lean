/- Items of several texts. -/
import Derived.Test.YtmjmgdbhmbjmaabAArg22
import Derived.Test.YtmjmgdbhmbjmaabAAw22
namespace Go.Proofs.Ytmjmgdbhmbjmaab
set_option maxRecDepth 100000
open Go.RowKit
theorem GotR.val {r : Option (List Int)} {e : Ending} {N : Nat} {w' : World} (h : GotR r e N w') : ∃ a l c, e = .returned (.tuple #[.slice a l c, .bool r.isSome]) := by
 cases r with
 | none => exact ⟨_, _, _, h⟩
 | some l =>
  obtain ⟨a, c, e, -⟩ := h
  exact ⟨_, _, _, e⟩
theorem OwnG.ints {w : World} {a : Option Addr} {cap : Nat} {l : List Int} (h : OwnG 3 1 inC w a cap l) {i : Nat} {x : Int} (hi : l[i]? = some x) : ∃ g, a = some ⟨g, 0, none⟩ ∧ w.cell? ⟨g, i, none⟩ = some (.int .i64 x) := by
 obtain ⟨g, e, hc⟩ := h.get inC_len hi
 have := hc 0 _ (show (inC x)[0]? = some (.int .i64 x) from rfl)
 rw [show i * 1 + 0 = i by omega] at this
 exact ⟨g, e, this⟩
end Go.Proofs.Ytmjmgdbhmbjmaab

namespace Go.Proofs.Ytmjmgdbhmbjmaab
set_option maxRecDepth 100000
open Go.RowKit
set_option maxHeartbeats 1000000 in
theorem gsints_any {w : World} {a b : Option Addr} {ca cb : Nat} {L K : List Int} (h1 : OwnG 3 1 inC w a ca L) (h2 : OwnG 3 1 inC w b cb K) (hl : L.length ≤ 9223372036854775807) : Calls Try.prog 9 #[.slice a L.length ca, .slice b K.length cb] w fun e w' => e = .returned (.bool (decide (L = K))) ∧ Off (fun _ => False) w w' := by
 have H1 : Hid _ := h1
 have H2 : Hid _ := h2
 clear h1 h2
 by_cases hll : L.length = K.length
 ·rw [← hll]
  have HLL : Hid (L.length = K.length) := hll
  clear hll
  go_enter Try.func9, Try.ntmps9
  go_wp2_with fail
  go_loopw [13] (fun s13 wr => ∃ i : Nat, s13 = .int .i64 (i : Int) ∧ i ≤ L.length ∧ Hid (L.take i = K.take i) ∧ Hid (Off (fun _ => False) w wr)) (fun s13 _ => ((L.length : Int) - vInt s13).toNat)
  case atStart => exact ⟨0, rfl, by omega, rfl, Off.refl _ w⟩
  case round =>
   obtain ⟨i, rfl, hi, HT, HO⟩ := hrel
   by_cases hlt : i < L.length
   ·have hlk : i < K.length := by have := HLL.out; omega
    obtain ⟨x, hx⟩ : ∃ x, L[i]? = some x := ⟨_, List.getElem?_eq_getElem hlt⟩
    obtain ⟨y, hy⟩ : ∃ y, K[i]? = some y := ⟨_, List.getElem?_eq_getElem hlk⟩
    obtain ⟨g1, hg1, c1⟩ := (H1.out.off HO.out (fun _ _ _ h => h)).ints hx
    obtain ⟨g2, hg2, c2⟩ := (H2.out.off HO.out (fun _ _ _ h => h)).ints hy
    subst hg1
    subst hg2
    have d1 : decide ((i : Int) < (L.length : Int)) = true := decide_eq_true (by omega)
    have d2 : decide ((L.length : Int) ≤ (i : Int)) = false := decide_eq_false (by omega)
    have d3 : decide ((i : Int) < 0) = false := decide_eq_false (by omega)
    have wi : IntKind.i64.wrap ((i : Int) + 1) = (i : Int) + 1 := by rw [IntKind.wrap_i64]; omega
    have HX : Hid (L[i]? = some x) := hx
    have HY : Hid (K[i]? = some y) := hy
    clear hx hy hlk
    by_cases e : x = y
    ·have HT2 : Hid (L.take (i + 1) = K.take (i + 1)) := by
      show L.take (i + 1) = K.take (i + 1)
      rw [List.take_add_one, List.take_add_one, HT.out, HX.out, HY.out, e]
     subst e
     go_wp2_with fail
     go_region
     go_wp2_with fail
     go_roundw
     case rel => exact ⟨i + 1, by go_num, by omega, HT2, HO.out.drew⟩
     case measure => simp [vInt]; omega
    ·have HF : Hid (decide (L = K) = false) := decide_eq_false (fun h => e (by have h1 := HX.out; rw [h, HY.out] at h1; exact (Option.some.inj h1).symm))
     have dx : (x == y) = false := beq_eq_false_iff_ne.2 e
     go_wp2_with fail
     go_region
     go_wp2_with fail
     go_ret
     rw [HF.out]
     exact ⟨rfl, HO.out.drew⟩
   ·have d1 : decide ((i : Int) < (L.length : Int)) = false := decide_eq_false (by omega)
    have HE : Hid (decide (L = K) = true) := decide_eq_true (by have h1 := HT.out; rw [List.take_of_length_le (by omega), List.take_of_length_le (by have := HLL.out; omega)] at h1; exact h1)
    go_wp2_with fail
    go_ret
    rw [HE.out]
    exact ⟨rfl, HO.out⟩
 ·have HF : Hid (decide (L = K) = false) := decide_eq_false (fun h => hll (by rw [h]))
  have dn : ((L.length : Int) == (K.length : Int)) = false := beq_eq_false_iff_ne.2 (by omega)
  have dm : decide (L.length = K.length) = false := decide_eq_false hll
  clear hll
  go_enter Try.func9, Try.ntmps9
  go_wp2_with fail
  go_ret
  rw [HF.out]
  exact ⟨rfl, Off.refl _ w⟩
end Go.Proofs.Ytmjmgdbhmbjmaab
