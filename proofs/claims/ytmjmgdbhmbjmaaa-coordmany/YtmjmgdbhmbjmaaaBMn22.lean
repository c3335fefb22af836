/- Items of several texts. -/
import Derived.Test.YtmjmgdbhmbjmaaaBArg22
import Derived.Test.YtmjmgdbhmbjmaaaBAw22
namespace Go.Proofs.Ytmjmgdbhmbjmaaa
set_option maxRecDepth 100000
open Go.RowKit
theorem min_int (a b : Int) : ∀ ts t W, (Builtin.min_ ts t #[.int .i64 a, .int .i64 b]).run Try.prog W = .ok (.int .i64 (min a b)) W := by
 intro ts t W
 go_simp <;> (split <;> omega)
def manyA (i : Nat) : CA := ⟨5, ((min i 64 : Nat) : Int), (List.range (min i 64)).map (fun (j : Nat) => newA ((j : Int) + 1) false kk SA.zero 2 0), []⟩
theorem many_len (i : Nat) : (manyA i).t.length = min i 64 := by simp [manyA]
theorem many_more {i : Nat} (h : i < 64) : beginA (manyA i) 0 2 false kk SA.zero = (manyA (i + 1), (i : Int) + 1, 0) := by
 have e1 : min i 64 = i := by omega
 have e2 : min (i + 1) 64 = i + 1 := by omega
 rw [beginA_more (by rw [many_len]; omega) (by rw [kk_ok, may_zero]; rfl) (by decide)]
 unfold manyA
 simp only [e1, e2, List.range_succ, List.map_append, List.map_cons, List.map_nil]
 rfl
theorem many_full {i : Nat} (h : ¬ i < 64) : beginA (manyA i) 0 2 false kk SA.zero = (manyA (i + 1), 0, 7) := by
 rw [beginA_full (by rw [many_len]; omega)]
 unfold manyA
 rw [show min i 64 = 64 by omega, show min (i + 1) 64 = 64 by omega]
theorem drop_rep {o o' : OA} {L : List OA} (hi : o'.id = o.id) (hne : ∀ y ∈ L, y.id ≠ o.id) : dropA o.id (repA o' (o :: L)) = L := by
 have h1 : repA o' (o :: L) = o' :: L := by
  unfold repA
  rw [List.map_cons, if_pos hi.symm]
  congr 1
  conv => rhs; rw [← List.map_id L]
  exact List.map_congr_left fun y hy => by rw [if_neg (by rw [hi]; exact hne y hy)]; rfl
 rw [h1]
 unfold dropA
 rw [List.filter_cons]
 have : (!decide (o'.id = o.id)) = false := by simp [hi]
 rw [this]
 exact List.filter_eq_self.2 fun y hy => by have := hne y hy; simp [this]
theorem many_ack {i : Nat} (h : 1 ≤ i) : ackA (manyA i) 1 3 = (⟨5, ((min i 64 : Nat) : Int), ((List.range (min i 64)).map (fun (j : Nat) => newA ((j : Int) + 1) false kk SA.zero 2 0)).drop 1, [⟨1, 0, SA.zero⟩]⟩, true) := by
 obtain ⟨k, hk⟩ : ∃ k, min i 64 = k + 1 := ⟨min i 64 - 1, by omega⟩
 have et : (List.range (min i 64)).map (fun (j : Nat) => newA ((j : Int) + 1) false kk SA.zero 2 0) = newA 1 false kk SA.zero 2 0 :: (List.range k).map (fun (j : Nat) => newA (((j + 1 : Nat) : Int) + 1) false kk SA.zero 2 0) := by
  rw [hk, List.range_succ_eq_map, List.map_cons, List.map_map]
  rfl
 have hf : fndA 1 (manyA i).t = some (newA 1 false kk SA.zero 2 0) := by
  show fndA 1 ((List.range (min i 64)).map _) = _
  rw [et]
  rfl
 rw [ackA_done hf rfl (by decide)]
 unfold finA manyA
 simp only [et, List.drop_succ_cons, List.drop_zero, List.nil_append]
 congr 2
 have hne : ∀ y ∈ (List.range k).map (fun (j : Nat) => newA (((j + 1 : Nat) : Int) + 1) false kk SA.zero 2 0), y.id ≠ 1 := by
  intro y hy
  obtain ⟨j, -, rfl⟩ := List.mem_map.1 hy
  show ((j + 1 : Nat) : Int) + 1 ≠ 1
  omega
 generalize (List.range k).map (fun (j : Nat) => newA (((j + 1 : Nat) : Int) + 1) false kk SA.zero 2 0) = L at hne ⊢
 exact drop_rep (o := newA 1 false kk SA.zero 2 0) rfl hne
set_option maxHeartbeats 4000000 in
theorem many_walk (q0 : Int) (w : World) (_ : -9223372036854775808 ≤ q0 ∧ q0 ≤ 9223372036854775807) : Calls Try.prog 4 #[.int .i64 q0] w fun e w' => e = .returned (.bool true) ∧ Off (fun _ => False) w w' := by
 obtain ⟨r, er, hr⟩ := rem_any q0 10 (by omega)
 have HN : Hid _ := cnew_any (Z := fun _ => False) 5 w (by omega) (fun _ h => h.elim)
 go_enter Try.func4, Try.ntmps4
 go_wp2_with fail
 refine Calls.mono HN.out ?_
 rintro e v1 ⟨p, rfl, hp, c1, g1⟩
 have HC1 : Hid _ := c1
 have HG1 : Hid _ := g1
 have w1 : IntKind.i64.wrap (r : Int) = (r : Int) := by rw [IntKind.wrap_i64]; omega
 have w2 : IntKind.i64.wrap (60 + (r : Int)) = 60 + (r : Int) := by rw [IntKind.wrap_i64]; omega
 clear c1 g1 hp HN
 go_wp2_with fail
 clear er w1 w2
 go_loopw [16] (fun s16 wr => ∃ (i : Nat) (x : CM) (D Z : Nat → Prop), s16 = .int .i64 (i : Int) ∧ i ≤ 60 + r ∧ CST D Z p x wr ∧ Gro (fun _ => False) D (fun _ => False) Z w wr ∧ x.abs = manyA i) (fun s16 _ => ((60 + r : Int) - vInt s16).toNat)
 case atStart => exact ⟨0, _, _, _, rfl, by omega, HC1.out, HG1.out, rfl⟩
 case round =>
  obtain ⟨i, x, D, Z, rfl, hi, hC, hG, hA⟩ := hrel
  have HC : Hid _ := hC
  have HG : Hid _ := hG
  have HA : Hid _ := hA
  by_cases hlt : i < 60 + r
  ·have hd : decide ((i : Int) < 60 + (r : Int)) = true := decide_eq_true (by omega)
   have hla : x.last ≤ 64 := by have := congrArg CA.last hA; show x.abs.last ≤ 64; rw [this]; show ((min i 64 : Nat) : Int) ≤ 64; omega
   have HW : Hid _ := write_any hC 0 2 kk SV.zero (SOk.zero _ _) (by omega)
   have wi : IntKind.i64.wrap ((i : Int) + 1) = (i : Int) + 1 := by rw [IntKind.wrap_i64]; omega
   clear hC hG hA hla
   go_wp2_with fail
   refine Calls.mono HW.out ?_
   rintro e v2 ⟨x2, D2, Z2, c2, g2, e2, hr2⟩
   rw [HA.out] at e2 hr2
   have HC2 : Hid _ := c2
   have HG2 : Hid _ := HG.out.trans g2
   by_cases h64 : i < 64
   ·rw [show SV.zero.abs = SA.zero from rfl, many_more h64] at e2 hr2
    obtain rfl := hr2
    have HE2 : Hid (x2.abs = manyA (i + 1)) := e2
    have d64 : decide ((i : Int) < 64) = true := decide_eq_true (by omega)
    have g64 : decide ((64 : Int) ≤ (i : Int)) = false := decide_eq_false (by omega)
    clear c2 g2 e2 HW
    go_wp2_with fail
    go_roundw
    case rel => exact ⟨i + 1, x2, D2, Z2, by go_num, by omega, HC2.out, HG2.out, HE2.out⟩
    case measure => simp [vInt]; omega
   ·rw [show SV.zero.abs = SA.zero from rfl, many_full h64] at e2 hr2
    obtain rfl := hr2
    have HE2 : Hid (x2.abs = manyA (i + 1)) := e2
    have d64 : decide ((i : Int) < 64) = false := decide_eq_false (by omega)
    have g64 : decide ((64 : Int) ≤ (i : Int)) = true := decide_eq_true (by omega)
    clear c2 g2 e2 HW
    go_wp2_with fail
    go_roundw
    case rel => exact ⟨i + 1, x2, D2, Z2, by go_num, by omega, HC2.out, HG2.out, HE2.out⟩
    case measure => simp [vInt]; omega
  ·obtain rfl : i = 60 + r := by omega
   have hd : decide (((60 + r : Nat) : Int) < 60 + (r : Int)) = false := decide_eq_false (by omega)
   have HL : Hid _ := clen_any hC
   have hlen : x.t.length = min (60 + r) 64 := by have := congrArg (fun c => c.t.length) hA; simpa [CM.abs, many_len] using this
   rw [hlen] at HL
   have hmin := min_int (60 + (r : Int)) 64
   have emin : min (60 + (r : Int)) 64 = ((min (60 + r) 64 : Nat) : Int) := by omega
   rw [emin] at hmin
   have HK : Hid _ := ack_any hC (n := 1) ⟨by omega, by omega⟩ 3
   obtain ⟨K, hK⟩ : ∃ K, K = min (60 + r) 64 := ⟨_, rfl⟩
   have hK2 : 60 ≤ K ∧ K ≤ 64 := by omega
   rw [← hK] at HL hmin
   have HKK : Hid (K = min (60 + r) 64) := hK
   clear hC hG hA hlen emin hK
   go_wp2_with fail
   refine Calls.mono HL.out ?_
   rintro e v2 ⟨rfl, hw⟩
   rw [hw]
   clear hw v2 HL
   go_wp2_with fail
   refine Calls.mono HK.out ?_
   rintro e v3 ⟨x3, D3, Z3, c3, g3, e3, hr3⟩
   rw [HA.out, many_ack (by omega)] at e3 hr3
   obtain rfl := hr3
   have hl3 : x3.last = (K : Int) := by rw [HKK.out]; exact congrArg CA.last e3
   have ht3 : x3.t.length = K - 1 := by
    have := congrArg (fun c => c.t.length) e3
    simp [CM.abs] at this
    rw [HKK.out]
    omega
   have HR : Hid _ := read_any c3 0 1 kk SV.zero (SOk.zero _ _) (by omega)
   have HG3 : Hid _ := HG.out.trans g3
   have hb : beginA x3.abs 0 1 true kk SV.zero.abs = ({ x3.abs with last := x3.abs.last + 1, an := x3.abs.an ++ [⟨x3.abs.last + 1, 0, SA.zero⟩] }, (K : Int) + 1, 0) := by
    rw [beginA_one (by show ¬ 64 ≤ (x3.t.map OpD.abs).length; rw [List.length_map, ht3]; omega) (by rw [kk_ok]; exact may_zero) (by decide)]
    rw [show x3.abs.last = (K : Int) from hl3]
    rfl
   have HB : Hid _ := hb
   have wk : IntKind.i64.wrap ((K : Int) + 1) = (K : Int) + 1 := by rw [IntKind.wrap_i64]; omega
   clear c3 g3 e3 hl3 ht3 HK hb
   go_wp2_with fail
   refine Calls.mono HR.out ?_
   rintro e v4 ⟨x4, D4, Z4, c4, g4, e4, hr4⟩
   rw [HB.out] at hr4
   obtain rfl := hr4
   have HG4 : Hid _ := HG3.out.trans g4
   clear c4 g4 e4 HR
   go_wp2_with fail
   refine Calls.mono (awake_any _) ?_
   rintro e v5 ⟨rfl, o5⟩
   have HO5 : Hid _ := HG4.out.off.trans o5 (fun _ _ h => h)
   clear o5
   go_wp2_with fail
   go_ret
   exact ⟨rfl, HO5.out⟩
end Go.Proofs.Ytmjmgdbhmbjmaaa
