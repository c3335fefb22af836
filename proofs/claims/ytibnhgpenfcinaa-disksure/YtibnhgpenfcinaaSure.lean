/- The walk of DiskSure. -/
import Derived.Test.YtibnhgpenfcinaaTel
namespace Go.Proofs.Ytibnhgpenfcinaa
open Go.RowKit

theorem strOf_size (a : List Nat) : (strOf a).size = a.length := by simp [strOf, strOfNums_size]
theorem strOf_app (a b : List Nat) : strOf a ++ strOf b = strOf (a ++ b) := by
  apply ByteArray.ext
  simp [strOf, strOfNums]
theorem strOf_take (a : List Nat) (k : Nat) (hk : k ≤ a.length) (W : World) : (Instr.slice 9 (.string (strOf a)) none (some (.int .i64 (k : Int))) none).run Try.prog W = .ok (.string (strOf (a.take k))) W := by
  have hz := strOf_size a
  have h := run_slice_string_h (P := Try.prog) (t := 9) (w := W) (s := strOf a) Try.underlying9 .i64 (k : Int) (by omega) (by omega)
  rw [h]
  congr 2
  apply ByteArray.ext
  simp [strOf, strOfNums]

theorem keep_cell {w w' : World} {b o : Nat} {v : Value} (hw : Off (fun _ => False) w w') (h : w.cell? ⟨b, o, none⟩ = some v) : w'.cell? ⟨b, o, none⟩ = some v := by
  rw [← h]
  exact World.cell?_of_block (a := ⟨b, o, none⟩) (hw.block b (cell_lt h) (fun h => h))

set_option maxRecDepth 100000 in
set_option maxHeartbeats 2000000 in
theorem sure_walk (ta : Option Addr) (ca : Nat) (xa : List Nat) (tb : Option Addr) (cb : Nat) (xb : List Nat) (tc : Option Addr) (cc : Nat) (xc : List Nat) (tp : Option Addr) (np cp : Nat) (ps : List Int) (w : World)
    (ha : ArgB w ta xa.length ca xa) (hb : ArgB w tb xb.length cb xb) (hc : ArgB w tc xc.length cc xc) (hp : IsRow .i64 w tp np cp ps) :
    Calls Try.prog 5 #[.slice ta xa.length ca, .slice tb xb.length cb, .slice tc xc.length cc, .slice tp np cp] w fun e w' => e = .returned (.bool true) ∧ Off (fun _ => False) w w' := by
  have HA : Hid _ := ha.src
  have HB : Hid _ := hb.src
  have HC : Hid _ := hc.src
  have HP : Hid _ := hp
  have la := ha.bound
  have lb := hb.bound
  have lc := hc.bound
  have lp := hp.len
  clear ha hb hc hp
  have hro : roomOf 1000000 = 1000000 := rfl
  by_cases h1 : 100000 < xa.length + xb.length + xc.length
  · have d1 : decide ((100000 : Int) < (xa.length : Int) + (xb.length : Int) + (xc.length : Int)) = true := by simp; omega
    go_enter Try.func5, Try.ntmps5
    go_wp2_with fail
    refine (anew_any 1000000 (Off.refl _ w)).mono ?_
    rintro e v1 ⟨b, rfl, A, -, -⟩
    go_wp2_with fail
    refine (awake_any _).mono ?_
    rintro e v ⟨rfl, o⟩
    go_wp2_with fail
    go_ret
    exact ⟨rfl, A.off.trans o (fun _ _ h => h)⟩
  have d1 : decide ((100000 : Int) < (xa.length : Int) + (xb.length : Int) + (xc.length : Int)) = false := by simp; omega
  obtain ⟨e1, l1⟩ := app_yes (m := 1000000) (bs := []) (xs := xa) (by simp; omega)
  obtain ⟨e2, l2⟩ := app_yes (m := 1000000) (bs := xa) (xs := xb) (by omega)
  obtain ⟨e3, l3⟩ := app_yes (m := 1000000) (bs := xa ++ xb) (xs := xc) (by simp; omega)
  rw [List.nil_append] at l1
  go_enter Try.func5, Try.ntmps5
  go_wp2_with fail
  refine (anew_any 1000000 (Off.refl _ w)).mono ?_
  rintro e v1 ⟨b, rfl, A, -, -⟩
  rw [hro] at A
  go_wp2_with fail
  refine (aappend_any A ta ca xa (HA.out.off A.off (fun _ _ _ h => h)) (by omega)).mono ?_
  rintro e v2 ⟨rfl, A2⟩
  rw [e1] at *
  rw [l1] at A2
  clear A
  go_wp2_with fail
  refine (async_any A2).mono ?_
  rintro e v3 ⟨rfl, A3⟩
  clear A2
  go_wp2_with fail
  refine (aappend_any A3 tb cb xb (HB.out.off A3.off (fun _ _ _ h => h)) (by omega)).mono ?_
  rintro e v4 ⟨rfl, A4⟩
  rw [e2] at *
  rw [l2] at A4
  clear A3
  go_wp2_with fail
  refine (aappend_any A4 tc cc xc (HC.out.off A4.off (fun _ _ _ h => h)) (by omega)).mono ?_
  rintro e v5 ⟨rfl, A5⟩
  rw [e3] at *
  rw [l3] at A5
  clear A4 e1 l1 e2 l2 e3 l3
  have ca1 := conv_src (HA.out.off A5.off (fun _ _ _ h => h))
  have ca2 := conv_src (HB.out.off A5.off (fun _ _ _ h => h))
  have ca3 := conv_src (HC.out.off A5.off (fun _ _ _ h => h))
  have s1 := strOf_app xa xb
  have s2 := strOf_app (xa ++ xb) xc
  have hal : (xa ++ xb ++ xc).length ≤ 100000 := by simp; omega
  have hxa : xa.length ≤ (xa ++ xb ++ xc).length := by rw [List.length_append, List.length_append]; omega
  generalize hxx : xa ++ xb ++ xc = al at A5 s2 hal hxa
  clear hxx
  have z1 := strOf_size xa
  have z2 := strOf_size xb
  have z3 := strOf_size xc
  have z4 : (strOf (xa ++ xb)).size = xa.length + xb.length := by rw [strOf_size, List.length_append]
  have z5 : ¬ (xa.length + xb.length > 9223372036854775807) := by omega
  have z6 : ¬ (xa.length + xb.length + xc.length > 9223372036854775807) := by omega
  have sz := strOf_size al
  have HAT : Hid _ := A5
  clear A5
  go_wp2_with fail
  clear ca1 ca2 ca3 s1 s2 d1 h1 z1 z2 z3 z4 z5 z6
  go_loopw [72, 11] (fun y z wr => ∃ (i L s : Nat), y = .int .i64 (i : Int) ∧ z = .int .i64 (L : Int) ∧ i ≤ np ∧ i ≤ 6 ∧ L ≤ al.length ∧ Att w wr b 1000000 (al.take L) s ∧ xa.length ≤ s ∧ (0 < i → s = L)) (fun y _ _ => (np - intOf y).toNat)
  case atStart => exact ⟨0, al.length, xa.length, rfl, by first | rfl | rw [sz], by omega, by omega, Nat.le_refl _, by rw [List.take_length]; exact HAT.out, Nat.le_refl _, fun h => by omega⟩
  case round =>
    clear HAT
    obtain ⟨i, L, s, rfl, rfl, hi, hi6, hL, A, hs, hsL⟩ := hrel
    by_cases hin : i < np
    · have t1 : decide ((i : Int) < (np : Int)) = true := decide_eq_true (by omega)
      have t1' : decide (i < np) = true := decide_eq_true (by omega)
      obtain ⟨pb, poff, rfl, hpb, hcell⟩ := IsRow.cells HP.out i hin
      replace hcell := keep_cell A.off hcell
      by_cases h6 : i < 6
      · have t2 : decide (6 ≤ (i : Int)) = false := decide_eq_false (by omega)
        obtain ⟨p, hpp⟩ : ∃ p, p = ps.getD i 0 := ⟨_, rfl⟩
        rw [← hpp] at hcell
        clear hpp
        go_wp2_with fail
        refine (acrash_any A p).mono ?_
        rintro e v6 ⟨rfl, A6⟩
        have hlen : (al.take L).length = L := by simp; omega
        rw [hlen] at A6
        have hle := keepN_le (n := L) (s := s) (by have := A.su; omega) p
        have hge := keepN_ge L s p
        have heq : 0 < i → keepN L s p = L := fun h => by have := hsL h; omega
        rw [List.take_take, Nat.min_eq_left hle] at A6
        generalize keepN L s p = K at A6 hle hge heq
        clear A hcell
        go_wp2_with fail
        refine (abytes_any A6).mono ?_
        rintro e v7 ⟨t7, c7, rfl, own, -, A7, -⟩
        have hcs := conv_src own.src
        have hlk : (al.take K).length = K := by simp; omega
        rw [hlk] at hcs ⊢
        have szk : (strOf (al.take K)).size = K := by rw [strOf_size, hlk]
        have hsl := strOf_take al K (by omega)
        have u1 : decide ((K : Int) < (xa.length : Int)) = false := decide_eq_false (by omega)
        have u2 : decide ((L : Int) < (K : Int)) = false := decide_eq_false (by omega)
        clear A6 own
        by_cases h0 : 0 < i
        · have u3 : decide ((0 : Int) < (i : Int)) = true := decide_eq_true (by omega)
          have hKL := heq h0
          subst hKL
          go_wp2_with fail
          go_roundw
          case rel => exact ⟨i + 1, K, K, by go_num, by first | rfl | rw [szk], by omega, by omega, by omega, A7, by omega, fun _ => rfl⟩
          case measure => simp [intOf]; omega
        · have u3 : decide ((0 : Int) < (i : Int)) = false := decide_eq_false (by omega)
          go_wp2_with fail
          go_roundw
          case rel => exact ⟨i + 1, K, K, by go_num, by first | rfl | rw [szk], by omega, by omega, by omega, A7, by omega, fun _ => rfl⟩
          case measure => simp [intOf]; omega
      · have t2 : decide (6 ≤ (i : Int)) = true := decide_eq_true (by omega)
        go_wp2_with fail
        refine (awake_any _).mono ?_
        rintro e v ⟨rfl, o⟩
        go_wp2_with fail
        go_ret
        exact ⟨rfl, A.off.trans o (fun _ _ h => h)⟩
    · have t1 : decide ((i : Int) < (np : Int)) = false := decide_eq_false (by omega)
      have t1' : decide (i < np) = false := decide_eq_false (by omega)
      go_wp2_with fail
      refine (awake_any _).mono ?_
      rintro e v ⟨rfl, o⟩
      go_wp2_with fail
      go_ret
      exact ⟨rfl, A.off.trans o (fun _ _ h => h)⟩
end Go.Proofs.Ytibnhgpenfcinaa
