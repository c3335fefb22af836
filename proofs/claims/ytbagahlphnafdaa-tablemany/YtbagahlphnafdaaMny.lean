/- The walk of TableMany. -/
import Derived.Test.YtbagahlphnafdaaJns
import Derived.Test.YtbagahlphnafdaaArg10
import Derived.Deep.Cut
namespace Go.Proofs.Ytbagahlphnafdaa
open Go.RowKit

/-- The key of a number. -/
def kk (i : Nat) : ByteArray := strOf [97 + i % 26, 97 + i / 26]
theorem kk_tx (i : Nat) (h : i < 700) : tx (kk i) = [97 + i % 26, 97 + i / 26] := by
  refine tx_strOf (fun x hx => ?_)
  simp only [List.mem_cons, List.not_mem_nil, or_false] at hx
  omega
theorem kk_inj {i j : Nat} (hi : i < 700) (hj : j < 700) (h : kk i = kk j) : i = j := by
  have e := congrArg tx h
  rw [kk_tx i hi, kk_tx j hj] at e
  simp only [List.cons.injEq, and_true] at e
  omega
theorem kk_key (i : Nat) (h : i < 700) : keyB (kk i) = true := by
  have e : (kk i).size = 2 := by rw [← tx_len, kk_tx i h]; rfl
  simp [keyB, e]
theorem kk_zero : kk 0 = ⟨#[97, 97]⟩ := by
  apply tx_inj
  rw [kk_tx 0 (by omega)]
  rfl
theorem may_z : mayS zer [] = true := may_yes may_zer
theorem joinz : joinV zer zer [] [] = zer ∧ joinL zer zer [] [] = [] := by
  refine ⟨?_, ?_⟩
  · unfold joinV
    rw [if_pos ⟨may_z, may_z⟩, maxz]
  · unfold joinL
    rw [if_pos ⟨may_z, may_z⟩]
    rfl
/-- The first i keys, as far as they go in. -/
structure ManyP (i : Nat) (X : List K) : Prop where
  len : X.length = min i 256
  all : ∀ x ∈ X, x.f = zer ∧ x.l = [] ∧ ∃ j, j < min i 256 ∧ x.key = kk j
  has : ∀ j, j < min i 256 → ∃ x ∈ X, x.key = kk j
theorem many_nil : ManyP 0 [] := ⟨rfl, fun x hx => by simp at hx, fun j hj => by simp at hj⟩
theorem many_fnd {i : Nat} {X : List K} (h : ManyP i X) (hi : i < 700) : fndG K.key (kk i) X = none := by
  rw [fnd_none]
  intro x hx e
  obtain ⟨-, -, j, hj, hk⟩ := h.all x hx
  have := kk_inj (by omega) hi (hk.symm.trans e)
  omega
theorem many_step {i : Nat} {X : List K} (h : ManyP i X) (hs : Sor K.key X) (hi : i < 700) : ManyP (i + 1) (joinR X (kk i) zer []).x ∧ (joinR X (kk i) zer []).er = (if i < 256 then 0 else 11) := by
  have hm : (keyB (kk i) && mayS zer []) = true := by rw [kk_key i hi, may_z]; rfl
  have hf := many_fnd h hi
  by_cases hn : i < 256
  · have e := joinR_new hm hf (by rw [h.len]; omega)
    rw [joinz.1, joinz.2] at e
    rw [e, if_pos hn]
    refine ⟨⟨?_, fun x hx => ?_, fun j hj => ?_⟩, rfl⟩
    · rw [len_putG K.key hs]
      show (if (fndG K.key (kk i) X).isSome = true then _ else _) = _
      rw [hf, if_neg (by simp), h.len]
      omega
    · rcases (mem_putG K.key).1 hx with rfl | ⟨hx, -⟩
      · exact ⟨rfl, rfl, i, by omega, rfl⟩
      · obtain ⟨h1, h2, j, hj, hk⟩ := h.all x hx
        exact ⟨h1, h2, j, by omega, hk⟩
    · by_cases e2 : j = i
      · subst e2
        exact ⟨_, (mem_putG K.key).2 (.inl rfl), rfl⟩
      · obtain ⟨x, hx, hk⟩ := h.has j (by omega)
        exact ⟨x, (mem_putG K.key).2 (.inr ⟨hx, fun e3 => e2 (kk_inj (by omega) hi (hk.symm.trans e3))⟩), hk⟩
  · have e := joinR_full hm hf (by rw [h.len]; omega)
    rw [e, if_neg hn]
    have hmin : min (i + 1) 256 = min i 256 := by omega
    exact ⟨⟨by rw [h.len, hmin], fun x hx => by rw [hmin]; exact h.all x hx, fun j hj => h.has j (by omega)⟩, rfl⟩
theorem many_end {i : Nat} {X : List K} (h : ManyP i X) (hs : Sor K.key X) (hi : 0 < i) : (joinR X ⟨#[97, 97]⟩ zer []).er = 0 ∧ (joinR X ⟨#[97, 97]⟩ zer []).sm = true ∧ (joinR X ⟨#[97, 97]⟩ zer []).x.length = min i 256 := by
  rw [← kk_zero]
  have hm : (keyB (kk 0) && mayS zer []) = true := by rw [kk_key 0 (by omega), may_z]; rfl
  obtain ⟨x, hx, hk⟩ := h.has 0 (by omega)
  have hf : fndG K.key (kk 0) X = some x := (fnd_some K.key hs).2 ⟨hx, hk⟩
  have e := joinR_old hm hf
  obtain ⟨h1, h2, -⟩ := h.all x hx
  rw [h1, h2, joinz.1, joinz.2] at e
  rw [e]
  refine ⟨rfl, (show sameS zer zer [] [] = true from same_refl _ _), ?_⟩
  show (putG K.key ⟨kk 0, zer, []⟩ X).length = _
  rw [len_putG K.key hs]
  show (if (fndG K.key (kk 0) X).isSome = true then _ else _) = _
  rw [hf]
  exact h.len
set_option maxRecDepth 100000 in
set_option maxHeartbeats 2000000 in
theorem many_walk (n : Int) (w : World) (_ : -9223372036854775808 ≤ n ∧ n ≤ 9223372036854775807) : Calls Try.prog 4 #[.int .i64 n] w fun e w' => e = .returned (.bool true) ∧ Off (fun _ => False) w w' := by
  obtain ⟨k, ek, hk⟩ : ∃ k : Nat, (IntKind.u64.wrap n).tmod 12 = (k : Int) ∧ k < 12 := by
    have h0 : 0 ≤ IntKind.u64.wrap n := by rw [IntKind.wrap_u64]; omega
    refine ⟨((IntKind.u64.wrap n).tmod 12).toNat, ?_, ?_⟩
    · have := Int.tmod_nonneg 12 h0
      omega
    · have := Int.tmod_lt_of_pos (IntKind.u64.wrap n) (show (0 : Int) < 12 by omega)
      have := Int.tmod_nonneg 12 h0
      omega
  go_enter Try.func4, Try.ntmps4
  go_wp2_with fail
  refine (tnew_any _).mono ?_
  rintro e w2 ⟨p, b, rfl, tb, hp, hb, o2⟩
  have HB : Hid (w.heap.size ≤ b) := hb
  have HT0 : Hid _ := tb
  have HO0 : Hid _ := o2
  clear tb hp hb o2
  go_wp2_with fail
  go_loopw [18] (fun y wr => ∃ (i : Nat) (t : List E), y = .int .i64 (i : Int) ∧ i ≤ 250 + k ∧ ManyP i (absE t) ∧ Tab p b t wr ∧ Off (fun _ => False) w wr) (fun y _ => ((250 + k : Nat) - intOf y).toNat)
  case atStart => exact ⟨0, [], rfl, by omega, many_nil, HT0.out, HO0.out⟩
  case round =>
    obtain ⟨i, t, rfl, hn, hm, ht, O⟩ := hrel
    have HM : Hid _ := hm
    have HT : Hid _ := ht
    have HO : Hid _ := O
    clear hm ht O
    by_cases hlt : i < 250 + k
    · have e1 : decide ((i : Int) < 250 + (k : Int)) = true := decide_eq_true (by omega)
      have e2 : decide (i < 250 + k) = true := decide_eq_true hlt
      obtain ⟨ra, hra, hra2⟩ : ∃ ra : Nat, Hid (ra = i % 26) ∧ (i : Int).tmod 26 = (ra : Int) := ⟨i % 26, rfl, by rw [Int.tmod_eq_emod_of_nonneg (by omega)]; omega⟩
      obtain ⟨rb, hrb, hrb2⟩ : ∃ rb : Nat, Hid (rb = i / 26) ∧ (i : Int).tdiv 26 = (rb : Int) := ⟨i / 26, rfl, by rw [Int.tdiv_eq_ediv_of_nonneg (by omega)]; omega⟩
      have hra3 : ra < 26 := by have := hra.out; omega
      have hrb3 : rb ≤ 10 := by have := hrb.out; omega
      have SR : Src (wr.alloc (.cells #[.int .u8 (97 + (ra : Int)), .int .u8 (97 + (rb : Int))] 5)) (some ⟨wr.heap.size, 0, none⟩) 2 [97 + ra, 97 + rb] := by
        refine ⟨.inr ⟨_, rfl, fun j u hj => ?_⟩⟩
        rw [add_lit, Nat.zero_add, (Cel.new wr 5 #[.int .u8 (97 + (ra : Int)), .int .u8 (97 + (rb : Int))]).cell j, ← hj]
        simp [vl]
      have hcv : (convert 51 9 (.slice (some ⟨wr.heap.size, 0, none⟩) 2 2)).run Try.prog (wr.alloc (.cells #[.int .u8 (97 + (ra : Int)), .int .u8 (97 + (rb : Int))] 5)) = .ok (.string (strOf [97 + ra, 97 + rb])) (wr.alloc (.cells #[.int .u8 (97 + (ra : Int)), .int .u8 (97 + (rb : Int))] 5)) := conv_src SR
      generalize hky : strOf [97 + ra, 97 + rb] = ky at hcv
      have HKY : Hid (ky = kk i) := by
        show _ = _
        rw [← hky, hra.out, hrb.out]
        rfl
      have HOB : Hid (Off (fun _ => False) wr (wr.alloc (.cells #[.int .u8 (97 + (ra : Int)), .int .u8 (97 + (rb : Int))] 5))) := (Off.refl _ wr).alloc _
      clear SR hky
      go_wp2_with fail
      refine (tjoin_any p b t ky zer none 0 [] _ (HT.out.free HOB.out) (Row.nil _ none 0 (by omega))).mono ?_
      rintro e w3 ⟨g, a', c', l', sm, er, t', rfl, hj, -, -, tb, o3⟩
      have hst := many_step HM.out (abs_sor.2 HT.out.sor) (show i < 700 by omega)
      rw [← HKY.out] at hst
      have ej : joinR (absE t) ky zer [] = ⟨absE t', g, cont l', sm, er⟩ := hj
      rw [ej] at hst
      have HM3 : Hid (ManyP (i + 1) (absE t')) := hst.1
      have her : er = if i < 256 then 0 else 11 := hst.2
      have HT3 : Hid _ := tb
      have HO3 : Hid (Off (fun _ => False) w w3) := (HO.out.trans HOB.out (fun _ _ h => h)).trans o3 (fun i hi e => by have := HB.out; omega)
      clear hj hst ej tb o3
      go_upto_region 7 with fail
      have Cq5 := Cel.new w3 35 #[.int .i64 (g 0), .int .i64 (g 1), .int .i64 (g 2), .int .i64 (g 3), .int .i64 (g 4), .int .i64 (g 5), .int .i64 (g 6), .int .i64 (g 7), .slice a' l'.length c']
      have OA : Off (fun _ => False) w3 (w3.alloc (.cells #[.int .i64 (g 0), .int .i64 (g 1), .int .i64 (g 2), .int .i64 (g 3), .int .i64 (g 4), .int .i64 (g 5), .int .i64 (g 6), .int .i64 (g 7), .slice a' l'.length c'] 35)) := (Off.refl _ w3).alloc _
      generalize hq : w3.heap.size = q5 at Cq5 ⊢
      generalize hv : w3.alloc (.cells #[.int .i64 (g 0), .int .i64 (g 1), .int .i64 (g 2), .int .i64 (g 3), .int .i64 (g 4), .int .i64 (g 5), .int .i64 (g 6), .int .i64 (g 7), .slice a' l'.length c'] 35) = V5 at Cq5 OA ⊢
      clear hq hv
      have HT5 : Hid _ := HT3.out.free OA
      have HO5 : Hid _ := HO3.out.trans OA (fun _ _ h => h)
      clear Cq5 OA
      by_cases hi : i < 256
      · rw [if_pos hi] at her
        subst her
        have d1 : decide ((i : Int) < 256) = true := decide_eq_true (by omega)
        have d2 : decide (i < 256) = true := decide_eq_true hi
        go_wp2_with fail
        go_roundw
        case rel => exact ⟨i + 1, t', by go_num, by omega, HM3.out, HT5.out, HO5.out⟩
        case measure => simp [intOf]; omega
      · rw [if_neg hi] at her
        subst her
        have d1 : decide ((i : Int) < 256) = false := decide_eq_false (by omega)
        have d2 : decide (i < 256) = false := decide_eq_false hi
        go_wp2_with fail
        go_roundw
        case rel => exact ⟨i + 1, t', by go_num, by omega, HM3.out, HT5.out, HO5.out⟩
        case measure => simp [intOf]; omega
    · obtain rfl : i = 250 + k := by omega
      have e1 : decide (((250 + k : Nat) : Int) < 250 + (k : Int)) = false := decide_eq_false (by omega)
      have e1' : decide ((250 : Int) + (k : Int) < 250 + (k : Int)) = false := decide_eq_false (by omega)
      go_wp2_with fail
      refine (tjoin_any p b t ⟨#[97, 97]⟩ zer none 0 [] _ HT.out (Row.nil _ none 0 (by omega))).mono ?_
      rintro e w3 ⟨g, a', c', l', sm, er, t', rfl, hj, -, -, tb, o3⟩
      have hst := many_end HM.out (abs_sor.2 HT.out.sor) (show 0 < 250 + k by omega)
      have ej : joinR (absE t) ⟨#[97, 97]⟩ zer [] = ⟨absE t', g, cont l', sm, er⟩ := hj
      rw [ej] at hst
      obtain ⟨h1, h2, h3⟩ := hst
      obtain rfl : er = 0 := h1
      obtain rfl : sm = true := h2
      have HL : Hid (t'.length = min (250 + k) 256) := by rw [← absE_len]; exact h3
      have HT3 : Hid _ := tb
      have HO3 : Hid (Off (fun _ => False) w w3) := HO.out.trans o3 (fun i hi e => by have := HB.out; omega)
      clear hj ej h3 tb o3
      go_upto_region 11 with fail
      have Cq5 := Cel.new w3 35 #[.int .i64 (g 0), .int .i64 (g 1), .int .i64 (g 2), .int .i64 (g 3), .int .i64 (g 4), .int .i64 (g 5), .int .i64 (g 6), .int .i64 (g 7), .slice a' l'.length c']
      have OA : Off (fun _ => False) w3 (w3.alloc (.cells #[.int .i64 (g 0), .int .i64 (g 1), .int .i64 (g 2), .int .i64 (g 3), .int .i64 (g 4), .int .i64 (g 5), .int .i64 (g 6), .int .i64 (g 7), .slice a' l'.length c'] 35)) := (Off.refl _ w3).alloc _
      generalize hq : w3.heap.size = q5 at Cq5 ⊢
      generalize hv : w3.alloc (.cells #[.int .i64 (g 0), .int .i64 (g 1), .int .i64 (g 2), .int .i64 (g 3), .int .i64 (g 4), .int .i64 (g 5), .int .i64 (g 6), .int .i64 (g 7), .slice a' l'.length c'] 35) = V5 at Cq5 OA ⊢
      clear hq hv
      have HT5 : Hid _ := HT3.out.free OA
      have HO5 : Hid _ := HO3.out.trans OA (fun _ _ h => h)
      clear Cq5 OA
      have hmn : ∀ ts t W, (Builtin.min_ ts t #[.int .i64 (250 + (k : Int)), .int .i64 256]).run Try.prog W = .ok (.int .i64 (t'.length : Int)) W := fun ts ty W => by
        rw [run_min_int2, HL.out]
        congr 2
        split <;> omega
      have hteq : ((t'.length : Int) == (t'.length : Int)) = true := by simp
      go_wp2_with fail
      refine (tlen_any p b t' _ HT5.out).mono ?_
      rintro e w6 ⟨rfl, hw6⟩
      rw [hw6]
      clear hw6 w6
      go_wp2_with fail
      refine (awake_any _).mono ?_
      rintro e va ⟨rfl, oa⟩
      go_wp2_with fail
      go_ret
      exact ⟨rfl, HO5.out.trans oa (fun _ _ h => h)⟩
end Go.Proofs.Ytbagahlphnafdaa
