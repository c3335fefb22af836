/- The walk of HintsMany. -/
import Derived.Test.YtfhacfedklaaiaaLaw11
import Derived.Test.YtfhacfedklaaiaaArg11
namespace Go.Proofs.Ytfhacfedklaaiaa
open Go.RowKit

/-- The key of a number. -/
def kk (i : Nat) : ByteArray := strOf [97 + i % 26, 97 + i / 26]
theorem kk_tx (i : Nat) (h : i < 700) : tx (kk i) = [97 + i % 26, 97 + i / 26] := by
  refine tx_strOf (fun x hx => ?_)
  simp only [List.mem_cons, List.not_mem_nil, or_false] at hx
  omega
theorem kk_inj {i j : Nat} (hi : i < 700) (hj : j < 700) (h : kk i = kk j) : i = j := by
  have e := congrArg tx h
  rw [kk_tx i hi, kk_tx j hj] at e
  simp only [List.cons.injEq, and_true] at e
  omega
theorem kk_key (i : Nat) (h : i < 700) : keyB (kk i) = true := by
  have e : (kk i).size = 2 := by rw [← tx_len, kk_tx i h]; rfl
  simp [keyB, e]
/-- The hint of a number. -/
def mh (i : Nat) : HK := ⟨((i % 8 : Nat) : Int), ⟨kk i, zer, []⟩⟩
theorem mh_ok (i : Nat) (h : i < 700) : okH (mh i) = true := okH_iff.2 ⟨by unfold nodeOk; rw [Bool.and_eq_true, decide_eq_true_eq, decide_eq_true_eq]; show (0 : Int) ≤ ((i % 8 : Nat) : Int) ∧ ((i % 8 : Nat) : Int) < 8; omega, kk_key i h, may_zer⟩
/-- The first i hints, as far as they go in. -/
structure ManyP (i : Nat) (X : List HK) : Prop where
  len : X.length = min i 64
  all : ∀ x ∈ X, ∃ j, j < i ∧ x.k.key = kk j
theorem many_nil : ManyP 0 [] := ⟨rfl, fun x hx => by simp at hx⟩
theorem many_step {i : Nat} {X : List HK} (h : ManyP i X) (ok : OkS X) (hi : i < 700) : ManyP (i + 1) (hpR X (mh i)).x ∧ (hpR X (mh i)).ch = decide (i < 64) ∧ (hpR X (mh i)).er = (if i < 64 then 0 else 11) := by
  have hf : fndG HK.nk (mh i).nk X = none := by
    rw [fnd_none]
    intro x hx e
    obtain ⟨j, hj, hk⟩ := h.all x hx
    have e2 : x.k.key = kk i := congrArg Prod.snd e
    have := kk_inj (by omega) hi (hk.symm.trans e2)
    omega
  by_cases hn : i < 64
  · have e := hpR_new (mh_ok i hi) hf (by rw [h.len]; omega)
    rw [e, if_pos hn, decide_eq_true hn]
    refine ⟨⟨?_, fun x hx => ?_⟩, rfl, rfl⟩
    · show (putG HK.nk (mh i) X).length = _
      rw [put_len1 ok.sor hf, h.len]
      omega
    · rcases (mem_putG HK.nk).1 hx with rfl | ⟨hx, -⟩
      · exact ⟨i, by omega, rfl⟩
      · obtain ⟨j, hj, hk⟩ := h.all x hx
        exact ⟨j, by omega, hk⟩
  · have e := hpR_full (mh_ok i hi) hf (by rw [h.len]; omega)
    rw [e, if_neg hn, decide_eq_false hn]
    refine ⟨⟨?_, fun x hx => ?_⟩, rfl, rfl⟩
    · show X.length = _
      rw [h.len]
      omega
    · obtain ⟨j, hj, hk⟩ := h.all x hx
      exact ⟨j, by omega, hk⟩
set_option maxRecDepth 100000 in
set_option maxHeartbeats 2000000 in
theorem many_walk (n : Int) (w : World) (_ : -9223372036854775808 ≤ n ∧ n ≤ 9223372036854775807) : Calls Try.prog 4 #[.int .i64 n] w fun e w' => e = .returned (.bool true) ∧ Off (fun _ => False) w w' := by
  obtain ⟨k, ek, hk⟩ : ∃ k : Nat, (IntKind.u64.wrap n).tmod 10 = (k : Int) ∧ k < 10 := by
    have h0 : 0 ≤ IntKind.u64.wrap n := by rw [IntKind.wrap_u64]; omega
    refine ⟨((IntKind.u64.wrap n).tmod 10).toNat, ?_, ?_⟩
    · have := Int.tmod_nonneg 10 h0
      omega
    · have := Int.tmod_lt_of_pos (IntKind.u64.wrap n) (show (0 : Int) < 10 by omega)
      have := Int.tmod_nonneg 10 h0
      omega
  go_enter Try.func4, Try.ntmps4
  go_wp2_with fail
  refine (hnew_any _).mono ?_
  rintro e w2 ⟨p, rfl, hs, hp, o2⟩
  have HP : Hid (w.heap.size ≤ p) := hp
  have HS0 : Hid _ := hs
  have HO0 : Hid _ := o2
  clear hs hp o2
  go_wp2_with fail
  go_loopw [14] (fun y wr => ∃ (i : Nat) (D : Nat → Prop) (xs : List H), y = .int .i64 (i : Int) ∧ i ≤ 60 + k ∧ ManyP i (absH xs) ∧ HSt D p xs wr ∧ (∀ c, D c → w.heap.size ≤ c) ∧ Off (fun _ => False) w wr) (fun y _ => ((60 + k : Nat) - intOf y).toNat)
  case atStart => exact ⟨0, _, [], rfl, by omega, many_nil, HS0.out, fun c hc => by rw [hc]; exact HP.out, HO0.out⟩
  case round =>
    obtain ⟨i, D, xs, rfl, hn, hm, hs, hd, O⟩ := hrel
    have HM : Hid _ := hm
    have HS : Hid _ := hs
    have HD : Hid _ := hd
    have HO : Hid _ := O
    clear hm hs hd O
    by_cases hlt : i < 60 + k
    · have e1 : decide ((i : Int) < 60 + (k : Int)) = true := decide_eq_true (by omega)
      have e2 : decide (i < 60 + k) = true := decide_eq_true hlt
      obtain ⟨r8, HR8, hr8⟩ : ∃ r8 : Nat, Hid (r8 = i % 8) ∧ (i : Int).tmod 8 = (r8 : Int) := ⟨i % 8, rfl, by rw [Int.tmod_eq_emod_of_nonneg (by omega)]; omega⟩
      obtain ⟨ra, hra, hra2⟩ : ∃ ra : Nat, Hid (ra = i % 26) ∧ (i : Int).tmod 26 = (ra : Int) := ⟨i % 26, rfl, by rw [Int.tmod_eq_emod_of_nonneg (by omega)]; omega⟩
      obtain ⟨rb, hrb, hrb2⟩ : ∃ rb : Nat, Hid (rb = i / 26) ∧ (i : Int).tdiv 26 = (rb : Int) := ⟨i / 26, rfl, by rw [Int.tdiv_eq_ediv_of_nonneg (by omega)]; omega⟩
      have hra3 : ra < 26 := by have := hra.out; omega
      have hrb3 : rb ≤ 10 := by have := hrb.out; omega
      have SR : Src (wr.alloc (.cells #[.int .u8 (97 + (ra : Int)), .int .u8 (97 + (rb : Int))] 5)) (some ⟨wr.heap.size, 0, none⟩) 2 [97 + ra, 97 + rb] := by
        refine ⟨.inr ⟨_, rfl, fun j u hj => ?_⟩⟩
        rw [add_lit, Nat.zero_add, (Cel.new wr 5 #[.int .u8 (97 + (ra : Int)), .int .u8 (97 + (rb : Int))]).cell j, ← hj]
        simp [vl]
      have hcv : (convert 56 9 (.slice (some ⟨wr.heap.size, 0, none⟩) 2 2)).run Try.prog (wr.alloc (.cells #[.int .u8 (97 + (ra : Int)), .int .u8 (97 + (rb : Int))] 5)) = .ok (.string (strOf [97 + ra, 97 + rb])) (wr.alloc (.cells #[.int .u8 (97 + (ra : Int)), .int .u8 (97 + (rb : Int))] 5)) := conv_src SR
      generalize hky : strOf [97 + ra, 97 + rb] = ky at hcv
      have HKY : Hid (ky = kk i) := by
        show _ = _
        rw [← hky, hra.out, hrb.out]
        rfl
      have HOB : Hid (Off (fun _ => False) wr (wr.alloc (.cells #[.int .u8 (97 + (ra : Int)), .int .u8 (97 + (rb : Int))] 5))) := (Off.refl _ wr).alloc _
      clear SR hky
      go_wp2_with fail
      obtain ⟨h, hh⟩ : ∃ h : H, h = ⟨(r8 : Int), ⟨ky, zer, none, 0, []⟩⟩ := ⟨_, rfl⟩
      have hab : h.abs = mh i := by rw [hh]; show (⟨(r8 : Int), ⟨ky, zer, []⟩⟩ : HK) = _; rw [HKY.out, HR8.out]; rfl
      have hcall := hput_any D p xs h (wr.alloc (.cells #[.int .u8 (97 + (ra : Int)), .int .u8 (97 + (rb : Int))] 5)) (HS.out.free HOB.out) (by rw [hh]; exact Row.nil _ none 0 (by omega)) (by rw [hh]; exact nrm_zer)
      obtain ⟨hs1, hs2, hs3⟩ := many_step HM.out HS.out.ok (show i < 700 by omega)
      rw [hab, hs2, hs3, hh] at hcall
      refine hcall.mono ?_
      clear hcall
      rintro e w3 ⟨rfl, D', xs', hs', hx', o3, hd'⟩
      have HM3 : Hid (ManyP (i + 1) (absH xs')) := by rw [hx']; exact hs1
      have HS3 : Hid _ := hs'
      have HD3 : Hid (∀ c, D' c → w.heap.size ≤ c) := fun c hc => by rcases hd' c hc with k | k; exact HD.out c k; have h1 := HOB.out.size; have h2 := HO.out.size; omega
      have HO3 : Hid (Off (fun _ => False) w w3) := (HO.out.trans HOB.out (fun _ _ h => h)).trans o3 (fun i hi e => by have := HD.out i e; omega)
      clear hs1 hs2 hs3 hs' hx' hd' o3 hab hh h
      by_cases hi : i < 64
      · rw [if_pos hi]
        have d1 : decide ((i : Int) < 64) = true := decide_eq_true (by omega)
        have d2 : decide (i < 64) = true := decide_eq_true hi
        go_wp2_with fail
        go_roundw
        case rel => exact ⟨i + 1, D', xs', by go_num, by omega, HM3.out, HS3.out, HD3.out, HO3.out⟩
        case measure => simp [intOf]; omega
      · rw [if_neg hi]
        have d1 : decide ((i : Int) < 64) = false := decide_eq_false (by omega)
        have d2 : decide (i < 64) = false := decide_eq_false hi
        go_wp2_with fail
        go_roundw
        case rel => exact ⟨i + 1, D', xs', by go_num, by omega, HM3.out, HS3.out, HD3.out, HO3.out⟩
        case measure => simp [intOf]; omega
    · obtain rfl : i = 60 + k := by omega
      have e1 : decide (((60 + k : Nat) : Int) < 60 + (k : Int)) = false := decide_eq_false (by omega)
      have e1' : decide ((60 : Int) + (k : Int) < 60 + (k : Int)) = false := decide_eq_false (by omega)
      have HL : Hid (xs.length = min (60 + k) 64) := by rw [← absH_len]; exact HM.out.len
      have hmn : ∀ ts t W, (Builtin.min_ ts t #[.int .i64 (60 + (k : Int)), .int .i64 64]).run Try.prog W = .ok (.int .i64 (xs.length : Int)) W := fun ts ty W => by
        rw [run_min_int2, HL.out]
        congr 2
        split <;> omega
      have hteq : ((xs.length : Int) == (xs.length : Int)) = true := by simp
      go_wp2_with fail
      refine (hlen_any D p xs _ HS.out).mono ?_
      rintro e w6 ⟨rfl, hw6⟩
      rw [hw6]
      clear hw6 w6
      go_wp2_with fail
      refine (awake_any _).mono ?_
      rintro e va ⟨rfl, oa⟩
      go_wp2_with fail
      go_ret
      exact ⟨rfl, HO.out.trans oa (fun _ _ h => h)⟩
end Go.Proofs.Ytfhacfedklaaiaa
