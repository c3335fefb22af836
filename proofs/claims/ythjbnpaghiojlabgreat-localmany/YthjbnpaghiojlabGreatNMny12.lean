/- Items of several texts. -/
import Derived.Test.YthjbnpaghiojlabGreatNIdp12
namespace Go.Proofs.YthjbnpaghiojlabGreat
open Go.RowKit
theorem tx_len (s : ByteArray) : (tx s).length = s.size := by
  unfold tx
  rw [List.length_map, Array.length_toList]
  rfl
theorem tx_strOf {bs : List Nat} (h : ∀ x ∈ bs, x < 256) : tx (strOf bs) = bs := by
  have e : tx (strOf bs) = bs.map fun b => (UInt8.ofNat (((b : Nat) : Int).toNat)).toNat := by
    simp [tx, strOf, strOfNums, Function.comp_def]
  rw [e]
  conv => rhs; rw [← List.map_id bs]
  apply List.map_congr_left
  intro x hx
  have := h x hx
  simp
  omega
/-- A call of numbers that are numbers. -/
structure CP (x : C) : Prop where
  ok : COk x
  rng : ∀ y ∈ cont x.l, Rng y
theorem Cas.cp {w : World} {a : Option Addr} {cap : Nat} {cs : List C} (h : Cas w a cap cs) : ∀ x ∈ cs, CP x := fun x hx => by
  obtain ⟨i, hi⟩ := List.getElem?_of_mem hx
  obtain ⟨-, -, -, -, hr, -⟩ := h.at_ i x hi
  exact ⟨h.ok x hx, hr.rng⟩
/-- There is room for one more record. -/
structure Fit (most : Nat) (rs : List (List Nat)) : Prop where
  is : (frs rs).length + 4008 ≤ most
theorem ch_ok {most : Nat} {rs : List (List Nat)} {s : PS} {r : RD} (hf : Fit most rs) (hr : OkR r) : chA most rs s r = ⟨0, rs ++ [enc r], (doR s r).getD s⟩ := by
  have h1 := enc_len hr
  have h2 := hf.is
  have e0 : layE most rs s (enc r) = 0 := by unfold layE; rw [if_pos (by omega)]
  have e1 : layL most rs s (enc r) = rs ++ [enc r] := by unfold layL; rw [if_pos (by omega)]
  unfold chA chE chL chS chE
  rw [e0, e1, if_pos rfl]
theorem ch_len {rs : List (List Nat)} {r : RD} (hr : OkR r) : (frs (rs ++ [enc r])).length ≤ (frs rs).length + 4008 := by
  have h1 := enc_len hr
  rw [frs_snoc, List.length_append, frm_len]
  omega
theorem do_ok {s : PS} {r : RD} (h : OkP s) (hr : OkR r) : OkP ((doR s r).getD s) := by
  cases e : doR s r with
  | none => exact h
  | some s' => exact h.doR hr e

/-- The key of a number. -/
def kk (i : Nat) : ByteArray := strOf [97 + i % 26, 97 + i / 26]
theorem kk_tx (i : Nat) (h : i < 700) : tx (kk i) = [97 + i % 26, 97 + i / 26] := by
  refine tx_strOf (fun x hx => ?_)
  simp only [List.mem_cons, List.not_mem_nil, or_false] at hx
  omega
theorem kk_inj {i j : Nat} (hi : i < 700) (hj : j < 700) (h : kk i = kk j) : i = j := by
  have e := congrArg tx h
  rw [kk_tx i hi, kk_tx j hj] at e
  simp only [List.cons.injEq, and_true] at e
  omega
theorem kk_size (i : Nat) (h : i < 700) : (kk i).size = 2 := by rw [← tx_len, kk_tx i h]; rfl
theorem kk_key (i : Nat) (h : i < 700) : keyB (kk i) = true := by simp [keyB, kk_size i h]
theorem kk_zero : kk 0 = ⟨#[97, 97]⟩ := by
  apply tx_inj
  rw [kk_tx 0 (by omega)]
  rfl
def F0 : Nat → Int := putV zer zer [] 0 [] false
def L0 : List A := putL zer zer [] 0 [] false
theorem put_zero : putE zer zer [] 0 [] false = 0 := by decide +kernel
theorem put_more : putE F0 zer L0 1 [120] false = 0 := by decide +kernel
theorem src_none (w : World) : Src w none 0 [] := ⟨.inl ⟨rfl, rfl, rfl⟩⟩
/-- The first i keys, as far as they go in. -/
structure ManyL (i : Nat) (rs : List (List Nat)) (s : PS) : Prop where
  ok : OkP s
  len : s.1.length = min i 256
  recs : rs.length = min i 256
  bytes : (frs rs).length ≤ rs.length * 4008
  all : ∀ x ∈ s.1, ∃ j, j < min i 256 ∧ x = ⟨kk j, F0, L0⟩
  has : 0 < i → (⟨kk 0, F0, L0⟩ : K) ∈ s.1
theorem manyL_nil : ManyL 0 [] ([], []) := ⟨OkP.nil, rfl, rfl, by simp [frs], fun x hx => by simp at hx, fun h => by omega⟩
theorem manyL_get {i : Nat} {rs : List (List Nat)} {s : PS} (h : ManyL i rs s) (hi : i < 700) : fndG K.key (kk i) s.1 = none ∧ getK s.1 (kk i) = ⟨kk i, zer, []⟩ := by
  have hf : fndG K.key (kk i) s.1 = none := (fnd_none K.key).2 (fun x hx e => by
    obtain ⟨j, hj, rfl⟩ := h.all x hx
    have := kk_inj (by omega) hi e
    omega)
  refine ⟨hf, ?_⟩
  unfold getK
  rw [hf]
  rfl
set_option maxRecDepth 100000 in
theorem manyL_step {i : Nat} {rs : List (List Nat)} {s : PS} (h : ManyL i rs s) (hi : i < 258) : (putA 1048576 rs s 0 (kk i) zer [] false).er = (if i < 256 then 0 else 11) ∧ ManyL (i + 1) (putA 1048576 rs s 0 (kk i) zer [] false).rs (putA 1048576 rs s 0 (kk i) zer [] false).s := by
  obtain ⟨hf, hg⟩ := manyL_get h (by omega)
  have hk : putK s 0 (kk i) zer [] false = ⟨kk i, F0, L0⟩ := by
    unfold putK
    rw [hg]
    rfl
  have hc : putC s 0 (kk i) zer [] false = if i < 256 then 0 else 11 := by
    unfold putC
    simp only [hg, hf, kk_key i (by omega), put_zero, h.len]
    by_cases hn : i < 256
    · rw [if_pos hn]
      simp
      omega
    · rw [if_neg hn]
      simp
      omega
  by_cases hn : i < 256
  · rw [if_pos hn] at hc ⊢
    have ok := put_okK h.ok nrm_zer (by simp) (by simp) hc
    have hd := put_do h.ok ok hc
    have hr : OkR ⟨1, 0, putK s 0 (kk i) zer [] false⟩ := ⟨.inl ⟨rfl, rfl, ok⟩⟩
    have hb := h.bytes
    rw [h.recs] at hb
    have hmin : min i 256 = i := by omega
    have e : putA 1048576 rs s 0 (kk i) zer [] false = ⟨0, rs ++ [enc ⟨1, 0, putK s 0 (kk i) zer [] false⟩], (putG K.key (putK s 0 (kk i) zer [] false) s.1, s.2)⟩ := by
      unfold putA
      rw [if_pos hc, ch_ok ⟨by rw [hmin] at hb; omega⟩ hr, hd]
      rfl
    have ok2 := do_ok h.ok hr
    rw [hd] at ok2
    have h1 := ch_len (rs := rs) hr
    obtain ⟨en, hen⟩ : ∃ en, en = enc ⟨1, 0, putK s 0 (kk i) zer [] false⟩ := ⟨_, rfl⟩
    rw [← hen] at e h1
    rw [e]
    refine ⟨rfl, ⟨ok2, ?_, ?_, ?_, fun x hx => ?_, fun _ => ?_⟩⟩
    · show (putG K.key (putK s 0 (kk i) zer [] false) s.1).length = _
      rw [len_putG K.key h.ok.sor]
      show (if (fndG K.key (kk i) s.1).isSome = true then _ else _) = _
      rw [hf, if_neg (by simp), h.len]
      omega
    · show (rs ++ [en]).length = _
      rw [List.length_append, h.recs, List.length_singleton]
      omega
    · have h2 : (rs ++ [en]).length = min i 256 + 1 := by rw [List.length_append, List.length_singleton, h.recs]
      show (frs (rs ++ [en])).length ≤ (rs ++ [en]).length * 4008
      rw [h2]
      clear e h2 hen
      omega
    · rcases (mem_putG K.key).1 hx with rfl | ⟨hx, -⟩
      · exact ⟨i, by omega, hk⟩
      · obtain ⟨j, hj, rfl⟩ := h.all x hx
        exact ⟨j, by omega, rfl⟩
    · show _ ∈ putG K.key (putK s 0 (kk i) zer [] false) s.1
      rw [mem_putG]
      by_cases h0 : i = 0
      · left
        rw [hk, h0]
      · right
        refine ⟨h.has (by omega), fun e2 => h0 ?_⟩
        rw [hk] at e2
        exact (kk_inj (by omega) (by omega) e2).symm
  · rw [if_neg hn] at hc ⊢
    have e : putA 1048576 rs s 0 (kk i) zer [] false = ⟨11, rs, s⟩ := by
      unfold putA
      rw [hc]
      rfl
    rw [e]
    have hmin : min (i + 1) 256 = min i 256 := by omega
    exact ⟨rfl, ⟨h.ok, by rw [h.len, hmin], by rw [h.recs, hmin], h.bytes, fun x hx => by rw [hmin]; exact h.all x hx, fun _ => h.has (by omega)⟩⟩
set_option maxRecDepth 100000 in
theorem manyL_end {i : Nat} {rs : List (List Nat)} {s : PS} (h : ManyL i rs s) (hi : 0 < i) : (putA 1048576 rs s 1 ⟨#[97, 97]⟩ zer [120] false).er = 0 ∧ (putA 1048576 rs s 1 ⟨#[97, 97]⟩ zer [120] false).s.1.length = min i 256 ∧ (putA 1048576 rs s 1 ⟨#[97, 97]⟩ zer [120] false).rs.length = min i 256 + 1 := by
  rw [← kk_zero]
  have hf : fndG K.key (kk 0) s.1 = some ⟨kk 0, F0, L0⟩ := (fnd_some K.key h.ok.sor).2 ⟨h.has hi, rfl⟩
  have hg : getK s.1 (kk 0) = ⟨kk 0, F0, L0⟩ := by unfold getK; rw [hf]; rfl
  have hc : putC s 1 (kk 0) zer [120] false = 0 := by
    unfold putC
    simp only [hg, hf, kk_key 0 (by omega), put_more]
    simp
  have ok := put_okK h.ok nrm_zer (by simp) (by simp) hc
  have hd := put_do h.ok ok hc
  have hr : OkR ⟨1, 0, putK s 1 (kk 0) zer [120] false⟩ := ⟨.inl ⟨rfl, rfl, ok⟩⟩
  have hb := h.bytes
  have hrl := h.recs
  have e : putA 1048576 rs s 1 (kk 0) zer [120] false = ⟨0, rs ++ [enc ⟨1, 0, putK s 1 (kk 0) zer [120] false⟩], (putG K.key (putK s 1 (kk 0) zer [120] false) s.1, s.2)⟩ := by
    unfold putA
    have hle : rs.length ≤ 256 := by omega
    have h2 : rs.length * 4008 ≤ 256 * 4008 := Nat.mul_le_mul_right _ hle
    rw [if_pos hc, ch_ok ⟨by omega⟩ hr, hd]
    rfl
  rw [e]
  refine ⟨rfl, ?_, ?_⟩
  · show (putG K.key (putK s 1 (kk 0) zer [120] false) s.1).length = _
    rw [len_putG K.key h.ok.sor]
    show (if (fndG K.key (kk 0) s.1).isSome = true then _ else _) = _
    rw [hf]
    exact h.len
  · show (rs ++ [_]).length = _
    rw [List.length_append, List.length_singleton, hrl]
set_option maxRecDepth 100000 in
set_option maxHeartbeats 4000000 in
theorem many_walk (n : Int) (w : World) (_ : -9223372036854775808 ≤ n ∧ n ≤ 9223372036854775807) : Calls Tryz.prog 6 #[.int .i64 n] w fun e w' => e = .returned (.bool true) ∧ Off (fun _ => False) w w' := by
  have hnot := not_any
  have hqq := eql_sto
  obtain ⟨k, ek, hk⟩ : ∃ k : Nat, (IntKind.u64.wrap n).tmod 5 = (k : Int) ∧ k < 5 := by
    have h0 : 0 ≤ IntKind.u64.wrap n := by rw [IntKind.wrap_u64]; omega
    refine ⟨((IntKind.u64.wrap n).tmod 5).toNat, ?_, ?_⟩
    · have := Int.tmod_nonneg 5 h0
      omega
    · have := Int.tmod_lt_of_pos (IntKind.u64.wrap n) (show (0 : Int) < 5 by omega)
      have := Int.tmod_nonneg 5 h0
      omega
  go_enter Tryz.func6, Tryz.ntmps6
  go_wp2_with fail
  refine (fnew_any 1048576 w).mono ?_
  rintro e w1 ⟨b, rfl, fl⟩
  rw [show roomOf 1048576 = 1048576 from rfl] at fl
  have HF : Hid _ := fl
  clear fl
  go_wp2_with fail
  refine (fopen_any HF.out Inv.nil).mono ?_
  rintro e w2 ⟨p, rfl, lw⟩
  have HL0 : Hid _ := lw
  clear lw HF
  go_wp2_with fail
  go_loopw [29] (fun y wr => ∃ (i : Nat) (rs : List (List Nat)) (s : PS), y = .int .i64 (i : Int) ∧ i ≤ 254 + k ∧ ManyL i rs s ∧ Lw w p b 1048576 rs s wr) (fun y _ => ((254 + k : Nat) - intOf y).toNat)
  case atStart => exact ⟨0, [], ([], []), rfl, by omega, manyL_nil, HL0.out⟩
  case round =>
    obtain ⟨i, rs, s, rfl, hn, hm, lw⟩ := hrel
    have HM : Hid _ := hm
    have HL : Hid _ := lw
    clear hm lw
    by_cases hlt : i < 254 + k
    · have e1 : decide ((i : Int) < 254 + (k : Int)) = true := decide_eq_true (by omega)
      have e2 : decide (i < 254 + k) = true := decide_eq_true hlt
      obtain ⟨ra, hra, hra2⟩ : ∃ ra : Nat, Hid (ra = i % 26) ∧ (i : Int).tmod 26 = (ra : Int) := ⟨i % 26, rfl, by rw [Int.tmod_eq_emod_of_nonneg (by omega)]; omega⟩
      obtain ⟨rb, hrb, hrb2⟩ : ∃ rb : Nat, Hid (rb = i / 26) ∧ (i : Int).tdiv 26 = (rb : Int) := ⟨i / 26, rfl, by rw [Int.tdiv_eq_ediv_of_nonneg (by omega)]; omega⟩
      have hra3 : ra < 26 := by have := hra.out; omega
      have hrb3 : rb ≤ 10 := by have := hrb.out; omega
      have SR : Src (wr.alloc (.cells #[.int .u8 (97 + (ra : Int)), .int .u8 (97 + (rb : Int))] 5)) (some ⟨wr.heap.size, 0, none⟩) 2 [97 + ra, 97 + rb] := by
        refine ⟨.inr ⟨_, rfl, fun j u hj => ?_⟩⟩
        rw [add_lit, Nat.zero_add, (Cel.new wr 5 #[.int .u8 (97 + (ra : Int)), .int .u8 (97 + (rb : Int))]).cell j, ← hj]
        simp [vl]
      have hcv : (convert 32 9 (.slice (some ⟨wr.heap.size, 0, none⟩) 2 2)).run Tryz.prog (wr.alloc (.cells #[.int .u8 (97 + (ra : Int)), .int .u8 (97 + (rb : Int))] 5)) = .ok (.string (strOf [97 + ra, 97 + rb])) (wr.alloc (.cells #[.int .u8 (97 + (ra : Int)), .int .u8 (97 + (rb : Int))] 5)) := conv_src SR
      generalize hky : strOf [97 + ra, 97 + rb] = ky at hcv
      have HKY : Hid (ky = kk i) := by
        show _ = _
        rw [← hky, hra.out, hrb.out]
        rfl
      have HKS : Hid (ky.size ≤ 9223372036854775807) := by
        show _ ≤ _
        rw [HKY.out, kk_size i (by omega)]
        omega
      have HOB : Hid (Off (fun _ => False) wr (wr.alloc (.cells #[.int .u8 (97 + (ra : Int)), .int .u8 (97 + (rb : Int))] 5))) := (Off.refl _ wr).alloc _
      clear SR hky
      go_wp2_with fail
      obtain ⟨lb, D, S, h1, h2⟩ := (HL.out.free HOB.out).ex
      refine (lput_any h1 0 (by decide) ky HKS.out zer nrm_zer none 0 [] false (src_none _) (by simp) (by simp)).mono ?_
      rintro e w3 ⟨f1, a1, c1, l1, rfl, -, -, -, -, D', S', hol, mv⟩
      have HL3 : Hid _ := Lw.mov h2 (HL.out.free HOB.out).off hol mv
      clear h1 h2 hol mv HL
      have hst := manyL_step HM.out (show i < 258 by omega)
      rw [← HKY.out] at hst
      obtain ⟨⟨er, rs2, s2⟩, hz⟩ : ∃ z, z = putA 1048576 rs s 0 ky zer [] false := ⟨_, rfl⟩
      rw [← hz] at hst HL3 ⊢
      have her : er = if i < 256 then 0 else 11 := hst.1
      have HM3 : Hid (ManyL (i + 1) rs2 s2) := hst.2
      have HL4 : Hid (Lw w p b 1048576 rs2 s2 w3) := HL3.out
      clear hz hst HL3
      simp only
      go_upto_region 10 with fail
      have OA : Off (fun _ => False) w3 (w3.alloc (.cells #[.int .i64 (f1 0), .int .i64 (f1 1), .int .i64 (f1 2), .int .i64 (f1 3), .int .i64 (f1 4), .int .i64 (f1 5), .int .i64 (f1 6), .int .i64 (f1 7), .slice a1 l1.length c1] 45)) := (Off.refl _ w3).alloc _
      generalize hq : w3.heap.size = q5
      generalize hv : w3.alloc (.cells #[.int .i64 (f1 0), .int .i64 (f1 1), .int .i64 (f1 2), .int .i64 (f1 3), .int .i64 (f1 4), .int .i64 (f1 5), .int .i64 (f1 6), .int .i64 (f1 7), .slice a1 l1.length c1] 45) = V5 at OA ⊢
      clear hq hv
      have HL5 : Hid _ := HL4.out.free OA
      clear OA HL4
      by_cases hi : i < 256
      · rw [if_pos hi] at her
        subst her
        have d1 : decide ((i : Int) < 256) = true := decide_eq_true (by omega)
        have d2 : decide (i < 256) = true := decide_eq_true hi
        go_wp2_with fail
        go_roundw
        case rel => exact ⟨i + 1, rs2, s2, by go_num, by omega, HM3.out, HL5.out⟩
        case measure => simp [intOf]; omega
      · rw [if_neg hi] at her
        subst her
        have d1 : decide ((i : Int) < 256) = false := decide_eq_false (by omega)
        have d2 : decide (i < 256) = false := decide_eq_false hi
        go_wp2_with fail
        go_roundw
        case rel => exact ⟨i + 1, rs2, s2, by go_num, by omega, HM3.out, HL5.out⟩
        case measure => simp [intOf]; omega
    · obtain rfl : i = 254 + k := by omega
      have e1 : decide (((254 + k : Nat) : Int) < 254 + (k : Int)) = false := decide_eq_false (by omega)
      have e1' : decide ((254 : Int) + (k : Int) < 254 + (k : Int)) = false := decide_eq_false (by omega)
      have HO1 : Hid (Off (fun _ => False) wr (wr.alloc (.cells #[.int .u8 120] 5 (1, 2)))) := (Off.refl _ wr).alloc _
      have HS1 : Hid (Src (wr.alloc (.cells #[.int .u8 120] 5 (1, 2))) (some ⟨wr.heap.size, 0, none⟩) 1 [120]) := src_mark wr 120 120 rfl (1, 2)
      have hcc := fun (w : World) (C : Array Value) (n c : Nat) => Lib.run_convert_bytes_const (P := Tryz.prog) w 32 5 C n c Tryz.underlying32 Tryz.underlying5
      have HEND : Hid _ := manyL_end HM.out (show 0 < 254 + k by omega)
      go_wp2_with fail
      obtain ⟨lb, D, S, h1, h2⟩ := (HL.out.free HO1.out).ex
      refine (lput_any h1 1 (by decide) ⟨#[97, 97]⟩ (by decide) zer nrm_zer (some ⟨wr.heap.size, 0, none⟩) 1 [120] false HS1.out (by simp) (by simp)).mono ?_
      rintro e w3 ⟨f1, a1, c1, l1, rfl, -, -, -, -, D', S', hol, mv⟩
      have HL3 : Hid _ := Lw.mov h2 (HL.out.free HO1.out).off hol mv
      clear h1 h2 hol mv HL HS1 HO1 hcc
      obtain ⟨⟨er, rs2, s2⟩, hz⟩ : ∃ z, z = putA 1048576 rs s 1 ⟨#[97, 97]⟩ zer [120] false := ⟨_, rfl⟩
      rw [← hz] at HEND HL3 ⊢
      have her : er = 0 := HEND.out.1
      have HLN : Hid (s2.1.length = min (254 + k) 256) := HEND.out.2.1
      have HRN : Hid (rs2.length = min (254 + k) 256 + 1) := HEND.out.2.2
      have HL4 : Hid (Lw w p b 1048576 rs2 s2 w3) := HL3.out
      clear hz HEND HL3 HM
      subst her
      simp only
      go_upto_region 14 with fail
      have OA : Off (fun _ => False) w3 (w3.alloc (.cells #[.int .i64 (f1 0), .int .i64 (f1 1), .int .i64 (f1 2), .int .i64 (f1 3), .int .i64 (f1 4), .int .i64 (f1 5), .int .i64 (f1 6), .int .i64 (f1 7), .slice a1 l1.length c1] 45)) := (Off.refl _ w3).alloc _
      generalize hq : w3.heap.size = q5
      generalize hv : w3.alloc (.cells #[.int .i64 (f1 0), .int .i64 (f1 1), .int .i64 (f1 2), .int .i64 (f1 3), .int .i64 (f1 4), .int .i64 (f1 5), .int .i64 (f1 6), .int .i64 (f1 7), .slice a1 l1.length c1] 45) = V5 at OA ⊢
      clear hq hv
      have HL5 : Hid _ := HL4.out.free OA
      clear OA HL4
      obtain ⟨N, hN⟩ : ∃ N, N = min (254 + k) 256 := ⟨_, rfl⟩
      have hmn : ∀ ts t W, (Builtin.min_ ts t #[.int .i64 (254 + (k : Int)), .int .i64 256]).run Tryz.prog W = .ok (.int .i64 (N : Int)) W := fun ts ty W => by
        rw [run_min_int2, hN]
        congr 2
        split <;> omega
      have HLN2 : Hid (s2.1.length = N) := by rw [hN]; exact HLN.out
      have HRN2 : Hid (rs2.length = N + 1) := by rw [hN]; exact HRN.out
      have hN2 : N ≤ 256 := by omega
      clear hN HLN HRN
      go_wp2_with fail
      refine (wall_any HL5.out).mono ?_
      rintro e w6 ⟨a6, c6, es, rfl, hes, -, -, -, o6⟩
      have hel : es.length = N := by have e := congrArg List.length hes; rw [absE_len, HLN2.out] at e; exact e
      rw [hel]
      have HO6 : Hid _ := o6
      clear hes hel o6
      go_wp2_with fail
      refine (wrecs_any (HL5.out.free HO6.out)).mono ?_
      rw [HRN2.out]
      rintro e W ⟨rfl, hw⟩
      rw [hw]
      clear hw W
      have hq2 : (((N + 1 : Nat) : Int) == (N : Int) + 1) = true := by simp
      have hq3 : ((N : Int) + 1 == (N : Int) + 1) = true := by simp
      go_wp2_with fail
      refine (awake_any _).mono ?_
      rintro e va ⟨rfl, oa⟩
      have HOZ : Hid _ := (HL5.out.off.trans HO6.out (fun _ _ h => h)).trans oa (fun _ _ h => h)
      clear oa
      go_wp2_with fail
      go_ret
      exact ⟨rfl, HOZ.out⟩
end Go.Proofs.YthjbnpaghiojlabGreat
