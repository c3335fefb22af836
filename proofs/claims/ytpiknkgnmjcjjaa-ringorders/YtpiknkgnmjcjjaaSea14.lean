/- Rows of points; BinarySearchFunc, addNew. -/
import Derived.Test.YtpiknkgnmjcjjaaOrd14
namespace Go.Proofs.Ytpiknkgnmjcjjaa
set_option maxRecDepth 100000
open Go.RowKit

/-- A row of points. -/
structure RowP (w : World) (t : Option Addr) (c : Nat) (l : List Pn) : Prop where
  len : l.length ≤ c
  at_ : ∀ i x, l[i]? = some x → ∃ g o, t = some ⟨g, o, none⟩ ∧ w.cell? ⟨g, o + i * 3, none⟩ = some (.int .u32 (x.1 : Nat)) ∧ w.cell? ⟨g, o + i * 3 + 1, none⟩ = some (.int .i64 (x.2.1 : Nat)) ∧ w.cell? ⟨g, o + i * 3 + 2, none⟩ = some (.int .i64 (x.2.2 : Nat))
theorem RowP.offD {D : Nat → Prop} {w w' : World} {t : Option Addr} {c : Nat} {l : List Pn} (h : RowP w t c l) (o : Off D w w') (hD : ∀ k, k < w.heap.size → blk t = some k → ¬ D k) : RowP w' t c l :=
  ⟨h.len, fun i x hi => by
    obtain ⟨g, of, rfl, h1, h2, h3⟩ := h.at_ i x hi
    have K : ∀ {n : Nat} {v : Value}, w.cell? ⟨g, n, none⟩ = some v → w'.cell? ⟨g, n, none⟩ = some v := fun {n v} hk => by
      rw [← hk]
      exact World.cell?_of_block (a := ⟨g, n, none⟩) (o.block g (cell_lt hk) (hD g (cell_lt hk) rfl))
    exact ⟨g, of, rfl, K h1, K h2, K h3⟩⟩
theorem RowP.off {w w' : World} {t : Option Addr} {c : Nat} {l : List Pn} (h : RowP w t c l) (o : Off (fun _ => False) w w') : RowP w' t c l := h.offD o (fun _ _ _ h => h)
theorem OwnG.rowP {w : World} {t : Option Addr} {c : Nat} {l : List Pn} {e : TypeId} (h : OwnG e 3 pcs w t c l) : RowP w t c l := by
  refine ⟨?_, fun i x hi => ?_⟩
  · rcases h.row.2 with ⟨hv, h0⟩ | ⟨g, c, cur, hv, hb, hh, hc, -⟩
    · omega
    · simp only [Value.slice.injEq] at hv
      obtain ⟨-, -, rfl⟩ := hv
      exact hc
  · obtain ⟨g, rfl, hc⟩ := h.at_ pcs_len hi
    have h0 := hc 0 _ rfl
    have h1 := hc 1 _ rfl
    have h2 := hc 2 _ rfl
    exact ⟨g, 0, rfl, by simpa using h0, by simpa using h1, by simpa using h2⟩
theorem RowP.drop {w : World} {t : Option Addr} {c : Nat} {l : List Pn} (h : RowP w t c l) {k : Nat} (hk : k ≤ l.length) :
    ∃ t' c', (∀ W, (Instr.slice 57 (.slice t l.length c) (some (.int .i64 (k : Int))) none none).run Try.prog W = .ok (.slice t' (l.drop k).length c') W) ∧ RowP w t' c' (l.drop k) ∧ (∀ b, blk t' = some b → blk t = some b) := by
  have hc := h.len
  refine ⟨if c = k then t else t.map (·.add (k * 3)), c - k, fun W => ?_, ⟨?_, fun i x hi => ?_⟩, fun b hb => ?_⟩
  · rw [run_slice_l (P := Try.prog) (t := 57) (ht := by kernel_rfl) (h0 := by omega) (h1 := by omega)]
    have hs : (sizeOf (Try.prog.elem 57)).run Try.prog W = .ok 3 W := by
      have : Try.prog.elem 57 = 75 := by kernel_rfl
      rw [this]
      obtain ⟨i0, hi, hz0, hz1, hz2⟩ := info_parts Try.infoP
      simp [sizeOf, typeInfo, hi, hz1]
    rw [hs]
    simp [Result.andThen, sliced]
  · rw [List.length_drop]
    omega
  · rw [List.getElem?_drop] at hi
    obtain ⟨hil, -⟩ := List.getElem?_eq_some_iff.1 hi
    obtain ⟨g, o, rfl, h1, h2, h3⟩ := h.at_ _ x hi
    rw [if_neg (by omega)]
    refine ⟨g, o + k * 3, by simp [Addr.add], ?_, ?_, ?_⟩
    · rw [← h1]; congr 2; omega
    · rw [← h2]; congr 2; omega
    · rw [← h3]; congr 2; omega
  · split at hb
    · exact hb
    · cases t with
      | none => simp [blk] at hb
      | some a => simpa [blk, add_block] using hb
theorem RowP.take {w : World} {t : Option Addr} {c : Nat} {l : List Pn} (h : RowP w t c l) (hn : t = none → c = 0) {k : Nat} (hk : k ≤ l.length) :
    (∀ W, (Instr.slice 57 (.slice t l.length c) none (some (.int .i64 (k : Int))) none).run Try.prog W = .ok (.slice t (l.take k).length c) W) ∧ RowP w t c (l.take k) := by
  have hc := h.len
  refine ⟨fun W => ?_, ⟨?_, fun i x hi => ?_⟩⟩
  · rw [run_slice_h (P := Try.prog) (t := 57) (ht := by kernel_rfl) (h0 := by omega) (h2 := by omega)]
    have hs : (sizeOf (Try.prog.elem 57)).run Try.prog W = .ok 3 W := by
      have : Try.prog.elem 57 = 75 := by kernel_rfl
      rw [this]
      obtain ⟨i0, hi, hz0, hz1, hz2⟩ := info_parts Try.infoP
      simp [sizeOf, typeInfo, hi, hz1]
    rw [hs]
    cases t with
    | none =>
      obtain rfl := hn rfl
      have : k = 0 := by omega
      subst this
      simp [Result.andThen, sliced]
    | some a =>
      have ha : a.add 0 = a := by unfold Addr.add; split <;> simp_all
      simp [Result.andThen, sliced, ha]
      omega
  · rw [List.length_take]
    omega
  · rw [List.getElem?_take] at hi
    split at hi
    · exact h.at_ i x hi
    · cases hi
theorem cmp_lt (a b : Nat) : cmpI (a : Int) (b : Int) < 0 ↔ a < b := by
  unfold cmpI
  split <;> (try split) <;> omega
/-- Where a place stands in a row of points. -/
structure CutAt (l : List Pn) (s n : Nat) : Prop where
  le : n ≤ l.length
  lo : ∀ i x, i < n → l[i]? = some x → x.1 < s
  hi : ∀ i x, n ≤ i → l[i]? = some x → s ≤ x.1
set_option maxHeartbeats 1000000 in
theorem search_any (t : Option Addr) (c : Nat) (l : List Pn) (s : Nat) (w : World) (h : RowP w t c l) (hs : Sp l) (hl : l.length ≤ 1000) :
    Calls Try.prog 35 #[.slice t l.length c, .int .u32 (s : Nat), .func (.func 36) #[] #[]] w fun e w' => ∃ (n : Nat) (b : Bool), e = .returned (.tuple #[.int .i64 (n : Int), .bool b]) ∧ CutAt l s n ∧ Off (fun _ => False) w w' := by
  have HR : Hid _ := h
  have HS : Hid _ := hs
  clear h hs
  go_enter Try.func35, Try.ntmps35
  go_wp2_with fail
  go_loopw [9, 10] (fun y z wr => ∃ i j : Nat, y = .int .i64 (i : Int) ∧ z = .int .i64 (j : Int) ∧ i ≤ j ∧ j ≤ l.length ∧ (∀ n x, n < i → l[n]? = some x → x.1 < s) ∧ (∀ n x, j ≤ n → l[n]? = some x → s ≤ x.1) ∧ Off (fun _ => False) w wr) (fun y z _ => (intOf z - intOf y).toNat)
  case atStart => exact ⟨0, l.length, rfl, rfl, by omega, by omega, fun n x hn => by omega, fun n x hn hx => by
    obtain ⟨h, -⟩ := List.getElem?_eq_some_iff.1 hx
    omega, Off.refl _ w⟩
  case round =>
    obtain ⟨i, j, rfl, rfl, hij, hjl, hlo, hhi, O⟩ := hrel
    have HLO : Hid _ := hlo
    have HHI : Hid _ := hhi
    have HO : Hid _ := O
    clear hlo hhi O
    by_cases hlt : i < j
    · have e1 : decide ((i : Int) < (j : Int)) = true := decide_eq_true (by omega)
      have e2 : decide (i < j) = true := decide_eq_true hlt
      obtain ⟨h, hh⟩ : ∃ h : Nat, h = (i + j) / 2 := ⟨_, rfl⟩
      have hhi : ((i : Int) + (j : Int)) / 2 = (h : Int) := by omega
      have hh1 : i ≤ h := by omega
      have hh2 : h < j := by omega
      clear hh
      have hhl : h < l.length := by omega
      obtain ⟨x, hx⟩ : ∃ x, l[h]? = some x := ⟨_, List.getElem?_eq_getElem hhl⟩
      obtain ⟨g, o, rfl, k0, k1, k2⟩ := (HR.out.off HO.out).at_ h x hx
      have HX : Hid _ := hx
      clear hx
      go_wp2_with fail
      refine (from1_any x s _).mono ?_
      rintro e w1 ⟨rfl, o1⟩
      have HO1 : Hid _ := HO.out.trans o1 (fun _ _ h => h)
      clear o1 k0 k1 k2
      have HC : Hid _ := cmp_lt x.1 s
      generalize cmpI (x.1 : Int) (s : Int) = q at *
      by_cases hr0 : q < 0
      · have d1 : decide (q < 0) = true := decide_eq_true hr0
        have HP : Hid _ := HC.out.1 hr0
        clear hr0 HC
        go_wp2_with fail
        go_roundw
        case rel =>
          refine ⟨h + 1, j, by go_num, rfl, by omega, by omega, fun n y hn hy => ?_, HHI.out, HO1.out⟩
          have h1 := sp_le HS.out hy HX.out (by omega)
          have h2 : x.1 < s := HP.out
          omega
        case measure => simp [intOf]; omega
      · have d1 : decide (q < 0) = false := decide_eq_false hr0
        have HP : Hid (¬ x.1 < s) := fun h => hr0 (HC.out.2 h)
        clear hr0 HC
        go_wp2_with fail
        go_roundw
        case rel =>
          refine ⟨i, h, rfl, rfl, by omega, by omega, HLO.out, fun n y hn hy => ?_, HO1.out⟩
          have h1 := sp_le HS.out HX.out hy hn
          have h2 : ¬ x.1 < s := HP.out
          omega
        case measure => simp [intOf]; omega
    · obtain rfl : i = j := by omega
      have e1 : decide ((i : Int) < (i : Int)) = false := decide_eq_false (by omega)
      have e2 : decide (i < i) = false := decide_eq_false (by omega)
      by_cases hil : i < l.length
      · have i1 : decide ((i : Int) < (l.length : Int)) = true := decide_eq_true (by omega)
        have i2 : decide (i < l.length) = true := decide_eq_true hil
        obtain ⟨x, hx⟩ : ∃ x, l[i]? = some x := ⟨_, List.getElem?_eq_getElem hil⟩
        obtain ⟨g, o, rfl, k0, k1, k2⟩ := (HR.out.off HO.out).at_ i x hx
        clear hx
        go_wp2_with fail
        refine (from1_any x s _).mono ?_
        rintro e w1 ⟨rfl, o1⟩
        have HO1 : Hid _ := HO.out.trans o1 (fun _ _ h => h)
        clear o1 k0 k1 k2
        generalize cmpI (x.1 : Int) (s : Int) = q at *
        go_wp2_with fail
        go_ret2
        exact ⟨i, _, rfl, ⟨by omega, HLO.out, HHI.out⟩, HO1.out⟩
      · have i1 : decide ((i : Int) < (l.length : Int)) = false := decide_eq_false (by omega)
        have i2 : decide (i < l.length) = false := decide_eq_false hil
        go_wp2_with fail
        go_ret2
        exact ⟨i, _, rfl, ⟨by omega, HLO.out, HHI.out⟩, HO.out⟩
theorem addO_no {o : List Nat} {x : Nat} (h : inB o (x : Int) = true) : addO o x = o := by
  rw [inB_nat, decide_eq_true_iff] at h
  unfold addO
  rw [if_pos h]
theorem addO_yes {o : List Nat} {x : Nat} (h : inB o (x : Int) = false) : addO o x = o ++ [x] := by
  rw [inB_nat, decide_eq_false_iff_not] at h
  unfold addO
  rw [if_neg h]
theorem addN_take (o : List Nat) (l : List Pn) {j : Nat} {x : Pn} (h : l[j]? = some x) : addN o (l.take (j + 1)) = addO (addN o (l.take j)) x.2.1 := by
  rw [List.take_add_one, h]
  exact addN_next _ _ _
theorem addO_len (o : List Nat) (x : Nat) : (addO o x).length ≤ o.length + 1 := by
  unfold addO
  split
  · omega
  · simp
theorem addN_len (l : List Pn) (o : List Nat) : (addN o l).length ≤ o.length + l.length := by
  induction l generalizing o with
  | nil => simp [addN]
  | cons p l ih =>
    have := ih (addO o p.2.1)
    have h1 := addO_len o p.2.1
    have : addN o (p :: l) = addN (addO o p.2.1) l := rfl
    rw [this]
    simp
    omega
set_option maxHeartbeats 1000000 in
theorem addnew_any (t : Option Addr) (c : Nat) (o : List Nat) (tp : Option Addr) (cp : Nat) (l : List Pn) (w : World) (h : OwnG 3 1 ics w t c o) (hp : RowP w tp cp l) (hd : ∀ k, blk t = some k → blk tp ≠ some k) (hl : o.length + l.length ≤ 1000) :
    Calls Try.prog 26 #[.slice t o.length c, .slice tp l.length cp] w fun e w' => ∃ t' c', e = .returned (.slice t' (addN o l).length c') ∧ OwnG 3 1 ics w' t' c' (addN o l) ∧ (∀ k, blk t' = some k → blk t = some k ∨ w.heap.size ≤ k) ∧ Off (fun k => blk t = some k) w w' := by
  have HW : Hid _ := h
  have HP : Hid _ := hp
  have HD : Hid _ := hd
  clear h hp hd
  go_enter Try.func26, Try.ntmps26
  go_wp2_with fail
  go_loopw [0, 9] (fun a i wr => ∃ (j : Nat) (t' : Option Addr) (c' : Nat), a = .slice t' (addN o (l.take j)).length c' ∧ i = .int .i64 (j : Int) ∧ j ≤ l.length ∧ OwnG 3 1 ics wr t' c' (addN o (l.take j)) ∧ (∀ k, blk t' = some k → blk t = some k ∨ w.heap.size ≤ k) ∧ Off (fun k => blk t = some k) w wr) (fun _ i _ => (l.length - intOf i).toNat)
  case atStart => exact ⟨0, t, c, rfl, rfl, by omega, HW.out, fun k hk => .inl hk, Off.refl _ w⟩
  case round =>
    obtain ⟨j, t1, c1, rfl, rfl, hj, own, hat, O⟩ := hrel
    have HOW : Hid _ := own
    have HAT : Hid _ := hat
    have HO : Hid _ := O
    clear own hat O
    by_cases hlt : j < l.length
    · obtain ⟨x, hx⟩ : ∃ x, l[j]? = some x := ⟨_, List.getElem?_eq_getElem hlt⟩
      have HST : Hid _ := addN_take o l hx
      have HLN : Hid ((addN o (l.take j)).length ≤ 1000) := by
        have := addN_len (l.take j) o
        rw [List.length_take] at this
        show _ ≤ _
        omega
      generalize addN o (l.take j) = qs at *
      have hpr := HP.out.offD HO.out (fun k hk e e' => HD.out k e' e)
      obtain ⟨g, of, rfl, k0, k1, k2⟩ := hpr.at_ j x hx
      have HPR : Hid _ := hpr
      clear hpr hx
      go_upto_region 4 with fail
      have C0 := Cel.new wr 75 #[.int .u32 (x.1 : Nat), .int .i64 (x.2.1 : Nat), .int .i64 (x.2.2 : Nat)]
      have O1 : Off (fun _ => False) wr (wr.alloc (.cells #[.int .u32 (x.1 : Nat), .int .i64 (x.2.1 : Nat), .int .i64 (x.2.2 : Nat)] 75)) := (Off.refl _ wr).alloc _
      generalize hq : wr.heap.size = q at C0 ⊢
      generalize hv : wr.alloc (.cells #[.int .u32 (x.1 : Nat), .int .i64 (x.2.1 : Nat), .int .i64 (x.2.2 : Nat)] 75) = V at C0 O1 ⊢
      have HQ : Hid _ := hq
      clear hq hv k0 k1 k2
      have OW1 := HOW.out.off O1 (fun _ _ _ h => h)
      have HN : Hid _ := contains_any t1 c1 qs (x.2.1 : Nat) V OW1.its (by have : qs.length ≤ 1000 := HLN.out; omega)
      have HOW1 : Hid _ := OW1
      have HO1 : Hid _ := O1
      have z1 : V.cell? ⟨q, 1, none⟩ = some (.int .i64 (x.2.1 : Nat)) := C0.cell 1
      have HC0 : Hid _ := C0
      clear OW1 O1 C0
      go_wp2_with fail
      refine Calls.mono HN.out ?_
      rintro e w9 ⟨rfl, hw⟩
      rw [hw]
      clear hw w9 HN
      cases hb : inB qs (x.2.1 : Nat)
      · have HB : Hid _ := addO_yes hb
        clear hb
        have OA : Off (fun _ => False) V (V.alloc (.cells #[.int .i64 (x.2.1 : Nat)] 3)) := (Off.refl _ V).alloc _
        have own4 := HOW1.out.off OA (fun _ _ _ h => h)
        have cn := Cel.new V 3 #[.int .i64 (x.2.1 : Nat)]
        have hcn : ∀ j u, (ics x.2.1)[j]? = some u → (V.alloc (.cells #[.int .i64 (x.2.1 : Nat)] 3)).cell? ⟨V.heap.size, j, none⟩ = some u := fun j u hj => by
          rw [cn.cell j]
          simpa [ics] using hj
        have HOA : Hid _ := OA
        clear OA cn
        go_wp2_with (at_builtin; refine wpList_appG (cs := ics) rfl (.tmp 18) (.tmp 21) Try.underlying24 Try.infoN rfl (by decide) (by decide) ics_len ics_one rfl t1 c1 qs rfl own4 V.heap.size 1 x.2.1 rfl hcn (by have : qs.length ≤ 1000 := HLN.out; omega) ?_; intro t' c' w' ys hys own' off' at')
        have HYS : Hid (ys = addN o (l.take (j + 1))) := by
          show ys = _
          rw [hys.out, HST.out, HB.out]
        have HOW' : Hid _ := own'
        have HOF' : Hid _ := off'
        clear own' off' own4 hcn hys
        go_wp2_with fail
        go_roundw
        case rel =>
          have s1 := HO1.out.size
          have s0 := HO.out.size
          simp only [World.size_alloc] at at'
          rw [HYS.out] at HOW'
          refine ⟨j + 1, t', c', by rw [HYS.out], by go_num, by omega, HOW'.out, fun k hk => ?_, ?_⟩
          · rcases at' with h9 | h9
            · exact HAT.out k (h9 ▸ hk)
            · rw [h9] at hk
              cases hk
              exact .inr (by omega)
          · exact ((HO.out.trans HO1.out (fun _ _ h => h.elim)).trans HOA.out (fun _ _ h => h.elim)).trans HOF'.out (fun i hi e => by
              rcases HAT.out i e with h | h
              · exact h
              · omega)
        case measure => simp [intOf]; omega
      · have HB : Hid _ := addO_no hb
        clear hb
        go_wp2_with fail
        go_roundw
        case rel =>
          have e9 : addN o (l.take (j + 1)) = qs := by rw [HST.out, HB.out]
          refine ⟨j + 1, t1, c1, by rw [e9], by go_num, by omega, by rw [e9]; exact HOW1.out, HAT.out, HO.out.trans HO1.out (fun _ _ h => h.elim)⟩
        case measure => simp [intOf]; omega
    · obtain rfl : j = l.length := by omega
      have e1 : l.take l.length = l := List.take_of_length_le (Nat.le_refl _)
      rw [e1] at HOW ⊢
      clear e1
      go_wp2_with fail
      go_ret
      exact ⟨t1, c1, rfl, HOW.out, HAT.out, HO.out⟩
end Go.Proofs.Ytpiknkgnmjcjjaa
