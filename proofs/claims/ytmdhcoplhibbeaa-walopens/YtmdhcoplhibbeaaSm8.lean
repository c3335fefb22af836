/- What the laws stand on: SameBytes, small, awake. -/
import Derived.Test.YtmdhcoplhibbeaaAll7
import Derived.Lib.SlBytesConst
namespace Go.Proofs.Ytmdhcoplhibbeaa
open Go.RowKit

theorem keep_cell {w w' : World} {b o : Nat} {v : Value} (hw : Off (fun _ => False) w w') (h : w.cell? ⟨b, o, none⟩ = some v) : w'.cell? ⟨b, o, none⟩ = some v := by
  rw [← h]
  exact World.cell?_of_block (a := ⟨b, o, none⟩) (hw.block b (cell_lt h) (fun h => h))

theorem str_eq {x y : B} (h : x.data = y.data) : strOf x.data = strOf y.data := by rw [h]
set_option maxRecDepth 100000 in
set_option maxHeartbeats 1000000 in
theorem samebytes_any (ta tb : Option Addr) (ca cb : Nat) (xs ys : List B) (w : World) (h1 : OwnG 23 1 bcs w ta ca xs) (h2 : OwnG 23 1 bcs w tb cb ys) (s1 : ∀ b ∈ xs, Src w b.ad b.cap b.data) (s2 : ∀ b ∈ ys, Src w b.ad b.cap b.data) (he : xs.map B.data = ys.map B.data) (hl : xs.length ≤ 10000000) :
    Calls Try.prog 18 #[.slice ta xs.length ca, .slice tb ys.length cb] w fun e w' => e = .returned (.bool true) ∧ Off (fun _ => False) w w' := by
  have hlen : ys.length = xs.length := by have := congrArg List.length he; simpa using this.symm
  have d0 : ((xs.length : Int) != (ys.length : Int)) = false := by rw [hlen]; simp
  have HLEN : Hid _ := hlen
  have H1 : Hid _ := h1
  have H2 : Hid _ := h2
  have S1 : Hid _ := s1
  have S2 : Hid _ := s2
  have HE : Hid _ := he
  clear h1 h2 s1 s2 he hlen
  go_enter Try.func18, Try.ntmps18
  go_wp2_with fail
  go_loopw [13] (fun y wr => ∃ i : Nat, y = .int .i64 (i : Int) ∧ i ≤ xs.length ∧ Off (fun _ => False) w wr) (fun y _ => (xs.length - intOf y).toNat)
  case atStart => exact ⟨0, rfl, by omega, Off.refl _ _⟩
  case round =>
    obtain ⟨i, rfl, hi, O⟩ := hrel
    have HO : Hid _ := O
    clear O
    by_cases hil : i < xs.length
    · have i1 : decide ((i : Int) < (xs.length : Int)) = true := decide_eq_true (by omega)
      have i2 : decide (i < xs.length) = true := decide_eq_true hil
      have hil2 : i < ys.length := by have := HLEN.out; omega
      have i3 : decide ((i : Int) < (ys.length : Int)) = true := decide_eq_true (by omega)
      have i4 : decide (i < ys.length) = true := decide_eq_true hil2
      have hyl : ys.length ≤ 10000000 := by have := HLEN.out; omega
      obtain ⟨x, hx⟩ : ∃ x, xs[i]? = some x := ⟨_, List.getElem?_eq_getElem hil⟩
      obtain ⟨y, hy⟩ : ∃ y, ys[i]? = some y := ⟨_, List.getElem?_eq_getElem hil2⟩
      have hd : x.data = y.data := by
        have := congrArg (fun z => z[i]?) HE.out
        simpa [hx, hy] using this
      obtain ⟨ga, rfl, ka⟩ := H1.out.at_ bcs_len hx
      obtain ⟨gb, rfl, kb⟩ := H2.out.at_ bcs_len hy
      have ka0 := ka 0 _ rfl
      have kb0 := kb 0 _ rfl
      simp only [Nat.mul_one, Nat.add_zero] at ka0 kb0
      have HKA : Hid _ := ka0
      have HKB : Hid _ := kb0
      have HSX : Hid _ := S1.out x (List.mem_of_getElem? hx)
      have HSY : Hid _ := S2.out y (List.mem_of_getElem? hy)
      have HSD : Hid (strOf y.data = strOf x.data) := (str_eq hd).symm
      clear ka kb ka0 kb0 hx hy hd
      go_upto_region 6 with fail
      refine wp_region_held_drew (S := fun w' => Off (fun _ => False) w w') (by kernel_rfl) HO.out.drew (fun hS => ?_)
      refine take_at (i := 0) 16 (v := .slice (some ⟨ga, 0, none⟩) xs.length ca) rfl rfl (by kernel_rfl) (by kernel_rfl) (by kernel_rfl) (fun _ _ _ h => h) (Or.inl ⟨by rfl, fun w' hw' => by go_simp⟩) hS ?_
      simp only [Act.put, List.setIfInBounds_toArray, List.set_cons_zero, List.set_cons_succ]
      refine take_at (i := 1) 17 (v := .int .i64 (i : Int)) rfl rfl (by kernel_rfl) (by kernel_rfl) (by kernel_rfl) (fun _ _ _ h => h) (Or.inl ⟨by rfl, fun w' hw' => by go_simp⟩) hS ?_
      simp only [Act.put, List.setIfInBounds_toArray, List.set_cons_zero, List.set_cons_succ]
      refine take_at (i := 2) 18 (v := .pointer (some ⟨ga, i, none⟩)) rfl rfl (by kernel_rfl) (by kernel_rfl) (by kernel_rfl) (fun _ _ _ h => h) (Or.inl ⟨by rfl, fun w' hw' => by go_simp⟩) hS ?_
      simp only [Act.put, List.setIfInBounds_toArray, List.set_cons_zero, List.set_cons_succ]
      refine take_at (i := 3) 19 (v := .slice x.ad x.data.length x.cap) rfl rfl (by kernel_rfl) (by kernel_rfl) (by kernel_rfl) (fun _ _ _ h => h) (Or.inl ⟨by rfl, fun w' hw' => by have e := keep_cell hw' HKA.out; go_simp⟩) hS ?_
      simp only [Act.put, List.setIfInBounds_toArray, List.set_cons_zero, List.set_cons_succ]
      refine take_at (i := 4) 20 (v := .string (strOf x.data)) rfl rfl (by kernel_rfl) (by kernel_rfl) (by kernel_rfl) (fun _ _ _ h => h) (Or.inl ⟨by rfl, fun w' hw' => by have e := conv_src (HSX.out.off hw' (fun _ _ _ h => h)); go_simp⟩) hS ?_
      simp only [Act.put, List.setIfInBounds_toArray, List.set_cons_zero, List.set_cons_succ]
      refine take_at (i := 5) 21 (v := .slice (some ⟨gb, 0, none⟩) ys.length cb) rfl rfl (by kernel_rfl) (by kernel_rfl) (by kernel_rfl) (fun _ _ _ h => h) (Or.inl ⟨by rfl, fun w' hw' => by go_simp⟩) hS ?_
      simp only [Act.put, List.setIfInBounds_toArray, List.set_cons_zero, List.set_cons_succ]
      refine take_at (i := 6) 22 (v := .int .i64 (i : Int)) rfl rfl (by kernel_rfl) (by kernel_rfl) (by kernel_rfl) (fun _ _ _ h => h) (Or.inl ⟨by rfl, fun w' hw' => by go_simp⟩) hS ?_
      simp only [Act.put, List.setIfInBounds_toArray, List.set_cons_zero, List.set_cons_succ]
      refine take_at (i := 7) 23 (v := .pointer (some ⟨gb, i, none⟩)) rfl rfl (by kernel_rfl) (by kernel_rfl) (by kernel_rfl) (fun _ _ _ h => h) (Or.inl ⟨by rfl, fun w' hw' => by go_simp⟩) hS ?_
      simp only [Act.put, List.setIfInBounds_toArray, List.set_cons_zero, List.set_cons_succ]
      refine take_at (i := 8) 24 (v := .slice y.ad y.data.length y.cap) rfl rfl (by kernel_rfl) (by kernel_rfl) (by kernel_rfl) (fun _ _ _ h => h) (Or.inl ⟨by rfl, fun w' hw' => by have e := keep_cell hw' HKB.out; go_simp⟩) hS ?_
      simp only [Act.put, List.setIfInBounds_toArray, List.set_cons_zero, List.set_cons_succ]
      refine take_at (i := 9) 25 (v := .string (strOf x.data)) rfl rfl (by kernel_rfl) (by kernel_rfl) (by kernel_rfl) (fun _ _ _ h => h) (Or.inl ⟨by rfl, fun w' hw' => by have e := conv_src (HSY.out.off hw' (fun _ _ _ h => h)); rw [HSD.out] at e; go_simp⟩) hS ?_
      simp only [Act.put, List.setIfInBounds_toArray, List.set_cons_zero, List.set_cons_succ]
      refine take_at (i := 10) 26 (v := .bool false) rfl rfl (by kernel_rfl) (by kernel_rfl) (by kernel_rfl) (fun _ _ _ h => h) (Or.inl ⟨by rfl, fun w' hw' => by go_simp⟩) hS ?_
      simp only [Act.put, List.setIfInBounds_toArray, List.set_cons_zero, List.set_cons_succ]
      refine wpAnyH_done (by kernel_rfl) ?_ _
      go_wp2_with fail
      go_roundw
      case rel => exact ⟨i + 1, by go_num, by omega, hS⟩
      case measure => simp [intOf]; omega
    · have i1 : decide ((i : Int) < (xs.length : Int)) = false := decide_eq_false (by omega)
      have i2 : decide (i < xs.length) = false := decide_eq_false hil
      go_wp2_with fail
      go_ret
      exact ⟨rfl, HO.out⟩

/-- Rows of bytes that came in. -/
structure ArgL (w : World) (a : Option Addr) (bl : List B) : Prop where
  bound : bl.length ≤ 9223372036854775807
  at_ : ∀ i x, bl[i]? = some x → ∃ b off, a = some ⟨b, off, none⟩ ∧ w.cell? ⟨b, off + i, none⟩ = some (.slice x.ad x.data.length x.cap)
  inp : ∀ x ∈ bl, Inp w x.ad x.cap x.data
  tl : ∀ x ∈ bl, x.data.length ≤ 9223372036854775807
theorem ArgL.off {w w' : World} {a : Option Addr} {bl : List B} (h : ArgL w a bl) (o : Off (fun _ => False) w w') : ArgL w' a bl :=
  ⟨h.bound, fun i x hx => by
    obtain ⟨b, off, e, hc⟩ := h.at_ i x hx
    exact ⟨b, off, e, keep_cell o hc⟩, fun x hx => (h.inp x hx).free o, h.tl⟩

/-- Those that are small. -/
def smL (l : List (List Nat)) : List (List Nat) := (l.take 30).filter fun r => decide (r.length ≤ 400)
theorem smL_step {bl : List B} {i : Nat} {x : B} (h : bl[i]? = some x) : smL ((bl.take (i + 1)).map B.data) = smL ((bl.take i).map B.data) ++ (if i < 30 ∧ x.data.length ≤ 400 then [x.data] else []) := by
  obtain ⟨hi, -⟩ := List.getElem?_eq_some_iff.1 h
  have e : bl.take (i + 1) = bl.take i ++ [x] := by rw [List.take_add_one, h]; rfl
  rw [e, List.map_append, smL, smL]
  by_cases h30 : i < 30
  · have a1 : ((bl.take i).map B.data ++ [x].map B.data).take 30 = (bl.take i).map B.data ++ [x].map B.data := List.take_of_length_le (by simp; omega)
    have a2 : ((bl.take i).map B.data).take 30 = (bl.take i).map B.data := List.take_of_length_le (by simp; omega)
    rw [a1, a2, List.filter_append]
    congr 1
    by_cases h5 : x.data.length ≤ 400 <;> simp [h30, h5]
  · have a1 : ((bl.take i).map B.data ++ [x].map B.data).take 30 = ((bl.take i).map B.data).take 30 := List.take_append_of_le_length (by simp; omega)
    rw [if_neg (by omega), List.append_nil, a1]
theorem smL_len (l : List (List Nat)) : (smL l).length ≤ 30 := by
  refine Nat.le_trans (List.length_filter_le _ _) ?_
  rw [List.length_take]
  omega

set_option maxRecDepth 100000 in
set_option maxHeartbeats 1000000 in
theorem small_any {w : World} {a : Option Addr} (cap : Nat) {bl : List B} (h : ArgL w a bl) :
    Calls Try.prog 9 #[.slice a bl.length cap] w fun e w' => ∃ (t : Option Addr) (c : Nat) (sl : List B), e = .returned (.slice t sl.length c) ∧ OwnG 23 1 bcs w' t c sl ∧ (∀ k, blk t = some k → w.heap.size ≤ k) ∧ sl.length ≤ 30 ∧ (∀ x ∈ sl, Inp w' x.ad x.cap x.data ∧ x.data.length ≤ 400 ∧ x ∈ bl) ∧ sl.map B.data = smL (bl.map B.data) ∧ Off (fun _ => False) w w' := by
  have HA : Hid _ := h
  have hbd := h.bound
  clear h
  go_enter Try.func9, Try.ntmps9
  go_wp2_with fail
  go_loopw [3, 8] (fun x y wr => ∃ (i : Nat) (t : Option Addr) (c : Nat) (sl : List B), y = .int .i64 (i : Int) ∧ x = .slice t sl.length c ∧ i ≤ bl.length ∧ OwnG 23 1 bcs wr t c sl ∧ (∀ k, blk t = some k → w.heap.size ≤ k) ∧ (∀ x ∈ sl, x ∈ bl ∧ x.data.length ≤ 400) ∧ sl.map B.data = smL ((bl.take i).map B.data) ∧ Off (fun _ => False) w wr) (fun _ y _ => (bl.length - intOf y).toNat)
  case atStart => exact ⟨0, none, 0, [], rfl, rfl, by omega, OwnG.nil _ _ _ _, fun k hk => by simp [blk] at hk, by simp, by simp [smL], Off.refl _ _⟩
  case round =>
    obtain ⟨i, t, c, sl, rfl, rfl, hi, own, hlo, hsl, hd, O⟩ := hrel
    have HOWN : Hid _ := own
    have HLO : Hid _ := hlo
    have HSL : Hid _ := hsl
    have HD : Hid _ := hd
    have HO : Hid _ := O
    have hs30 : sl.length ≤ 30 := by
      have := smL_len ((bl.take i).map B.data)
      rw [← hd, List.length_map] at this
      exact this
    clear own hlo hsl hd O
    by_cases hlt : i < bl.length
    · have e1 : decide ((i : Int) < (bl.length : Int)) = true := decide_eq_true (by omega)
      have e2 : decide (i < bl.length) = true := decide_eq_true hlt
      obtain ⟨x, hx⟩ : ∃ x, bl[i]? = some x := ⟨_, List.getElem?_eq_getElem hlt⟩
      have hm : x ∈ bl := List.mem_of_getElem? hx
      obtain ⟨b, off, rfl, hc⟩ := HA.out.at_ i x hx
      have hc1 := keep_cell HO.out hc
      have hst := smL_step hx
      have htl := HA.out.tl x hm
      have HM : Hid _ := hm
      have HST : Hid _ := hst
      clear hx hst hm hc
      by_cases hin : i < 30 ∧ x.data.length ≤ 400
      · have q1 : decide ((i : Int) < 30) = true := decide_eq_true (by omega)
        have q2 : decide ((x.data.length : Int) ≤ 400) = true := decide_eq_true (by omega)
        rw [if_pos hin] at HST
        have h5 := hin.2
        clear hin
        obtain ⟨xa, xc, xd⟩ := x
        simp only at hc1 h5 htl q2 HST
        have OA : Off (fun _ => False) wr (wr.alloc (.cells #[.slice xa xd.length xc] 23)) := (Off.refl _ wr).alloc _
        have own4 := HOWN.out.off OA (fun _ _ _ h => h)
        have cn := Cel.new wr 23 #[.slice xa xd.length xc]
        have hcn : ∀ j u, (bcs ⟨xa, xc, xd⟩)[j]? = some u → (wr.alloc (.cells #[.slice xa xd.length xc] 23)).cell? ⟨wr.heap.size, j, none⟩ = some u := fun j u hj => by
          rw [cn.cell j]
          simpa [bcs] using hj
        have HOA : Hid _ := OA
        clear OA cn
        go_wp2_with (at_builtin; refine wpList_appG rfl (.tmp 20) (.tmp 22) Try.underlying22 Try.infoBs rfl (by decide) (by decide) bcs_len bcs_one rfl t c sl rfl own4 wr.heap.size 1 ⟨xa, xc, xd⟩ rfl hcn (by omega) ?_; intro t' c' w' ys hys own' off' at')
        have HYS : Hid _ := hys.out
        clear hys
        have HOW' : Hid _ := own'
        have HOF' : Hid _ := off'
        clear own' off' own4 hcn hc1
        go_wp2_with fail
        go_roundw
        case rel =>
          have s1 := HO.out.size
          simp only [World.size_alloc] at at'
          have tf : ∀ k, blk t' = some k → w.heap.size ≤ k := fun k hk => by
            rcases at' with h9 | h9
            · exact HLO.out k (h9 ▸ hk)
            · rw [h9] at hk; simp at hk; omega
          have FA := HO.out.trans HOA.out (fun _ _ h => h)
          refine ⟨i + 1, t', c', ys, by go_num, rfl, by omega, HOW'.out, tf, fun x hx => ?_, ?_, ((FA.mono (fun _ _ h => h.elim)).trans HOF'.out (fun _ _ h => h)).mono (fun i hi e => by have := HLO.out i e; omega)⟩
          · rw [HYS.out, List.mem_append, List.mem_singleton] at hx
            rcases hx with hx | rfl
            · exact HSL.out x hx
            · exact ⟨HM.out, h5⟩
          · rw [HYS.out, List.map_append, HD.out, HST.out]
            rfl
        case measure => simp [intOf]; omega
      · rw [if_neg hin, List.append_nil] at HST
        have HRel : Hid (∃ (j : Nat) (t' : Option Addr) (c' : Nat) (sl' : List B), ((i : Int) + 1 = (j : Int)) ∧ Value.slice t sl.length c = .slice t' sl'.length c' ∧ j ≤ bl.length ∧ OwnG 23 1 bcs wr t' c' sl' ∧ (∀ k, blk t' = some k → w.heap.size ≤ k) ∧ (∀ x ∈ sl', x ∈ bl ∧ x.data.length ≤ 400) ∧ sl'.map B.data = smL ((bl.take j).map B.data) ∧ Off (fun _ => False) w wr) := ⟨i + 1, t, c, sl, rfl, rfl, by omega, HOWN.out, HLO.out, HSL.out, by rw [HD.out, HST.out], HO.out⟩
        by_cases h30 : i < 30
        · have q1 : decide ((i : Int) < 30) = true := decide_eq_true (by omega)
          have q2 : decide ((x.data.length : Int) ≤ 400) = false := decide_eq_false (by omega)
          clear hin
          go_wp2_with fail
          go_roundw
          case rel =>
            obtain ⟨j, t', c', sl', e1, e2, r⟩ := HRel.out
            exact ⟨j, t', c', sl', by rw [← e1], e2, r⟩
          case measure => simp [intOf]; omega
        · have q1 : decide ((i : Int) < 30) = false := decide_eq_false (by omega)
          clear hin
          go_wp2_with fail
          go_roundw
          case rel =>
            obtain ⟨j, t', c', sl', e1, e2, r⟩ := HRel.out
            exact ⟨j, t', c', sl', by rw [← e1], e2, r⟩
          case measure => simp [intOf]; omega
    · have e1 : decide ((i : Int) < (bl.length : Int)) = false := decide_eq_false (by omega)
      have e2 : decide (i < bl.length) = false := decide_eq_false hlt
      have hil : i = bl.length := by omega
      have HD2 : Hid (sl.map B.data = smL (bl.map B.data)) := by
        show sl.map B.data = _
        rw [HD.out, hil, List.take_length]
      clear hil
      go_wp2_with fail
      go_ret
      exact ⟨t, c, sl, rfl, HOWN.out, HLO.out, hs30, fun x hx => ⟨(HA.out.inp x (HSL.out x hx).1).free HO.out, (HSL.out x hx).2, (HSL.out x hx).1⟩, HD2.out, HO.out⟩
end Go.Proofs.Ytmdhcoplhibbeaa
