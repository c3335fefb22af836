/- The reference's Parse. -/
import Derived.Test.YtalcfkdmlebkbaaDoorNumber
namespace Go.Proofs.YtalcfkdmlebkbaaDoor
open Go.RowKit

theorem ext_mid (l : List UInt8) (a b : Nat) : (⟨l.toArray⟩ : ByteArray).extract a b = ⟨((l.take b).drop a).toArray⟩ := by
  apply ByteArray.ext
  simp [ByteArray.data_extract]
  rw [List.drop_take]
theorem getD_mem {x : List UInt8} {j : Nat} (h : j < x.length) : x.getD j 0 ∈ x := by
  rw [List.getD_eq_getElem?_getD, List.getElem?_eq_getElem h]
  simp
theorem seg_step {f : Nat → Int} {m k : Nat} {d : List UInt8} (hd : d = tailT f m k) {p : Nat} (hno : ∀ j, j < p → d.getD j 0 ≠ 44) (hend : p = d.length ∨ (p < d.length ∧ d.getD p 0 = 44)) :
    d.take p = Lib.itoa (f k) ∧ ((m = 0 ∧ p = d.length) ∨ ∃ m', m = m' + 1 ∧ p < d.length ∧ d.drop (p + 1) = tailT f m' (k + 1)) := by
  cases m with
  | zero =>
    have hx : d = Lib.itoa (f k) := hd
    rcases hend with h | ⟨h1, h2⟩
    · refine ⟨by rw [h, List.take_length]; exact hx, .inl ⟨rfl, h⟩⟩
    · have := getD_mem h1
      rw [h2, hx] at this
      exact absurd this (itoa_44' _)
  | succ m =>
    have hx : d = Lib.itoa (f k) ++ 44 :: tailT f m (k + 1) := hd
    have h44 := itoa_44' (f k)
    generalize Lib.itoa (f k) = x at hx h44
    have hl : d.length = x.length + 1 + (tailT f m (k + 1)).length := by rw [hx]; simp; omega
    have h1 : d.getD x.length 0 = 44 := by rw [hx]; simp [List.getD_eq_getElem?_getD]
    have hp : p = x.length := by
      rcases Nat.lt_trichotomy p x.length with h | h | h
      · rcases hend with h2 | ⟨-, h2⟩
        · omega
        · have e : d.getD p 0 = x.getD p 0 := by rw [hx]; simp [List.getD_eq_getElem?_getD, List.getElem?_append_left h]
          have := getD_mem h
          rw [← e, h2] at this
          exact absurd this h44
      · exact h
      · exact absurd h1 (hno _ h)
    subst hp
    refine ⟨by rw [hx]; simp, .inr ⟨m, rfl, by omega, ?_⟩⟩
    rw [hx]
    simp
theorem textV_len {f : Nat → Int} (h : mayB f = true) : (textV f).length ≤ 200 := by
  rw [textV_top]
  have h1 := topV_le f
  have := textL_len f (fun j hj => by have := may_at h hj; omega) (topV f) h1.2
  omega
/-- How far the reference has come with a text that is one. -/
structure Far (l : List UInt8) (fr k i : Nat) (g : Nat → Int) : Prop where
  is : ∀ f, mayB f = true → l = textV f → (i ≤ l.length ∧ fr ≤ i ∧ k < topV f ∧ l.drop fr = tailT f (topV f - 1 - k) k ∧ (∀ j, fr ≤ j → j < i → l.getD j 0 ≠ 44) ∧ ∀ j, j < k → g j = f j) ∨ (i = l.length + 1 ∧ ∀ j, j < 8 → g j = f j)
theorem Far.start (l : List UInt8) (g : Nat → Int) : Far l 0 0 0 g := by
  refine ⟨fun f _ e => .inl ?_⟩
  have h := topV_le f
  refine ⟨by omega, by omega, by omega, ?_, fun j _ h => by omega, fun j h => by omega⟩
  obtain ⟨n, hn⟩ : ∃ n, topV f = n + 1 := ⟨topV f - 1, by omega⟩
  rw [e, textV_top, hn, textL_tail]
  rfl
theorem Far.skip {l : List UInt8} {fr k i : Nat} {g : Nat → Int} (h : Far l fr k i g) (hi : i < l.length) (h44 : l.getD i 0 ≠ 44) : Far l fr k (i + 1) g := by
  refine ⟨fun f hf e => .inl ?_⟩
  rcases h.is f hf e with ⟨h1, h2, h3, h4, h5, h6⟩ | ⟨h1, -⟩
  · refine ⟨by omega, by omega, h3, h4, fun j a b => ?_, h6⟩
    rcases Nat.lt_or_ge j i with h | h
    · exact h5 j a h
    · rw [show j = i by omega]; exact h44
  · omega
theorem Far.seg {l : List UInt8} {fr k i : Nat} {g : Nat → Int} (h : Far l fr k i g) (hi : i ≤ l.length) (hend : i = l.length ∨ l.getD i 0 = 44) (hgz : ∀ j, k ≤ j → j < 8 → g j = 0) {f : Nat → Int} (hf : mayB f = true) (e : l = textV f) :
    (l.take i).drop fr = Lib.itoa (f k) ∧ k < 8 ∧ (0 ≤ f k ∧ f k ≤ 1099511627776) ∧ ∀ n, n = f k → ((i + 1 ≤ l.length ∧ k + 1 < topV f ∧ l.drop (i + 1) = tailT f (topV f - 1 - (k + 1)) (k + 1) ∧ ∀ j, j < k + 1 → upd g k n j = f j) ∨ (i + 1 = l.length + 1 ∧ ∀ j, j < 8 → upd g k n j = f j)) := by
  rcases h.is f hf e with ⟨h1, h2, h3, h4, h5, h6⟩ | ⟨h1, -⟩
  · have h8 := topV_le f
    have hgd : ∀ j, (l.drop fr).getD j 0 = l.getD (fr + j) 0 := fun j => by simp [List.getD_eq_getElem?_getD]
    have hdl : (l.drop fr).length = l.length - fr := by simp
    obtain ⟨s1, s2⟩ := seg_step h4 (p := i - fr) (fun j hj => by rw [hgd]; exact h5 _ (by omega) (by omega)) (by
      rcases hend with h | h
      · left; rw [hdl]; omega
      · rcases Nat.lt_or_ge i l.length with h7 | h7
        · right
          refine ⟨by rw [hdl]; omega, ?_⟩
          rw [hgd, show fr + (i - fr) = i by omega]
          exact h
        · left; rw [hdl]; omega)
    have hseg : (l.take i).drop fr = Lib.itoa (f k) := by rw [List.drop_take]; exact s1
    refine ⟨hseg, by omega, may_at hf (by omega), fun n hn => ?_⟩
    have hup : ∀ j, j < k + 1 → upd g k n j = f j := by
      intro j hj
      simp only [upd]
      split
      · subst j; exact hn
      · exact h6 j (by omega)
    rcases s2 with ⟨m0, hp⟩ | ⟨m', hm, hp, hdr⟩
    · right
      rw [hdl] at hp
      refine ⟨by omega, fun j hj => ?_⟩
      rcases Nat.lt_or_ge j (k + 1) with h | h
      · exact hup j h
      · simp only [upd]
        rw [if_neg (by omega), hgz j (by omega) hj, topV_zero f j (by omega) hj]
    · left
      rw [hdl] at hp
      refine ⟨by omega, by omega, ?_, hup⟩
      rw [List.drop_drop] at hdr
      rw [show topV f - 1 - (k + 1) = m' by omega, ← hdr]
      congr 1
      omega
  · omega
set_option maxRecDepth 100000 in
set_option maxHeartbeats 1000000 in
theorem fparse_any (l : List UInt8) (hl : l.length ≤ 140737488351232) (w : World) (ht : Tab w) :
    Calls Tryd.prog 35 #[.string ⟨l.toArray⟩] w fun e w' => Off (fun _ => False) w w' ∧ ∃ (g : Nat → Int) (ok : Bool), e = .returned (.tuple #[.agg #[.int .i64 (g 0), .int .i64 (g 1), .int .i64 (g 2), .int .i64 (g 3), .int .i64 (g 4), .int .i64 (g 5), .int .i64 (g 6), .int .i64 (g 7)], .bool ok]) ∧ Told l g ok := by
  have hnot := not_any
  have hsz : (⟨l.toArray⟩ : ByteArray).size = l.length := by simp [ByteArray.size]
  have HT : Hid (∀ w', Off (fun _ => False) w w' → Tab w') := fun w' h => ht.off h (fun _ _ h => h)
  clear ht
  by_cases h200 : 200 < l.length
  · have e0 : decide ((200 : Int) < (l.length : Int)) = true := by simp; omega
    go_enter Tryd.func35, Tryd.ntmps35
    go_wp2_with fail
    refine bodyPost_ret (results_vecb (f := zer) rfl rfl rfl ((Cel.new w _ _).alloc _)) rfl ?_
    refine ⟨((Off.refl _ w).alloc _).alloc _, zer, false, rfl, ⟨.inr ⟨rfl, fun j => rfl, fun f hf e => ?_⟩⟩⟩
    have := textV_len hf
    rw [← e] at this
    omega
  · have e0 : decide ((200 : Int) < (l.length : Int)) = false := by simp; omega
    go_enter Tryd.func35, Tryd.ntmps35
    go_wp2_with fail
    go_loopw [5, 6, 7] (fun a b y wr => ∃ (fr k i : Nat) (g : Nat → Int), a = .int .i64 (fr : Int) ∧ b = .int .i64 (k : Int) ∧ y = .int .i64 (i : Int) ∧ i ≤ l.length + 1 ∧ fr ≤ i ∧ k ≤ 8 ∧ Far l fr k i g ∧ (∀ j, k ≤ j → j < 8 → g j = 0) ∧ (∀ j, j < 8 → -9223372036854775808 ≤ g j ∧ g j ≤ 9223372036854775807) ∧ Cel (w.heap.size + 1) 23 #[.int .i64 (g 0), .int .i64 (g 1), .int .i64 (g 2), .int .i64 (g 3), .int .i64 (g 4), .int .i64 (g 5), .int .i64 (g 6), .int .i64 (g 7)] wr ∧ Cel w.heap.size 23 #[.int .i64 (zer 0), .int .i64 (zer 1), .int .i64 (zer 2), .int .i64 (zer 3), .int .i64 (zer 4), .int .i64 (zer 5), .int .i64 (zer 6), .int .i64 (zer 7)] wr ∧ Off (fun _ => False) w wr) (fun _ _ y _ => (202 - intOf y).toNat)
    case atStart =>
      exact ⟨0, 0, 0, zer, rfl, rfl, rfl, by omega, by omega, by omega, Far.start l zer, fun j _ _ => rfl, fun j _ => by simp [zer], Cel.new1 w _ _ _, (Cel.new w _ _).alloc _, ((Off.refl _ w).alloc _).alloc _⟩
    case round =>
      obtain ⟨fr, k, i, g, rfl, rfl, rfl, hi, hfr, hk, far, gz, gr, cv, cz, O⟩ := hrel
      have FAR : Hid _ := far
      have GZ : Hid _ := gz
      have GR : Hid _ := gr
      have CV : Hid _ := cv
      have CZ : Hid _ := cz
      clear far gz gr cv cz
      by_cases hil : i ≤ l.length
      · have e1 : decide ((i : Int) ≤ (l.length : Int)) = true := by simp; omega
        have e1b : decide (i ≤ l.length) = true := by simp; omega
        have rest : (i = l.length ∨ l.getD i 0 = 44) → decide ((i : Int) < (l.length : Int)) = false ∨ (decide ((i : Int) < (l.length : Int)) = true ∧ i < l.length ∧ l.getD i 0 = 44) := by
          intro h
          rcases Nat.lt_or_ge i l.length with h7 | h7
          · right
            exact ⟨by simp; omega, h7, h.resolve_left (by omega)⟩
          · left; simp; omega
        by_cases hc : i = l.length ∨ l.getD i 0 = 44
        · have hc0 := hc
          rcases rest hc0 with e2 | ⟨e2, hlt, h44⟩
          · have e2b : decide (i < l.length) = false := by simp at e2 ⊢; omega
            have sg := fun f hf e => FAR.out.seg hil hc GZ.out (f := f) hf e
            have SG : Hid _ := sg
            have em := ext_mid l fr i
            have hsl : ((l.take i).drop fr).length ≤ 200 := by simp; omega
            have e5 : decide ((fr : Int) ≤ (i : Int)) = true := by simp; omega
            have e5b : decide (fr ≤ i) = true := by simp; omega
            have NB := number_any ((l.take i).drop fr) hsl
            have HNB : Hid _ := NB
            clear sg hsl NB hc hc0
            clear rest
            go_wp2_with fail
            refine (HNB.out _).mono ?_
            rintro e v1 ⟨hw, n, ok2, rfl, nok⟩
            rw [hw]; clear hw v1
            have NOK : Hid _ := nok
            clear nok
            cases ok2 with
            | false =>
              obtain ⟨d0, d1, d2, d3, d4, d5, d6, d7⟩ := cel8 CZ.out
              have fr0 := CZ.out.free
              go_wp2_with fail
              refine bodyPost_ret (results_vecb rfl rfl rfl (CZ.out.st8 zer)) rfl ?_
              refine ⟨O.st8 (.inr (by omega)) zer, zer, false, rfl, ⟨.inr ⟨rfl, fun j => rfl, fun f hf e => ?_⟩⟩⟩
              obtain ⟨s1, -, s3, -⟩ := SG.out f hf e
              have := (NOK.out.2 (f k) s3.1 s3.2 s1).1
              cases this
            | true =>
              by_cases hk8 : k < 8
              · have e6 : decide ((8 : Int) ≤ (k : Int)) = false := by simp; omega
                have e6b : decide (8 ≤ k) = false := by simp; omega
                have ha := at_vec (w.heap.size + 1) hk8
                have hc2 : wr.cell? ⟨w.heap.size + 1, k, none⟩ = some (.int .i64 (g k)) := (CV.out.cell k).trans (vec_get g hk8)
                have hf2 := CV.out.free k
                go_wp2_with fail
                go_roundw
                case rel =>
                  refine ⟨i + 1, k + 1, i + 1, upd g k n, by go_num, by go_num, by go_num, by omega, by omega, by omega, ⟨fun f hf e => ?_⟩, fun j h1 h2 => ?_, fun j hj => ?_, ?_, CZ.out.other (by simp) _, O.setCell (.inr (by simp)) _⟩
                  · obtain ⟨s1, s2, s3, s4⟩ := SG.out f hf e
                    have hn := (NOK.out.2 (f k) s3.1 s3.2 s1).2
                    rcases s4 n hn with ⟨a1, a2, a3, a4⟩ | ⟨a1, a2⟩
                    · exact .inl ⟨a1, by omega, a2, a3, fun j h1 h2 => by omega, a4⟩
                    · exact .inr ⟨a1, a2⟩
                  · simp only [upd]
                    rw [if_neg (by omega)]
                    exact GZ.out j (by omega) h2
                  · simp only [upd]
                    split
                    · exact NOK.out.1
                    · exact GR.out j hj
                  · have := CV.out.set k (.int .i64 n)
                    rw [vec_set g hk8] at this
                    exact this
                case measure => simp [intOf]; omega
              · have e6 : decide ((8 : Int) ≤ (k : Int)) = true := by simp; omega
                have e6b : decide (8 ≤ k) = true := by simp; omega
                obtain ⟨d0, d1, d2, d3, d4, d5, d6, d7⟩ := cel8 CZ.out
                have fr0 := CZ.out.free
                go_wp2_with fail
                refine bodyPost_ret (results_vecb rfl rfl rfl (CZ.out.st8 zer)) rfl ?_
                refine ⟨O.st8 (.inr (by omega)) zer, zer, false, rfl, ⟨.inr ⟨rfl, fun j => rfl, fun f hf e => ?_⟩⟩⟩
                obtain ⟨-, s2, -⟩ := SG.out f hf e
                omega
          · have sg := fun f hf e => FAR.out.seg hil hc GZ.out (f := f) hf e
            have SG : Hid _ := sg
            have em := ext_mid l fr i
            have hsl : ((l.take i).drop fr).length ≤ 200 := by simp; omega
            have e5 : decide ((fr : Int) ≤ (i : Int)) = true := by simp; omega
            have e5b : decide (fr ≤ i) = true := by simp; omega
            have NB := number_any ((l.take i).drop fr) hsl
            have HNB : Hid _ := NB
            clear sg hsl NB hc hc0
            have ix := idx_str l hlt
            have e3 : (((l.getD i 0).toNat : Int) != 44) = false := by rw [h44]; rfl
            obtain ⟨c, hcc⟩ : ∃ c, c = (l.getD i 0).toNat := ⟨_, rfl⟩
            rw [← hcc] at ix e3
            clear hcc h44 rest
            have e2b : decide (i < l.length) = true := by simp; omega
            go_wp2_with fail
            refine (HNB.out _).mono ?_
            rintro e v1 ⟨hw, n, ok2, rfl, nok⟩
            rw [hw]; clear hw v1
            have NOK : Hid _ := nok
            clear nok
            cases ok2 with
            | false =>
              obtain ⟨d0, d1, d2, d3, d4, d5, d6, d7⟩ := cel8 CZ.out
              have fr0 := CZ.out.free
              go_wp2_with fail
              refine bodyPost_ret (results_vecb rfl rfl rfl (CZ.out.st8 zer)) rfl ?_
              refine ⟨O.st8 (.inr (by omega)) zer, zer, false, rfl, ⟨.inr ⟨rfl, fun j => rfl, fun f hf e => ?_⟩⟩⟩
              obtain ⟨s1, -, s3, -⟩ := SG.out f hf e
              have := (NOK.out.2 (f k) s3.1 s3.2 s1).1
              cases this
            | true =>
              by_cases hk8 : k < 8
              · have e6 : decide ((8 : Int) ≤ (k : Int)) = false := by simp; omega
                have e6b : decide (8 ≤ k) = false := by simp; omega
                have ha := at_vec (w.heap.size + 1) hk8
                have hc2 : wr.cell? ⟨w.heap.size + 1, k, none⟩ = some (.int .i64 (g k)) := (CV.out.cell k).trans (vec_get g hk8)
                have hf2 := CV.out.free k
                go_wp2_with fail
                go_roundw
                case rel =>
                  refine ⟨i + 1, k + 1, i + 1, upd g k n, by go_num, by go_num, by go_num, by omega, by omega, by omega, ⟨fun f hf e => ?_⟩, fun j h1 h2 => ?_, fun j hj => ?_, ?_, CZ.out.other (by simp) _, O.setCell (.inr (by simp)) _⟩
                  · obtain ⟨s1, s2, s3, s4⟩ := SG.out f hf e
                    have hn := (NOK.out.2 (f k) s3.1 s3.2 s1).2
                    rcases s4 n hn with ⟨a1, a2, a3, a4⟩ | ⟨a1, a2⟩
                    · exact .inl ⟨a1, by omega, a2, a3, fun j h1 h2 => by omega, a4⟩
                    · exact .inr ⟨a1, a2⟩
                  · simp only [upd]
                    rw [if_neg (by omega)]
                    exact GZ.out j (by omega) h2
                  · simp only [upd]
                    split
                    · exact NOK.out.1
                    · exact GR.out j hj
                  · have := CV.out.set k (.int .i64 n)
                    rw [vec_set g hk8] at this
                    exact this
                case measure => simp [intOf]; omega
              · have e6 : decide ((8 : Int) ≤ (k : Int)) = true := by simp; omega
                have e6b : decide (8 ≤ k) = true := by simp; omega
                obtain ⟨d0, d1, d2, d3, d4, d5, d6, d7⟩ := cel8 CZ.out
                have fr0 := CZ.out.free
                go_wp2_with fail
                refine bodyPost_ret (results_vecb rfl rfl rfl (CZ.out.st8 zer)) rfl ?_
                refine ⟨O.st8 (.inr (by omega)) zer, zer, false, rfl, ⟨.inr ⟨rfl, fun j => rfl, fun f hf e => ?_⟩⟩⟩
                obtain ⟨-, s2, -⟩ := SG.out f hf e
                omega
        · have hlt : i < l.length := by omega
          have h44 : l.getD i 0 ≠ 44 := fun h => hc (.inr h)
          have e2 : decide ((i : Int) < (l.length : Int)) = true := by simp; omega
          have e2b : decide (i < l.length) = true := by simp; omega
          have ix := idx_str l hlt
          have e3 : (((l.getD i 0).toNat : Int) != 44) = true := by
            rw [bne_iff_ne]
            intro h
            refine h44 (UInt8.toNat_inj.1 ?_)
            have e : (44 : UInt8).toNat = 44 := rfl
            omega
          have FS := FAR.out.skip hlt h44
          have HFS : Hid _ := FS
          clear FS rest hc h44
          obtain ⟨c, hcc⟩ : ∃ c, c = (l.getD i 0).toNat := ⟨_, rfl⟩
          rw [← hcc] at ix e3
          clear hcc
          go_wp2_with fail
          go_roundw
          case rel => exact ⟨fr, k, i + 1, g, rfl, rfl, by go_num, by omega, by omega, hk, HFS.out, GZ.out, GR.out, CV.out, CZ.out, O⟩
          case measure => simp [intOf]; omega
      · obtain rfl : i = l.length + 1 := by omega
        have e1 : decide (((l.length + 1 : Nat) : Int) ≤ (l.length : Int)) = false := by simp; omega
        have e1b : decide (l.length + 1 ≤ l.length) = false := by simp
        have GF : Hid (∀ f, mayB f = true → l = textV f → ∀ j, j < 8 → g j = f j) := by
          intro f hf e
          rcases FAR.out.is f hf e with ⟨h1, -⟩ | ⟨-, h2⟩
          · omega
          · exact h2
        clear FAR GZ
        obtain ⟨c0, c1, c2, c3, c4, c5, c6, c7⟩ := cel8 CV.out
        go_wp2_with fail
        clear c0 c1 c2 c3 c4 c5 c6 c7
        refine (fmay_any g _).mono ?_
        rintro e v3 ⟨rfl, o3⟩
        have V3 := CV.out.off o3 (fun h => h)
        have Z3 := CZ.out.off o3 (fun h => h)
        have O3 := O.trans o3 (fun _ _ h => h)
        clear o3 CV CZ O
        by_cases hm : mayB g = true
        · rw [hm]
          have HM : Hid _ := hm
          clear hm
          obtain ⟨c0, c1, c2, c3, c4, c5, c6, c7⟩ := cel8 V3
          go_wp2_with fail
          clear c0 c1 c2 c3 c4 c5 c6 c7
          refine (ftext_any g GR.out _ (HT.out _ O3)).mono ?_
          rintro e v4 ⟨rfl, o4⟩
          have V4 := V3.off o4 (fun h => h)
          have Z4 := Z3.off o4 (fun h => h)
          have O4 := O3.trans o4 (fun _ _ h => h)
          clear o4 V3 Z3 O3
          obtain ⟨c0, c1, c2, c3, c4, c5, c6, c7⟩ := cel8 V4
          obtain ⟨d0, d1, d2, d3, d4, d5, d6, d7⟩ := cel8 Z4
          have fr0 := Z4.free
          have HZ : Hid _ := Z4
          clear V4 Z4
          by_cases ht : textV g = l
          · have e7 : (textV g == l) = true := by simp [ht]
            have HTX : Hid _ := ht
            clear ht
            go_wp2_with fail
            refine bodyPost_ret (results_vecb rfl rfl rfl (HZ.out.st8 g)) rfl ?_
            exact ⟨O4.st8 (.inr (by omega)) g, g, true, rfl, ⟨.inl ⟨rfl, HM.out, HTX.out.symm⟩⟩⟩
          · have e7 : (textV g == l) = false := by simp [ht]
            have HTX : Hid _ := ht
            clear ht
            go_wp2_with fail
            refine bodyPost_ret (results_vecb rfl rfl rfl (HZ.out.st8 zer)) rfl ?_
            refine ⟨O4.st8 (.inr (by omega)) zer, zer, false, rfl, ⟨.inr ⟨rfl, fun j => rfl, fun f hf e => ?_⟩⟩⟩
            exact HTX.out ((textV_congr (GF.out f hf e)).trans e.symm)
        · have hm : mayB g = false := by simpa using hm
          rw [hm]
          have HM : Hid _ := hm
          clear hm
          obtain ⟨d0, d1, d2, d3, d4, d5, d6, d7⟩ := cel8 Z3
          have fr0 := Z3.free
          have HZ : Hid _ := Z3
          clear V3 Z3
          go_wp2_with fail
          refine bodyPost_ret (results_vecb rfl rfl rfl (HZ.out.st8 zer)) rfl ?_
          refine ⟨O3.st8 (.inr (by omega)) zer, zer, false, rfl, ⟨.inr ⟨rfl, fun j => rfl, fun f hf e => ?_⟩⟩⟩
          have h1 := GF.out f hf e
          have : mayB g = true := by
            simp only [mayB, decide_eq_true_eq]
            intro j hj
            rw [h1 j hj]
            exact may_at hf hj
          rw [HM.out] at this
          cases this
end Go.Proofs.YtalcfkdmlebkbaaDoor
