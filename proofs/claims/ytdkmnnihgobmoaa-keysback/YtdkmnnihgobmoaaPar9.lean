/- takeByte, Parse. -/
import Derived.Test.YtdkmnnihgobmoaaTex9
namespace Go.Proofs.Ytdkmnnihgobmoaa
open Go.RowKit

theorem not_any (x : Bool) (w : World) : (Op.unary .not (.bool x)).run Try.prog w = .ok (.bool (!x)) w := rfl
theorem or16 {a b : Nat} (ha : a < 16) (hb : b < 16) : bits .or .u8 ((a : Int) * 16) (b : Int) = ((16 * a + b : Nat) : Int) := by
  rw [show (a : Int) * 16 = ((16 * a : Nat) : Int) by omega, u8_or_nat _ _ (by omega) (by omega)]
  congr 1
  have := (Nat.two_pow_add_eq_or_of_lt (i := 4) (b := b) (by omega) a).symm
  exact this
/-- What is no text of a byte. -/
theorem tk_no {l : List Nat} (h : ∀ c, c < 256 → ∀ r, l ≠ t1 c ++ r) : Tak l 0 0 false := ⟨.inr ⟨rfl, rfl, rfl, h⟩⟩
theorem tk_plain {x : Nat} {r : List Nat} {l : List Nat} (e : l = x :: r) (hx : x < 256) (h : pl x = true) : Tak l x 1 true := by
  subst e
  exact ⟨.inl ⟨rfl, hx, by rw [t1_pl h]; rfl, r, by rw [t1_pl h]; rfl⟩⟩
theorem tk_other {x : Nat} {r : List Nat} {l : List Nat} (e : l = x :: r) (h : pl x = false) (h37 : x ≠ 37) : Tak l 0 0 false := by
  subst e
  refine tk_no (fun c hc q e => ?_)
  cases hp : pl c
  · rw [t1_no hp] at e
    simp at e
    exact h37 e.1
  · rw [t1_pl hp] at e
    simp at e
    rw [e.1, hp] at h
    cases h
theorem tk_short {r : List Nat} {l : List Nat} (e : l = 37 :: r) (h : l.length < 3) : Tak l 0 0 false := by
  subst e
  refine tk_no (fun c hc q e => ?_)
  cases hp : pl c
  · rw [t1_no hp] at e
    rw [e] at h
    simp at h
    omega
  · rw [t1_pl hp] at e
    simp at e
    rw [← e.1] at hp
    cases hp
theorem tk_bad {h m : Nat} {r : List Nat} {l : List Nat} (e : l = 37 :: h :: m :: r) (hn : ¬ (dgB h = true ∧ dgB m = true ∧ pl (16 * dg h + dg m) = false)) : Tak l 0 0 false := by
  subst e
  refine tk_no (fun c hc q e => ?_)
  cases hp : pl c
  · rw [t1_no hp] at e
    simp only [List.cons_append, List.nil_append, List.cons.injEq, true_and] at e
    obtain ⟨rfl, rfl, -⟩ := e
    have k1 := hx_dg (n := c / 16) (by omega)
    have k2 := hx_dg (n := c % 16) (by omega)
    refine hn ⟨k1.1, k2.1, ?_⟩
    rw [k1.2, k2.2, show 16 * (c / 16) + c % 16 = c by omega]
    exact hp
  · rw [t1_pl hp] at e
    simp at e
    rw [← e.1] at hp
    cases hp
theorem tk_ok {h m : Nat} {r : List Nat} {l : List Nat} (e : l = 37 :: h :: m :: r) (d1 : dgB h = true) (d2 : dgB m = true) (hp : pl (16 * dg h + dg m) = false) : Tak l (16 * dg h + dg m) 3 true := by
  subst e
  have l1 := dg_lt h
  have l2 := dg_lt m
  have e1 : (16 * dg h + dg m) / 16 = dg h := by omega
  have e2 : (16 * dg h + dg m) % 16 = dg m := by omega
  exact ⟨.inl ⟨rfl, by omega, by rw [t1_no hp]; rfl, r, by rw [t1_no hp, e1, e2, dg_hx d1, dg_hx d2]; rfl⟩⟩

set_option maxRecDepth 100000 in
set_option maxHeartbeats 1000000 in
theorem takebyte_any (s : ByteArray) (h1 : 1 ≤ (tx s).length) (w : World) :
    Calls Try.prog 23 #[.string s] w fun e w' => ∃ (b n : Nat) (ok : Bool), e = .returned (.tuple #[.int .u8 (b : Int), .int .i64 (n : Int), .bool ok]) ∧ Tak (tx s) b n ok ∧ w' = w := by
  obtain ⟨x, r, htx⟩ : ∃ x r, tx s = x :: r := by
    cases h : tx s with
    | nil => rw [h] at h1; simp at h1
    | cons x r => exact ⟨x, r, rfl⟩
  have i0 := idx_any s (i := 0) (by omega) .i64
  have hx := tx_at s (i := 0) (by omega)
  rw [htx] at i0 hx
  have e0 : (x :: r).getD 0 0 = x := rfl
  rw [e0] at i0 hx
  have i0 : ∀ W, (Instr.index 9 (.string s) (.int .i64 0)).run Try.prog W = .ok (.int .u8 (x : Int)) W := i0
  have hpl := plain_any x hx
  have hl := tx_len s
  have hnot := not_any
  cases hp : pl x with
  | true =>
    rw [hp] at hpl
    have HPL : Hid _ := hpl
    have HTX : Hid _ := htx
    have HP : Hid _ := hp
    clear hpl htx hp h1 hl
    go_enter Try.func23, Try.ntmps23
    go_wp2_with fail
    refine Calls.mono (HPL.out _) ?_
    rintro e w1 ⟨rfl, hw⟩
    rw [hw]
    clear hw w1
    go_wp2_with fail
    go_ret3
    exact ⟨x, 1, true, rfl, tk_plain HTX.out hx HP.out, rfl⟩
  | false =>
    rw [hp] at hpl
    have HPL : Hid _ := hpl
    have HP : Hid _ := hp
    clear hpl hp
    by_cases h37 : x = 37
    · subst h37
      by_cases h3 : (tx s).length < 3
      · have d3 : decide ((s.size : Int) < 3) = true := decide_eq_true (by omega)
        have HTX : Hid _ := htx
        have H3 : Hid _ := h3
        clear htx h3 h1 hl
        go_enter Try.func23, Try.ntmps23
        go_wp2_with fail
        refine Calls.mono (HPL.out _) ?_
        rintro e w1 ⟨rfl, hw⟩
        rw [hw]
        clear hw w1
        go_wp2_with fail
        go_ret3
        exact ⟨0, 0, false, rfl, tk_short HTX.out H3.out, rfl⟩
      · have d3 : decide ((s.size : Int) < 3) = false := decide_eq_false (by omega)
        obtain ⟨h, m, q, rfl⟩ : ∃ h m q, r = h :: m :: q := by
          rw [htx] at h3
          match r, h3 with
          | [], h3 => simp at h3
          | [_], h3 => simp at h3
          | h :: m :: q, _ => exact ⟨h, m, q, rfl⟩
        have i1 := idx_any s (i := 1) (by omega) .i64
        have l1 := tx_at s (i := 1) (by omega)
        have i2 := idx_any s (i := 2) (by omega) .i64
        have l2 := tx_at s (i := 2) (by omega)
        rw [htx] at i1 l1 i2 l2
        have i1 : ∀ W, (Instr.index 9 (.string s) (.int .i64 1)).run Try.prog W = .ok (.int .u8 (h : Int)) W := i1
        have i2 : ∀ W, (Instr.index 9 (.string s) (.int .i64 2)).run Try.prog W = .ok (.int .u8 (m : Int)) W := i2
        have l1 : h < 256 := l1
        have l2 : m < 256 := l2
        have HTX : Hid _ := htx
        clear htx h3 h1 hl
        go_enter Try.func23, Try.ntmps23
        go_wp2_with fail
        refine Calls.mono (HPL.out _) ?_
        rintro e w1 ⟨rfl, hw⟩
        rw [hw]
        clear hw w1
        go_wp2_with fail
        refine (digit_any h (by omega) _).mono ?_
        rintro e w1 ⟨rfl, hw⟩
        rw [hw]
        clear hw w1
        obtain ⟨dh, hdh⟩ : ∃ d, d = dg h := ⟨_, rfl⟩
        rw [← hdh]
        have HDh : Hid _ := hdh
        have ldh := dg_lt h
        rw [← hdh] at ldh
        clear hdh
        go_wp2_with fail
        refine (digit_any m (by omega) _).mono ?_
        rintro e w1 ⟨rfl, hw⟩
        rw [hw]
        clear hw w1
        obtain ⟨dm, hdm⟩ : ∃ d, d = dg m := ⟨_, rfl⟩
        rw [← hdm]
        have HDm : Hid _ := hdm
        have ldm := dg_lt m
        rw [← hdm] at ldm
        clear hdm
        obtain ⟨b, hb⟩ : ∃ b, b = 16 * dh + dm := ⟨_, rfl⟩
        have OR : bits .or .u8 ((dh : Int) * 16) (dm : Int) = (b : Int) := by rw [or16 (by omega) (by omega), hb]
        have lb : b < 256 := by omega
        have HB : Hid _ := hb
        clear hb
        cases hdh : dgB h with
        | false =>
          have BH : Hid _ := hdh
          clear hdh
          go_wp2_with fail
          go_ret3
          exact ⟨0, 0, false, rfl, tk_bad HTX.out (by simp [BH.out]), rfl⟩
        | true =>
          cases hdm : dgB m with
          | false =>
            have BM : Hid _ := hdm
            clear hdm hdh
            go_wp2_with fail
            go_ret3
            exact ⟨0, 0, false, rfl, tk_bad HTX.out (by simp [BM.out]), rfl⟩
          | true =>
            have BM : Hid _ := hdm
            have BH : Hid _ := hdh
            clear hdm hdh
            go_wp2_with fail
            refine (plain_any b lb _).mono ?_
            rintro e w1 ⟨rfl, hw⟩
            rw [hw]
            clear hw w1
            cases hpb : pl b with
            | true =>
              have PB : Hid _ := hpb
              clear hpb
              go_wp2_with fail
              go_ret3
              exact ⟨0, 0, false, rfl, tk_bad HTX.out (by rw [← HDh.out, ← HDm.out, ← HB.out, PB.out]; simp), rfl⟩
            | false =>
              have PB : Hid _ := hpb
              clear hpb
              go_wp2_with fail
              go_ret3
              refine ⟨b, 3, true, rfl, ?_, rfl⟩
              have := tk_ok HTX.out BH.out BM.out (by rw [← HDh.out, ← HDm.out, ← HB.out]; exact PB.out)
              rw [← HDh.out, ← HDm.out, ← HB.out] at this
              exact this
    · have d37 : ((x : Int) == 37) = false := by rw [beq_eq_false_iff_ne]; omega
      have HTX : Hid _ := htx
      clear htx h1 hl
      go_enter Try.func23, Try.ntmps23
      go_wp2_with fail
      refine Calls.mono (HPL.out _) ?_
      rintro e w1 ⟨rfl, hw⟩
      rw [hw]
      clear hw w1
      go_wp2_with fail
      go_ret3
      exact ⟨0, 0, false, rfl, tk_other HTX.out HP.out h37, rfl⟩

/-- What is left of a text behind the text of some bytes. -/
theorem told_no {l k : List Nat} {r : List Nat} (e : l = txt k ++ r) (hk : ∀ x ∈ k, x < 256) (hr : r ≠ []) (hn : ∀ c, c < 256 → ∀ q, r ≠ t1 c ++ q) : Told l ⟨#[]⟩ false := by
  refine ⟨.inr ⟨rfl, rfl, fun k' hk' e' => ?_⟩⟩
  rw [e] at e'
  obtain ⟨k2, rfl, e2, h2⟩ := txt_cut hk hk' e'.symm
  cases k2 with
  | nil => exact hr e2.symm
  | cons c k3 =>
    rw [txt_cons] at e2
    exact hn c (h2 c (by simp)) _ e2.symm
theorem rest_any (s : ByteArray) {i : Nat} (h : i ≤ (tx s).length) : ∃ r, tx r = (tx s).drop i ∧ ∀ k W, (Instr.slice 9 (.string s) (some (.int k (i : Int))) none none).run Try.prog W = .ok (.string r) W := by
  refine ⟨s.extract i s.size, ?_, fun k W => ?_⟩
  · rw [tx_extract, ← tx_len, List.take_length]
  · rw [tx_len] at h
    rw [run_slice_string_from_if W 9 s k (i : Int) Try.underlying9]
    rw [if_pos (by omega)]
    rfl
set_option maxRecDepth 100000 in
set_option maxHeartbeats 1000000 in
theorem parse_any (s : ByteArray) (hs : s.size ≤ 140737488351232) (w : World) :
    Calls Try.prog 18 #[.string s] w fun e w' => ∃ (r : ByteArray) (ok : Bool), e = .returned (.tuple #[.string r, .bool ok]) ∧ Told (tx s) r ok ∧ Off (fun _ => False) w w' := by
  have hl := tx_len s
  have HL : Hid _ := hl
  have hnot := not_any
  clear hl
  go_enter Try.func18, Try.ntmps18
  go_wp2
  go_loopw [4, 5] (fun l i wr => ∃ (j : Nat) (t : Option Addr) (c : Nat) (ys : List Nat), j ≤ s.size ∧ ys.length ≤ j ∧ i = .int .i64 j ∧ l = .slice t ys.length c ∧ Hid (tx s = txt ys ++ (tx s).drop j ∧ ∀ x ∈ ys, x < 256) ∧ OwnR wr t c ys ∧ Off (fun _ => False) w wr ∧ ∀ k, blk t = some k → w.heap.size ≤ k) (fun _ i _ => (s.size - intOf i).toNat)
  case atStart => exact ⟨0, none, 0, [], by omega, by simp, rfl, rfl, (⟨rfl, by simp⟩ : tx s = txt [] ++ (tx s).drop 0 ∧ ∀ x ∈ ([] : List Nat), x < 256), OwnR.nil _, Off.refl _ _, by simp [blk]⟩
  case round =>
    obtain ⟨j, t, c, ys, hj, hyj, rfl, rfl, HYS, own, off, hfr⟩ := hrel
    have OWN : Hid _ := own
    have OFF : Hid _ := off
    have FR : Hid _ := hfr
    clear own off hfr
    by_cases hlt : j < s.size
    · obtain ⟨r, hr, SL⟩ := rest_any s (i := j) (by rw [HL.out]; omega)
      have SLI := SL .i64
      have HR : Hid _ := hr
      have hrl : 1 ≤ (tx r).length := by rw [hr, List.length_drop, HL.out]; omega
      clear hr SL
      have HTB : Hid _ := takebyte_any r hrl
      clear hrl
      go_wp2_with fail
      refine Calls.mono (HTB.out _) ?_
      rintro e w1 ⟨b, n, ok, rfl, tak, hw⟩
      rw [hw]
      clear hw w1
      rcases tak.is with ⟨rfl, hb, hn, q, hq⟩ | ⟨rfl, rfl, rfl, hno⟩
      · have S1 := src_new wr b
        have hn3 := t1_len b
        rw [← hn] at hn3
        have hlq : n ≤ s.size - j := by
          have e1 : (tx r).length = s.size - j := by rw [HR.out, List.length_drop, HL.out]
          rw [← e1, hq, List.length_append, ← hn]
          omega
        have NEW : Hid (tx s = txt (ys ++ [b]) ++ (tx s).drop (j + n) ∧ ∀ x ∈ ys ++ [b], x < 256) := by
          refine ⟨?_, fun x hx => ?_⟩
          · rw [txt_snoc, List.append_assoc]
            have e2 : t1 b ++ (tx s).drop (j + n) = (tx s).drop j := by
              have e3 : (tx s).drop j = t1 b ++ q := by rw [← HR.out, hq]
              have e4 : (tx s).drop (j + n) = q := by rw [← List.drop_drop, e3, hn, List.drop_left]
              rw [e4, e3]
            rw [e2]
            exact HYS.out.1
          · rcases List.mem_append.1 hx with h | h
            · exact HYS.out.2 x h
            · simp at h
              omega
        clear hq hn tak
        go_wp2_with (at_builtin; refine wpList_app rfl (.tmp 23) (.tmp 25) rfl t c ys rfl (OWN.out.off ((Off.refl (fun _ => False) wr).alloc _) (fun _ _ _ h => h)) (some ⟨wr.heap.size, 0, none⟩) 1 [b] rfl S1 (by simp; omega) ?_; intro t2 c2 w2 zs hzs own2 off2 at2)
        have hzl : zs.length ≤ j + n := by rw [hzs.out, List.length_append]; simp; omega
        have OFF2 : Hid (Off (fun _ => False) w w2) := ((OFF.out.alloc _).mono (E := fun c => w.heap.size ≤ c) (fun _ _ h => h.elim)).trans off2 (fun k _ h => FR.out k h) |>.mono (fun i hi h => by omega)
        have FR2 : Hid (∀ k, blk t2 = some k → w.heap.size ≤ k) := fun k hk => by
          have := OFF.out.size
          rcases at2 with e | e
          · exact FR.out k (e ▸ hk)
          · rw [e] at hk
            simp at hk
            omega
        go_roundw
        case rel => exact ⟨j + n, t2, c2, zs, by omega, hzl, by go_num, rfl, (by rw [hzs.out]; exact NEW.out : tx s = txt zs ++ (tx s).drop (j + n) ∧ ∀ x ∈ zs, x < 256), own2, OFF2.out, FR2.out⟩
        case measure => simp [intOf]; omega
      · have NO : Hid (Told (tx s) ⟨#[]⟩ false) := told_no (k := ys) (r := tx r) (by rw [HR.out]; exact HYS.out.1) HYS.out.2 (by
          intro e
          have e1 : (tx r).length = s.size - j := by rw [HR.out, List.length_drop, HL.out]
          rw [e] at e1
          simp at e1
          omega) hno
        clear hno tak
        go_wp2_with fail
        go_ret2
        exact ⟨⟨#[]⟩, false, rfl, NO.out, OFF.out⟩
    · obtain rfl : j = s.size := by omega
      have hcs := conv_src OWN.out.src
      go_wp2_with fail
      go_ret2
      refine ⟨strOf ys, true, rfl, ⟨.inl ⟨rfl, ?_⟩⟩, OFF.out⟩
      rw [tx_strOf HYS.out.2]
      have := HYS.out.1
      rw [List.drop_of_length_le (by rw [HL.out]; exact Nat.le_refl _), List.append_nil] at this
      exact this.symm
end Go.Proofs.Ytdkmnnihgobmoaa
