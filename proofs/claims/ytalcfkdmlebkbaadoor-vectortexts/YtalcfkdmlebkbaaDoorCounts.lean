/- counts and Parse: whatever the text. -/
import Derived.Test.YtalcfkdmlebkbaaDoorCutV
import Derived.Test.YtalcfkdmlebkbaaDoorVR
import Derived.Lib.AtoiErrMem
namespace Go.Proofs.YtalcfkdmlebkbaaDoor
open Go.RowKit

/-- The two errors of the library are there. -/
structure Errs (w : World) : Prop where
  syn : ∃ tp p, w.var? Tryd.prog "strconv.ErrSyntax" = some #[.iface tp p]
  rng : ∃ tp p, w.var? Tryd.prog "strconv.ErrRange" = some #[.iface tp p]
theorem var_off {D : Nat → Prop} {w w' : World} {n : String} {cs : Array Value} (hg : (Tryd.prog.globalNamed n).isSome = true) (h : w.var? Tryd.prog n = some cs) (k : Off D w w') (hD : ∀ c, c < w.heap.size → ¬ D c) : w'.var? Tryd.prog n = some cs := by
  obtain ⟨g, hg⟩ := Option.isSome_iff_exists.1 hg
  simp only [World.var?] at h ⊢
  rw [hg] at h ⊢
  simp only [Option.bind_some] at h ⊢
  have hl : g < w.heap.size := by
    rcases Nat.lt_or_ge g w.heap.size with h' | h'
    · exact h'
    · rw [Array.getElem?_eq_none h'] at h; cases h
  rw [k.block g hl (hD g hl)]
  exact h
theorem Errs.off {D : Nat → Prop} {w w' : World} (h : Errs w) (k : Off D w w') (hD : ∀ c, c < w.heap.size → ¬ D c) : Errs w' := by
  obtain ⟨a, b, h1⟩ := h.syn
  obtain ⟨c, d, h2⟩ := h.rng
  exact ⟨⟨a, b, var_off (by kernel_rfl) h1 k hD⟩, ⟨c, d, var_off (by kernel_rfl) h2 k hD⟩⟩
theorem Off.bytes (w : World) (t : ByteArray) : Off (fun _ => False) w (Lib.bytesWorld w 5 t) :=
  (Off.of_below (Lib.bytesWorld_below w 5 t)).mono (fun i hi h => by omega)
theorem parseInt_any (l : List UInt8) (hl : l.length ≤ 140737488351232) (w : World) (he : Errs w) :
    Calls Tryd.prog 57 #[.string ⟨l.toArray⟩, .int .i64 10, .int .i64 64] w fun e w' => Off (fun _ => False) w w' ∧ ((∃ v, Lib.parseIntB 64 l = .ok v ∧ e = .returned (.tuple #[.int .i64 v, .nilIface])) ∨ ((∀ v, Lib.parseIntB 64 l ≠ .ok v) ∧ ∃ x N, e = .returned (.tuple #[.int .i64 x, .iface 112 (.pointer (some ⟨N, 0, none⟩))]))) := by
  have hs : (⟨l.toArray⟩ : ByteArray).size = l.length := by simp [ByteArray.size]
  have hd : (⟨l.toArray⟩ : ByteArray).data.toList = l := rfl
  cases h : Lib.parseIntB 64 l with
  | ok v =>
    refine (Tryd.strconv_ParseInt_10_at64_ok ⟨l.toArray⟩ (by rw [hs]; omega) v h w).mono ?_
    rintro e w' ⟨rfl, h2⟩
    refine ⟨?_, .inl ⟨v, rfl, rfl⟩⟩
    rcases h2 with rfl | ⟨t, rfl⟩
    · exact Off.refl _ _
    · exact Off.bytes w t
  | «syntax» =>
    obtain ⟨tp, p, hv⟩ := he.syn
    refine (Tryd.strconv_ParseInt_10_at64_syntax_var ⟨l.toArray⟩ (by rw [hs]; omega) h tp p w hv).mono ?_
    rintro e w' ⟨N, rfl, -, -, hb⟩
    exact ⟨(Off.of_below hb).mono (fun i hi h => by omega), .inr ⟨fun v h => (by cases h), 0, N, rfl⟩⟩
  | range =>
    obtain ⟨tp, p, hv⟩ := he.rng
    refine (Tryd.strconv_ParseInt_10_at64_range_var ⟨l.toArray⟩ (by rw [hs]; omega) h tp p w hv).mono ?_
    rintro e w' ⟨N, rfl, -, -, hb⟩
    exact ⟨(Off.of_below hb).mono (fun i hi h => by omega), .inr ⟨fun v h => (by cases h), _, N, rfl⟩⟩
theorem parse_range {l : List UInt8} {v : Int} (h : Lib.parseIntB 64 l = .ok v) : -9223372036854775808 ≤ v ∧ v ≤ 9223372036854775807 := by
  unfold Lib.parseIntB at h
  cases l with
  | nil => cases h
  | cons c r =>
    simp only at h
    split at h
    · cases h
    · cases h
    · rename_i u _
      split at h
      · cases h
      · split at h
        · cases h
        · rename_i h1 h2
          cases h
          split
          · rename_i h3
            simp [h3] at h2
            omega
          · rename_i h3
            simp [h3] at h1
            omega
/-- Of a text that is one: how far it has been taken. -/
def Ghost (l r : List UInt8) (i : Nat) (g : Nat → Int) : Prop := ∀ f, mayB f = true → l = textV f → i < topV f ∧ r = tailT f (topV f - 1 - i) i ∧ ∀ j, j < i → g j = f j
theorem may_at {f : Nat → Int} (h : mayB f = true) {j : Nat} (hj : j < 8) : 0 ≤ f j ∧ f j ≤ 1099511627776 := by
  have : ∀ j, j < 8 → 0 ≤ f j ∧ f j ≤ 1099511627776 := by simpa [mayB] using h
  exact this j hj
theorem ghost_start (l : List UInt8) (g : Nat → Int) : Ghost l l 0 g := by
  intro f _ e
  have h := topV_le f
  refine ⟨by omega, ?_, fun j hj => by omega⟩
  obtain ⟨n, hn⟩ : ∃ n, topV f = n + 1 := ⟨topV f - 1, by omega⟩
  rw [e, textV_top, hn, textL_tail]
  rfl
theorem ghost_parse {l r : List UInt8} {i : Nat} {g : Nat → Int} (h : Ghost l r i g) {f : Nat → Int} (hf : mayB f = true) (e : l = textV f) : Lib.parseIntB 64 (cutA r) = .ok (f i) ∧ (cutF r = true → i + 1 < topV f ∧ cutB r = tailT f (topV f - 1 - (i + 1)) (i + 1)) ∧ (cutF r = false → topV f = i + 1) := by
  obtain ⟨h1, h2, -⟩ := h f hf e
  have h8 := topV_le f
  have hm := may_at hf (show i < 8 by omega)
  cases hk : topV f - 1 - i with
  | zero =>
    rw [hk] at h2
    obtain ⟨a, b, c⟩ := cut_last (Lib.itoa (f i)) (itoa_44' (f i))
    rw [h2]
    simp only [tailT]
    rw [a, c]
    exact ⟨parse_itoa hm.1 (by omega), fun h => (by cases h), fun _ => (by omega)⟩
  | succ k =>
    rw [hk] at h2
    obtain ⟨a, b, c⟩ := cut_tail (Lib.itoa (f i)) (tailT f k (i + 1)) (itoa_44' (f i))
    rw [h2]
    simp only [tailT]
    rw [a, b, c]
    exact ⟨parse_itoa hm.1 (by omega), fun _ => ⟨by omega, by rw [show topV f - 1 - (i + 1) = k by omega]⟩, fun h => (by cases h)⟩
set_option maxRecDepth 100000 in
set_option maxHeartbeats 1000000 in
theorem counts_any (l : List UInt8) (hl : l.length ≤ 140737488351232) (w : World) (he : Errs w) :
    Calls Tryd.prog 45 #[.string ⟨l.toArray⟩] w fun e w' => Off (fun _ => False) w w' ∧ ∃ (g : Nat → Int) (ok : Bool), e = .returned (.tuple #[.agg #[.int .i64 (g 0), .int .i64 (g 1), .int .i64 (g 2), .int .i64 (g 3), .int .i64 (g 4), .int .i64 (g 5), .int .i64 (g 6), .int .i64 (g 7)], .bool ok]) ∧ (∀ j, j < 8 → -9223372036854775808 ≤ g j ∧ g j ≤ 9223372036854775807) ∧ ∀ f, mayB f = true → l = textV f → ok = true ∧ ∀ j, j < 8 → g j = f j := by
  have hnot := not_any
  have HE : Hid (∀ w', Off (fun _ => False) w w' → Errs w') := fun w' h => he.off h (fun _ _ h => h)
  clear he
  go_enter Tryd.func45, Tryd.ntmps45
  go_wp2_with fail
  go_loopw [0, 5, 10] (fun s m y wr => ∃ (i : Nat) (r : List UInt8) (g : Nat → Int), s = .string ⟨r.toArray⟩ ∧ m = .bool true ∧ y = .int .i64 (i : Int) ∧ i ≤ 8 ∧ r.length ≤ l.length ∧ Ghost l r i g ∧ (∀ j, i ≤ j → j < 8 → g j = 0) ∧ (∀ j, j < 8 → -9223372036854775808 ≤ g j ∧ g j ≤ 9223372036854775807) ∧ Cel (w.heap.size + 1) 23 #[.int .i64 (g 0), .int .i64 (g 1), .int .i64 (g 2), .int .i64 (g 3), .int .i64 (g 4), .int .i64 (g 5), .int .i64 (g 6), .int .i64 (g 7)] wr ∧ Cel w.heap.size 23 #[.int .i64 (zer 0), .int .i64 (zer 1), .int .i64 (zer 2), .int .i64 (zer 3), .int .i64 (zer 4), .int .i64 (zer 5), .int .i64 (zer 6), .int .i64 (zer 7)] wr ∧ Off (fun _ => False) w wr) (fun _ _ y _ => (8 - intOf y).toNat)
  case atStart =>
    exact ⟨0, l, zer, rfl, rfl, rfl, by omega, Nat.le_refl _, ghost_start l zer, fun j _ _ => rfl, fun j _ => by simp [zer], Cel.new1 w _ _ _, (Cel.new w _ _).alloc _, ((Off.refl _ w).alloc _).alloc _⟩
  case round =>
    obtain ⟨i, r, g, rfl, rfl, rfl, hi, hrl, gh, gz, gr, cv, cz, O⟩ := hrel
    have GH : Hid _ := gh
    have GZ : Hid _ := gz
    have GR : Hid _ := gr
    have CV : Hid _ := cv
    have CZ : Hid _ := cz
    clear gh gz gr cv cz
    by_cases h : i < 8
    · have hd : decide ((i : Int) < 8) = true := by simp; omega
      have hcl := cut_len r
      go_wp2_with fail
      refine (cut_any r (by omega) _).mono ?_
      rintro e v1 ⟨rfl, o1⟩
      have V1 := CV.out.off o1 (fun h => h)
      have Z1 := CZ.out.off o1 (fun h => h)
      have O1 := O.trans o1 (fun _ _ h => h)
      clear o1 O
      go_wp2_with fail
      refine (parseInt_any (cutA r) (by omega) _ (HE.out _ O1)).mono ?_
      rintro e v2 ⟨o2, h2⟩
      have V2 := V1.off o2 (fun h => h)
      have Z2 := Z1.off o2 (fun h => h)
      have O2 := O1.trans o2 (fun _ _ h => h)
      clear o2 O1 V1 Z1 CV CZ
      rcases h2 with ⟨v, hv, rfl⟩ | ⟨hv, x, N, rfl⟩
      · have hvr := parse_range hv
        have HV : Hid _ := hv
        have ha := at_vec (w.heap.size + 1) h
        have hc : v2.cell? ⟨w.heap.size + 1, i, none⟩ = some (.int .i64 (g i)) := (V2.cell i).trans (vec_get g h)
        have hf := V2.free i
        have V3 : Cel (w.heap.size + 1) 23 #[.int .i64 (upd g i v 0), .int .i64 (upd g i v 1), .int .i64 (upd g i v 2), .int .i64 (upd g i v 3), .int .i64 (upd g i v 4), .int .i64 (upd g i v 5), .int .i64 (upd g i v 6), .int .i64 (upd g i v 7)] (v2.setCell ⟨w.heap.size + 1, i, none⟩ (.int .i64 v)) := by
          have := V2.set i (.int .i64 v)
          rw [vec_set g h] at this
          exact this
        have Z3 : Cel w.heap.size 23 #[.int .i64 (zer 0), .int .i64 (zer 1), .int .i64 (zer 2), .int .i64 (zer 3), .int .i64 (zer 4), .int .i64 (zer 5), .int .i64 (zer 6), .int .i64 (zer 7)] (v2.setCell ⟨w.heap.size + 1, i, none⟩ (.int .i64 v)) := Z2.other (by simp) _
        have O3 : Off (fun _ => False) w (v2.setCell ⟨w.heap.size + 1, i, none⟩ (.int .i64 v)) := O2.setCell (.inr (by simp)) _
        have GR3 : Hid (∀ j, j < 8 → -9223372036854775808 ≤ upd g i v j ∧ upd g i v j ≤ 9223372036854775807) := by
          intro j hj
          simp only [upd]
          split
          · exact hvr
          · exact GR.out j hj
        have HV3 : Hid _ := V3
        have HZ3 : Hid _ := Z3
        clear V3 Z3 V2 Z2 hv hvr
        cases hF : cutF r with
        | true =>
          have HF : Hid _ := hF
          clear hF
          go_wp2_with fail
          go_roundw
          case rel =>
            refine ⟨i + 1, cutB r, upd g i v, rfl, rfl, by go_num, by omega, by omega, fun f hf e => ?_, fun j h1 h2 => ?_, GR3.out, HV3.out, HZ3.out, O3⟩
            · obtain ⟨p1, p2, -⟩ := ghost_parse GH.out hf e
              have e2 : v = f i := by
                have := HV.out.symm.trans p1
                injection this
              refine ⟨(p2 HF.out).1, (p2 HF.out).2, fun j hj => ?_⟩
              simp only [upd]
              split
              · subst j; exact e2
              · exact (GH.out f hf e).2.2 j (by omega)
            · simp only [upd]
              rw [if_neg (by omega)]
              exact GZ.out j (by omega) h2
          case measure => simp [intOf]; omega
        | false =>
          have HF : Hid _ := hF
          clear hF
          obtain ⟨X, hX⟩ : ∃ X, X = v2.setCell ⟨w.heap.size + 1, i, none⟩ (.int .i64 v) := ⟨_, rfl⟩
          have KV := HV3.out
          have KZ := HZ3.out
          rw [← hX] at KV KZ O3
          obtain ⟨c0, c1, c2, c3, c4, c5, c6, c7⟩ := cel8 KV
          obtain ⟨d0, d1, d2, d3, d4, d5, d6, d7⟩ := cel8 KZ
          have fr := KZ.free
          rw [hX] at c0 c1 c2 c3 c4 c5 c6 c7 d0 d1 d2 d3 d4 d5 d6 d7 fr
          have HX : Hid _ := hX
          have HKZ : Hid _ := KZ
          clear hX KV KZ
          go_wp2_with fail
          refine bodyPost_ret (results_vecb rfl rfl rfl (HZ3.out.st8 (upd g i v))) rfl ?_
          rw [HX.out] at O3
          refine ⟨O3.st8 (.inr (by omega)) _, upd g i v, true, rfl, GR3.out, fun f hf e => ⟨rfl, fun j hj => ?_⟩⟩
          obtain ⟨p1, -, p3⟩ := ghost_parse GH.out hf e
          have ht := p3 HF.out
          have e2 : v = f i := by
            have := HV.out.symm.trans p1
            injection this
          simp only [upd]
          split
          · subst j; exact e2
          · rcases Nat.lt_or_ge j i with h1 | h1
            · exact (GH.out f hf e).2.2 j h1
            · rw [GZ.out j h1 hj, topV_zero f j (by omega) hj]
      · have HV : Hid _ := hv
        clear hv
        obtain ⟨d0, d1, d2, d3, d4, d5, d6, d7⟩ := cel8 Z2
        have fr := Z2.free
        have HZ2 : Hid _ := Z2
        clear Z2 V2
        go_wp2_with fail
        refine bodyPost_ret (results_vecb rfl rfl rfl (HZ2.out.st8 zer)) rfl ?_
        refine ⟨O2.st8 (.inr (by omega)) zer, zer, false, rfl, fun j _ => by simp [zer], fun f hf e => ?_⟩
        exact absurd (ghost_parse GH.out hf e).1 (HV.out (f i))
    · obtain rfl : i = 8 := by omega
      obtain ⟨c0, c1, c2, c3, c4, c5, c6, c7⟩ := cel8 CV.out
      obtain ⟨d0, d1, d2, d3, d4, d5, d6, d7⟩ := cel8 CZ.out
      have fr := CZ.out.free
      go_wp2_with fail
      refine bodyPost_ret (results_vecb rfl rfl rfl (CZ.out.st8 g)) rfl ?_
      refine ⟨O.st8 (.inr (by omega)) g, g, false, rfl, GR.out, fun f hf e => ?_⟩
      have h1 := (GH.out f hf e).1
      have h2 := topV_le f
      omega
end Go.Proofs.YtalcfkdmlebkbaaDoor
