/- The walk of DiskOwn. -/
import Derived.Test.YtibnhgpenfcinaaByS
namespace Go.Proofs.Ytibnhgpenfcinaa
open Go.RowKit

set_option maxRecDepth 100000 in
set_option maxHeartbeats 2000000 in
theorem own_walk (ta : Option Addr) (ca : Nat) (xs : List Nat) (n : Int) (w : World) (ha : ArgB w ta xs.length ca xs) (_ : -9223372036854775808 ≤ n ∧ n ≤ 9223372036854775807) :
    Calls Try.prog 6 #[.slice ta xs.length ca, .int .i64 n] w fun e w' => e = .returned (.bool true) ∧ Off (fun _ => False) w w' := by
  have hro : roomOf 100000 = 100000 := rfl
  obtain ⟨k, hk, ek⟩ := low8 n
  obtain ⟨y, ey, hy256⟩ := or_one hk
  by_cases h1 : 5000 < xs.length
  · have d1 : decide ((5000 : Int) < (xs.length : Int)) = true := by simp; omega
    obtain ⟨hsl, ha2⟩ := ha.take (k := 5000) (by omega)
    have hy : (xs.take 5000).length = 5000 := by simp; omega
    replace ha2 : ArgB w ta (xs.take 5000).length ca (xs.take 5000) := by rw [hy]; exact ha2
    have hsl : ∀ W, (Instr.slice 25 (.slice ta xs.length ca) none (some (.int .i64 5000)) none).run Try.prog W = .ok (.slice ta (xs.take 5000).length ca) W := by rw [hy]; exact hsl
    generalize hys : xs.take 5000 = ys at hy ha2 hsl
    replace hy : ys.length ≤ 5000 := by omega
    clear hys ha
    have HY : Hid _ := ha2.src
    have HL : Hid _ := ha2.lt
    clear ha2
    obtain ⟨eE, eA⟩ := app_yes (m := 100000) (bs := []) (xs := ys) (by simp; omega)
    rw [List.nil_append] at eA
    go_enter Try.func6, Try.ntmps6
    go_wp2_with fail
    refine (new_any 100000 w).mono ?_
    rintro e v1 ⟨b, rfl, hb, K, o1⟩
    rw [hro] at K
    have HK1 : Hid _ := K
    have HO1 : Hid _ := o1
    have HB1 : Hid (w.heap.size ≤ b) := hb
    clear K o1 hb
    go_wp2_with (at_builtin; refine wpList_app rfl (.const (.slice none 0 0)) (.tmp 16) rfl none 0 [] rfl (OwnR.nil _) ta ca ys rfl (HY.out.off HO1.out (fun _ _ _ h => h)) (by simp; omega) ?_; intro tm cm v2 ym hym ownm offm atm; obtain rfl : ys = ym := (by have := hym.out; simpa using this.symm))
    have O2 : Off (fun _ => False) v1 v2 := offm.mono (fun _ _ h => by simp [blk] at h)
    have fm : ∀ c, blk tm = some c → c = v1.heap.size ∧ c < v2.heap.size := fun c hc => ⟨by rcases atm with e | e <;> (rw [e] at hc; simp [blk] at hc; try exact hc.symm), ownm.lt c hc⟩
    refine (append_any (HK1.out.free O2) tm cm ys ownm.src (by omega)).mono ?_
    rintro e v3 ⟨rfl, D, K, o3, d3⟩
    rw [eA] at K
    rw [eE]
    have lb := HK1.out.lt b rfl
    have sz1 := HO1.out.size
    have HO3 : Hid (Off (fun _ => False) w v3) := (((HO1.out.trans O2 (fun _ _ h => h)).mono (fun _ _ h => h.elim)).trans o3 (fun _ _ h => h)).mono (fun j hj e => by have := HB1.out; omega)
    have HD : Hid (∀ c, D c → w.heap.size ≤ c) := fun c hc => by
      have := HB1.out
      have := O2.size
      rcases d3 c hc with e | e <;> omega
    have HAP : Hid (∀ c, blk tm = some c → ¬ D c) := fun c hc hd => by
      have := fm c hc
      rcases d3 c hd with e | e <;> omega
    have HFM : Hid (∀ c, blk tm = some c → w.heap.size ≤ c) := fun c hc => by
      have := fm c hc
      omega
    have HBM : Hid (ByS v3 tm ys.length) := ByS.of (ownm.off o3 (fun c _ hc e => by have := fm c hc; omega)) HL.out
    have K3 : Hid _ := K
    clear K o3 d3 fm ownm offm atm hym O2 HO1 HK1 lb sz1
    go_wp2_with fail
    go_loopw [24] (fun y wr => ∃ i : Nat, y = .int .i64 (i : Int) ∧ i ≤ ys.length ∧ ByS wr tm ys.length ∧ Off (fun c => blk tm = some c) v3 wr) (fun y _ => (ys.length - intOf y).toNat)
    case atStart => exact ⟨0, rfl, by omega, HBM.out, Off.refl _ _⟩
    case round =>
      obtain ⟨i, rfl, hi, hbs, oo⟩ := hrel
      have HBS : Hid _ := hbs
      have HOO : Hid _ := oo
      clear hbs oo
      by_cases hlt : i < ys.length
      · have e1 : decide ((i : Int) < (ys.length : Int)) = true := decide_eq_true (by omega)
        have e2 : decide (i < ys.length) = true := decide_eq_true hlt
        obtain ⟨gm, t, cs, u, htm, hc, hx, hu⟩ := HBS.out.at_ i hlt
        have k1 := (hc.cell i).trans hx
        have fr := hc.free
        clear hc hx
        subst htm
        skip
        go_wp2_with fail
        go_roundw
        case rel => exact ⟨i + 1, by go_num, by omega, HBS.out.set gm i ⟨(u + 1) % 256, by first | omega | (rw [IntKind.wrap_u8]; omega), by omega⟩, HOO.out.setCell (p := ⟨gm, i, none⟩) (.inl rfl) _⟩
        case measure => simp [intOf]; omega
      · have e1 : decide ((i : Int) < (ys.length : Int)) = false := decide_eq_false (by omega)
        have e2 : decide (i < ys.length) = false := decide_eq_false hlt
        obtain ⟨W1, hW1⟩ : ∃ W1, W1 = wr := ⟨_, rfl⟩
        rw [← hW1] at HOO HBS ⊢
        clear hW1 HBS wr
        have K4 : Hid _ := K3.out.off HOO.out (fun c _ hd e => HAP.out c e hd)
        have HO4 : Hid (Off (fun _ => False) w W1) := ((HO3.out.mono (fun _ _ h => h.elim)).trans HOO.out (fun _ _ h => h)).mono (fun j hj e => by have := HFM.out j e; omega)
        clear HOO
        go_wp2_with fail
        refine (bytes_any K4.out).mono ?_
        rintro e v5 ⟨t5, c5, rfl, own5, hf5, o5⟩
        have K5 : Hid _ := K4.out.free o5
        have HF5 : Hid _ := hf5
        have HO5 : Hid _ := o5
        have HB5 : Hid _ := ByS.of own5 HL.out
        clear own5 hf5 o5
        go_wp2_with fail
        go_loopw [38] (fun y wr => ∃ i : Nat, y = .int .i64 (i : Int) ∧ i ≤ ys.length ∧ ByS wr t5 ys.length ∧ Off (fun c => blk t5 = some c) v5 wr) (fun y _ => (ys.length - intOf y).toNat)
        case atStart => exact ⟨0, rfl, by omega, HB5.out, Off.refl _ _⟩
        case round =>
          obtain ⟨i, rfl, hi, hbs, oo⟩ := hrel
          have HBS : Hid _ := hbs
          have HOO : Hid _ := oo
          clear hbs oo
          by_cases hlt : i < ys.length
          · have e1 : decide ((i : Int) < (ys.length : Int)) = true := decide_eq_true (by omega)
            have e2 : decide (i < ys.length) = true := decide_eq_true hlt
            obtain ⟨gm, t, cs, u, htm, hc, hx, hu⟩ := HBS.out.at_ i hlt
            have k1 := (hc.cell i).trans hx
            have fr := hc.free
            clear hc hx
            subst htm
            obtain ⟨x, hxo, hx2⟩ := xor_any hu hy256
            go_wp2_with fail
            go_roundw
            case rel => exact ⟨i + 1, by go_num, by omega, HBS.out.set gm i ⟨x, by first | rfl | exact hxo | omega, hx2⟩, HOO.out.setCell (p := ⟨gm, i, none⟩) (.inl rfl) _⟩
            case measure => simp [intOf]; omega
          · have e1 : decide ((i : Int) < (ys.length : Int)) = false := decide_eq_false (by omega)
            have e2 : decide (i < ys.length) = false := decide_eq_false hlt
            obtain ⟨W2, hW1⟩ : ∃ W1, W1 = wr := ⟨_, rfl⟩
            rw [← hW1] at HOO HBS ⊢
            clear hW1 HBS wr
            have K6 := K5.out.off HOO.out (fun c _ hd e => by have := HF5.out c e; have := K4.out.lt c hd; omega)
            have A8 : Att w W2 b 100000 ys 0 := ⟨(((HO4.out.trans HO5.out (fun _ _ h => h)).mono (fun _ _ h => h.elim)).trans HOO.out (fun _ _ h => h)).mono (fun j hj e => by have := HF5.out j e; have := HO4.out.size; omega), D, K6, HD.out⟩
            clear K6
            go_upto_region 18 with fail
            refine wp_region_held_drew (S := fun w' => Off (fun _ => False) w w') (by kernel_rfl) A8.off.drew (fun hS => ?_)
            replace A8 := A8.free ((Off.refl _ W2).drew)
            generalize hdr : W2.drew = v9 at A8 hS ⊢
            clear hdr
            refine take_at (i := 0) 51 (v := .pointer (some ⟨b, 0, none⟩)) rfl rfl (by kernel_rfl) (by kernel_rfl) (by kernel_rfl) (fun _ _ _ h => h) (Or.inl ⟨by rfl, fun w' hw' => by go_simp⟩) hS ?_
            simp only [Act.put, List.setIfInBounds_toArray, List.set_cons_zero, List.set_cons_succ]
            refine take_at (i := 3) 54 (v := .slice ta ys.length ca) rfl rfl (by kernel_rfl) (by kernel_rfl) (by kernel_rfl) (fun _ _ _ h => h) (Or.inl ⟨by rfl, fun w' hw' => by go_simp⟩) hS ?_
            simp only [Act.put, List.setIfInBounds_toArray, List.set_cons_zero, List.set_cons_succ]
            refine take_at (i := 4) 55 (v := .string (strOf ys)) rfl rfl (by kernel_rfl) (by kernel_rfl) (by kernel_rfl) (fun _ _ _ h => h) (Or.inl ⟨by rfl, fun w' hw' => by have hcs := conv_src (HY.out.off hw' (fun _ _ _ h => h)); go_simp⟩) hS ?_
            simp only [Act.put, List.setIfInBounds_toArray, List.set_cons_zero, List.set_cons_succ]
            refine wpAnyH_ready (rs := [1]) (by kernel_rfl) (by simp) ?_
            refine AllReadyH.cons rfl (fun K' hK' => ?_) AllReadyH.nil
            go_simp
            refine (abytes_any A8).mono ?_
            rintro e v10 ⟨t10, c10, rfl, own, -, A10, o10⟩
            have hcs := conv_src own.src
            clear o10 own
            refine hK'.out _ _ (A10.off) (fun hS => ?_)
            clear hK' K'
            clear A8
            refine wpAnyH_ready (rs := [2]) (by kernel_rfl) (by simp) ?_
            refine AllReadyH.cons rfl (fun K' hK' => ?_) AllReadyH.nil
            go_simp
            refine hK'.out _ _ hS (fun hS => ?_)
            clear hK' K'
            clear hcs
            refine take_at (i := 5) 56 (v := .bool true) rfl rfl (by kernel_rfl) (by kernel_rfl) (by kernel_rfl) (fun _ _ _ h => h) (Or.inl ⟨by rfl, fun w' hw' => by go_simp⟩) hS ?_
            simp only [Act.put, List.setIfInBounds_toArray, List.set_cons_zero, List.set_cons_succ]
            refine take_at (i := 6) 57 (v := .bool true) rfl rfl (by kernel_rfl) (by kernel_rfl) (by kernel_rfl) (fun _ _ _ h => h) (Or.inl ⟨by rfl, fun w' hw' => by go_simp⟩) hS ?_
            simp only [Act.put, List.setIfInBounds_toArray, List.set_cons_zero, List.set_cons_succ]
            refine wpAnyH_ready (rs := [7]) (by kernel_rfl) (by simp) ?_
            refine AllReadyH.cons rfl (fun K' hK' => ?_) AllReadyH.nil
            go_simp
            refine (awake_any _).mono ?_
            rintro e v12 ⟨rfl, o12⟩
            refine hK'.out _ _ (A10.off.trans o12 (fun _ _ h => h)) (fun hS => ?_)
            clear hK' K'
            refine take_at (i := 8) 59 (v := .bool true) rfl rfl (by kernel_rfl) (by kernel_rfl) (by kernel_rfl) (fun _ _ _ h => h) (Or.inl ⟨by rfl, fun w' hw' => by go_simp⟩) hS ?_
            simp only [Act.put, List.setIfInBounds_toArray, List.set_cons_zero, List.set_cons_succ]
            refine take_at (i := 9) 4 (v := .bool true) rfl rfl (by kernel_rfl) (by kernel_rfl) (by kernel_rfl) (fun _ _ _ h => h) (Or.inl ⟨by rfl, fun w' hw' => by go_simp⟩) hS ?_
            simp only [Act.put, List.setIfInBounds_toArray, List.set_cons_zero, List.set_cons_succ]
            refine wpAnyH_done (by kernel_rfl) ?_ _
            go_wp2_with fail
            go_ret
            exact ⟨rfl, hS⟩
  · have d1 : decide ((5000 : Int) < (xs.length : Int)) = false := by simp; omega
    obtain ⟨ys, hys⟩ : ∃ ys, ys = xs := ⟨_, rfl⟩
    subst hys
    have HY : Hid _ := ha.src
    have HL : Hid _ := ha.lt
    clear ha
    obtain ⟨eE, eA⟩ := app_yes (m := 100000) (bs := []) (xs := ys) (by simp; omega)
    rw [List.nil_append] at eA
    go_enter Try.func6, Try.ntmps6
    go_wp2_with fail
    refine (new_any 100000 w).mono ?_
    rintro e v1 ⟨b, rfl, hb, K, o1⟩
    rw [hro] at K
    have HK1 : Hid _ := K
    have HO1 : Hid _ := o1
    have HB1 : Hid (w.heap.size ≤ b) := hb
    clear K o1 hb
    go_wp2_with (at_builtin; refine wpList_app rfl (.const (.slice none 0 0)) (.tmp 16) rfl none 0 [] rfl (OwnR.nil _) ta ca ys rfl (HY.out.off HO1.out (fun _ _ _ h => h)) (by simp; omega) ?_; intro tm cm v2 ym hym ownm offm atm; obtain rfl : ys = ym := (by have := hym.out; simpa using this.symm))
    have O2 : Off (fun _ => False) v1 v2 := offm.mono (fun _ _ h => by simp [blk] at h)
    have fm : ∀ c, blk tm = some c → c = v1.heap.size ∧ c < v2.heap.size := fun c hc => ⟨by rcases atm with e | e <;> (rw [e] at hc; simp [blk] at hc; try exact hc.symm), ownm.lt c hc⟩
    refine (append_any (HK1.out.free O2) tm cm ys ownm.src (by omega)).mono ?_
    rintro e v3 ⟨rfl, D, K, o3, d3⟩
    rw [eA] at K
    rw [eE]
    have lb := HK1.out.lt b rfl
    have sz1 := HO1.out.size
    have HO3 : Hid (Off (fun _ => False) w v3) := (((HO1.out.trans O2 (fun _ _ h => h)).mono (fun _ _ h => h.elim)).trans o3 (fun _ _ h => h)).mono (fun j hj e => by have := HB1.out; omega)
    have HD : Hid (∀ c, D c → w.heap.size ≤ c) := fun c hc => by
      have := HB1.out
      have := O2.size
      rcases d3 c hc with e | e <;> omega
    have HAP : Hid (∀ c, blk tm = some c → ¬ D c) := fun c hc hd => by
      have := fm c hc
      rcases d3 c hd with e | e <;> omega
    have HFM : Hid (∀ c, blk tm = some c → w.heap.size ≤ c) := fun c hc => by
      have := fm c hc
      omega
    have HBM : Hid (ByS v3 tm ys.length) := ByS.of (ownm.off o3 (fun c _ hc e => by have := fm c hc; omega)) HL.out
    have K3 : Hid _ := K
    clear K o3 d3 fm ownm offm atm hym O2 HO1 HK1 lb sz1
    go_wp2_with fail
    go_loopw [24] (fun y wr => ∃ i : Nat, y = .int .i64 (i : Int) ∧ i ≤ ys.length ∧ ByS wr tm ys.length ∧ Off (fun c => blk tm = some c) v3 wr) (fun y _ => (ys.length - intOf y).toNat)
    case atStart => exact ⟨0, rfl, by omega, HBM.out, Off.refl _ _⟩
    case round =>
      obtain ⟨i, rfl, hi, hbs, oo⟩ := hrel
      have HBS : Hid _ := hbs
      have HOO : Hid _ := oo
      clear hbs oo
      by_cases hlt : i < ys.length
      · have e1 : decide ((i : Int) < (ys.length : Int)) = true := decide_eq_true (by omega)
        have e2 : decide (i < ys.length) = true := decide_eq_true hlt
        obtain ⟨gm, t, cs, u, htm, hc, hx, hu⟩ := HBS.out.at_ i hlt
        have k1 := (hc.cell i).trans hx
        have fr := hc.free
        clear hc hx
        subst htm
        skip
        go_wp2_with fail
        go_roundw
        case rel => exact ⟨i + 1, by go_num, by omega, HBS.out.set gm i ⟨(u + 1) % 256, by first | omega | (rw [IntKind.wrap_u8]; omega), by omega⟩, HOO.out.setCell (p := ⟨gm, i, none⟩) (.inl rfl) _⟩
        case measure => simp [intOf]; omega
      · have e1 : decide ((i : Int) < (ys.length : Int)) = false := decide_eq_false (by omega)
        have e2 : decide (i < ys.length) = false := decide_eq_false hlt
        obtain ⟨W1, hW1⟩ : ∃ W1, W1 = wr := ⟨_, rfl⟩
        rw [← hW1] at HOO HBS ⊢
        clear hW1 HBS wr
        have K4 : Hid _ := K3.out.off HOO.out (fun c _ hd e => HAP.out c e hd)
        have HO4 : Hid (Off (fun _ => False) w W1) := ((HO3.out.mono (fun _ _ h => h.elim)).trans HOO.out (fun _ _ h => h)).mono (fun j hj e => by have := HFM.out j e; omega)
        clear HOO
        go_wp2_with fail
        refine (bytes_any K4.out).mono ?_
        rintro e v5 ⟨t5, c5, rfl, own5, hf5, o5⟩
        have K5 : Hid _ := K4.out.free o5
        have HF5 : Hid _ := hf5
        have HO5 : Hid _ := o5
        have HB5 : Hid _ := ByS.of own5 HL.out
        clear own5 hf5 o5
        go_wp2_with fail
        go_loopw [38] (fun y wr => ∃ i : Nat, y = .int .i64 (i : Int) ∧ i ≤ ys.length ∧ ByS wr t5 ys.length ∧ Off (fun c => blk t5 = some c) v5 wr) (fun y _ => (ys.length - intOf y).toNat)
        case atStart => exact ⟨0, rfl, by omega, HB5.out, Off.refl _ _⟩
        case round =>
          obtain ⟨i, rfl, hi, hbs, oo⟩ := hrel
          have HBS : Hid _ := hbs
          have HOO : Hid _ := oo
          clear hbs oo
          by_cases hlt : i < ys.length
          · have e1 : decide ((i : Int) < (ys.length : Int)) = true := decide_eq_true (by omega)
            have e2 : decide (i < ys.length) = true := decide_eq_true hlt
            obtain ⟨gm, t, cs, u, htm, hc, hx, hu⟩ := HBS.out.at_ i hlt
            have k1 := (hc.cell i).trans hx
            have fr := hc.free
            clear hc hx
            subst htm
            obtain ⟨x, hxo, hx2⟩ := xor_any hu hy256
            go_wp2_with fail
            go_roundw
            case rel => exact ⟨i + 1, by go_num, by omega, HBS.out.set gm i ⟨x, by first | rfl | exact hxo | omega, hx2⟩, HOO.out.setCell (p := ⟨gm, i, none⟩) (.inl rfl) _⟩
            case measure => simp [intOf]; omega
          · have e1 : decide ((i : Int) < (ys.length : Int)) = false := decide_eq_false (by omega)
            have e2 : decide (i < ys.length) = false := decide_eq_false hlt
            obtain ⟨W2, hW1⟩ : ∃ W1, W1 = wr := ⟨_, rfl⟩
            rw [← hW1] at HOO HBS ⊢
            clear hW1 HBS wr
            have K6 := K5.out.off HOO.out (fun c _ hd e => by have := HF5.out c e; have := K4.out.lt c hd; omega)
            have A8 : Att w W2 b 100000 ys 0 := ⟨(((HO4.out.trans HO5.out (fun _ _ h => h)).mono (fun _ _ h => h.elim)).trans HOO.out (fun _ _ h => h)).mono (fun j hj e => by have := HF5.out j e; have := HO4.out.size; omega), D, K6, HD.out⟩
            clear K6
            go_upto_region 18 with fail
            refine wp_region_held_drew (S := fun w' => Off (fun _ => False) w w') (by kernel_rfl) A8.off.drew (fun hS => ?_)
            replace A8 := A8.free ((Off.refl _ W2).drew)
            generalize hdr : W2.drew = v9 at A8 hS ⊢
            clear hdr
            refine take_at (i := 0) 51 (v := .pointer (some ⟨b, 0, none⟩)) rfl rfl (by kernel_rfl) (by kernel_rfl) (by kernel_rfl) (fun _ _ _ h => h) (Or.inl ⟨by rfl, fun w' hw' => by go_simp⟩) hS ?_
            simp only [Act.put, List.setIfInBounds_toArray, List.set_cons_zero, List.set_cons_succ]
            refine take_at (i := 3) 54 (v := .slice ta ys.length ca) rfl rfl (by kernel_rfl) (by kernel_rfl) (by kernel_rfl) (fun _ _ _ h => h) (Or.inl ⟨by rfl, fun w' hw' => by go_simp⟩) hS ?_
            simp only [Act.put, List.setIfInBounds_toArray, List.set_cons_zero, List.set_cons_succ]
            refine take_at (i := 4) 55 (v := .string (strOf ys)) rfl rfl (by kernel_rfl) (by kernel_rfl) (by kernel_rfl) (fun _ _ _ h => h) (Or.inl ⟨by rfl, fun w' hw' => by have hcs := conv_src (HY.out.off hw' (fun _ _ _ h => h)); go_simp⟩) hS ?_
            simp only [Act.put, List.setIfInBounds_toArray, List.set_cons_zero, List.set_cons_succ]
            refine wpAnyH_ready (rs := [1]) (by kernel_rfl) (by simp) ?_
            refine AllReadyH.cons rfl (fun K' hK' => ?_) AllReadyH.nil
            go_simp
            refine (abytes_any A8).mono ?_
            rintro e v10 ⟨t10, c10, rfl, own, -, A10, o10⟩
            have hcs := conv_src own.src
            clear o10 own
            refine hK'.out _ _ (A10.off) (fun hS => ?_)
            clear hK' K'
            clear A8
            refine wpAnyH_ready (rs := [2]) (by kernel_rfl) (by simp) ?_
            refine AllReadyH.cons rfl (fun K' hK' => ?_) AllReadyH.nil
            go_simp
            refine hK'.out _ _ hS (fun hS => ?_)
            clear hK' K'
            clear hcs
            refine take_at (i := 5) 56 (v := .bool true) rfl rfl (by kernel_rfl) (by kernel_rfl) (by kernel_rfl) (fun _ _ _ h => h) (Or.inl ⟨by rfl, fun w' hw' => by go_simp⟩) hS ?_
            simp only [Act.put, List.setIfInBounds_toArray, List.set_cons_zero, List.set_cons_succ]
            refine take_at (i := 6) 57 (v := .bool true) rfl rfl (by kernel_rfl) (by kernel_rfl) (by kernel_rfl) (fun _ _ _ h => h) (Or.inl ⟨by rfl, fun w' hw' => by go_simp⟩) hS ?_
            simp only [Act.put, List.setIfInBounds_toArray, List.set_cons_zero, List.set_cons_succ]
            refine wpAnyH_ready (rs := [7]) (by kernel_rfl) (by simp) ?_
            refine AllReadyH.cons rfl (fun K' hK' => ?_) AllReadyH.nil
            go_simp
            refine (awake_any _).mono ?_
            rintro e v12 ⟨rfl, o12⟩
            refine hK'.out _ _ (A10.off.trans o12 (fun _ _ h => h)) (fun hS => ?_)
            clear hK' K'
            refine take_at (i := 8) 59 (v := .bool true) rfl rfl (by kernel_rfl) (by kernel_rfl) (by kernel_rfl) (fun _ _ _ h => h) (Or.inl ⟨by rfl, fun w' hw' => by go_simp⟩) hS ?_
            simp only [Act.put, List.setIfInBounds_toArray, List.set_cons_zero, List.set_cons_succ]
            refine take_at (i := 9) 4 (v := .bool true) rfl rfl (by kernel_rfl) (by kernel_rfl) (by kernel_rfl) (fun _ _ _ h => h) (Or.inl ⟨by rfl, fun w' hw' => by go_simp⟩) hS ?_
            simp only [Act.put, List.setIfInBounds_toArray, List.set_cons_zero, List.set_cons_succ]
            refine wpAnyH_done (by kernel_rfl) ?_ _
            go_wp2_with fail
            go_ret
            exact ⟨rfl, hS⟩
end Go.Proofs.Ytibnhgpenfcinaa
