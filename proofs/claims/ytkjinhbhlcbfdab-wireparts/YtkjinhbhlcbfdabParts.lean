/- The walk of WireParts. -/
import Derived.Test.YtkjinhbhlcbfdabReg
namespace Go.Proofs.Ytkjinhbhlcbfdab
open Go.RowKit

set_option maxRecDepth 100000 in
set_option maxHeartbeats 2000000 in
theorem parts_nat (a b : Nat) (ha : a < 18446744073709551616) (hb : b < 18446744073709551616) (c : Int) (hc0 : -9223372036854775808 ≤ c) (hc1 : c ≤ 9223372036854775807) (tad : Option Addr) (cap : Nat) (bs : List Nat) (hlt : ∀ x ∈ bs, x < 256) (w : World) (hsrc : Src w tad cap bs) :
    Calls Try.prog 3 #[.int .u64 (a : Int), .int .u64 (b : Int), .int .i64 c, .slice tad bs.length cap] w fun e w' => e = .returned (.bool true) ∧ Below w.heap.size w w' := by
  have HS : Hid (∀ w', Off (fun c => w.heap.size ≤ c) w w' → Src w' tad cap bs) := fun w' o => hsrc.off o (fun c hc _ h => by omega)
  have HLT : Hid _ := hlt
  clear hlt hsrc
  by_cases h : 300 < bs.length
  · go_enter Try.func3, Try.ntmps3
    go_wp2_with fail
    refine (awake_any w).mono ?_
    rintro e w1 ⟨rfl, o1⟩
    go_wp2_with fail
    go_ret
    exact ⟨rfl, o1.below (Nat.le_refl _) (fun _ h => h.elim)⟩
  · have hz := zig_lt hc0 hc1
    have ta := numB_ten ha
    have tb := numB_ten hb
    have tz := numB_ten hz
    have tl := numB_ten (n := bs.length) (by omega)
    obtain ⟨X1, hX1⟩ : ∃ X1, X1 = numB a := ⟨_, rfl⟩
    obtain ⟨X, hX⟩ : ∃ X, X = X1 ++ (numB bs.length ++ bs) := ⟨_, rfl⟩
    obtain ⟨Y1, hY1⟩ : ∃ Y1, Y1 = numB (zig c) := ⟨_, rfl⟩
    obtain ⟨Y, hY⟩ : ∃ Y, Y = Y1 ++ numB b := ⟨_, rfl⟩
    have lX1 : X1.length ≤ 10 := by rw [hX1]; exact ta
    have lY1 : Y1.length ≤ 10 := by rw [hY1]; exact tz
    have lX : X.length ≤ 320 := by rw [hX]; simp; omega
    have lY : Y.length ≤ 20 := by rw [hY]; simp; omega
    have e1 : putS (Int.toNat 1000) (some []) (numB a) = some X1 := by
      rw [← hX1]
      simp [putS]
      omega
    have e2 : putS (Int.toNat 1000) (some X1) (numB bs.length ++ bs) = some X := by
      rw [hX]
      simp [putS]
      omega
    have e3 : putS (Int.toNat 1000) (some []) (numB (zig c)) = some Y1 := by
      rw [← hY1]
      simp [putS]
      omega
    have e4 : putS (Int.toNat 1000) (some Y1) (numB b) = some Y := by
      rw [hY]
      simp [putS]
      omega
    have E1' : Hid _ := e1
    have E2' : Hid _ := e2
    have E3' : Hid _ := e3
    have E4' : Hid _ := e4
    clear e1 e2 e3 e4
    have E1 : Hid (numS (X ++ Y, 0) = (a, (numB bs.length ++ (bs ++ Y), 0))) := by
      show numS (X ++ Y, 0) = _
      rw [hX, hX1, List.append_assoc, num_back ha, List.append_assoc]
    have E2 : Hid (textS (Int.toNat 300) (numB bs.length ++ (bs ++ Y), 0) = (bs, (Y, 0))) := text_back bs Y (by omega) (by simp; omega)
    have E3 : Hid (intS (Y, 0) = (c, (numB b, 0))) := by
      show intS (Y, 0) = _
      rw [hY, hY1, int_back hc0 hc1]
    have E4 : Hid (numS (numB b, 0) = (b, ([], 0))) := by
      show numS (numB b, 0) = _
      have := num_back hb []
      rw [List.append_nil] at this
      exact this
    have HLX : Hid (∀ x ∈ X ++ Y, x < 256) := by
      show ∀ x ∈ X ++ Y, x < 256
      intro x hx
      rw [hX, hY, hX1, hY1] at hx
      simp only [List.mem_append] at hx
      rcases hx with (h | h | h) | h | h
      · exact numB_lt _ _ h
      · exact numB_lt _ _ h
      · exact HLT.out _ h
      · exact numB_lt _ _ h
      · exact numB_lt _ _ h
    clear hX hY hX1 hY1
    go_enter Try.func3, Try.ntmps3
    go_wp2_with fail
    refine (newWriter_any _ (by omega) w).mono ?_
    rintro e w1 ⟨rfl, A1, o1⟩
    go_wp2_with fail
    refine (newWriter_any _ (by omega) w1).mono ?_
    rintro e w2 ⟨rfl, B2, o2⟩
    have A2 := A1.off o2 (fun _ _ _ h => h)
    have O2 : Off (fun c => w.heap.size ≤ c) w w2 := (o1.mono (fun _ _ h => h.elim)).trans o2 (fun _ _ h => h.elim)
    have s1 := A1.lt _ A1.here
    have s0 := o1.size
    go_wp2_with fail
    refine (wnum_any A2 a ha (by simp)).mono ?_
    rintro e w3 ⟨rfl, DA, A3, o3, g3⟩
    rw [E1'.out] at A3
    have B3 := B2.off o3 (fun c _ h1 h2 => by omega)
    have lA : ∀ c, DA c → w.heap.size ≤ c := lo_step (fun c h => by omega) g3 O2.size
    have dj : ∀ c, DA c → ¬ c = w1.heap.size := dj_step (fun c h => by omega) g3 B2.lt
    have O3 := O2.trans o3 (fun i _ h => by omega)
    clear A1 A2 B2 o1 o2 o3 g3 O2
    go_wp2_with fail
    refine (wtext_any A3 tad cap bs (fun w' o => HS.out w' (O3.trans o (fun i _ h => lA i h))) (by simp; omega)).mono ?_
    rintro e w4 ⟨rfl, DA', A4, o4, g4⟩
    rw [E2'.out] at A4
    have B4 := B3.off o4 (fun c _ h1 h2 => dj c h2 h1)
    have dj4 : ∀ c, DA' c → ¬ c = w1.heap.size := dj_step dj g4 B3.lt
    have O4 := O3.trans o4 (fun i _ h => lA i h)
    clear A3 B3 o4 g4 O3 dj
    go_wp2_with fail
    refine (wint_any B4 c hc0 hc1 (by simp)).mono ?_
    rintro e w5 ⟨rfl, DB, B5, o5, g5⟩
    rw [E3'.out] at B5
    have A5 := A4.off o5 (fun c _ h1 h2 => dj4 c h1 h2)
    have lB : ∀ c, DB c → w.heap.size ≤ c := lo_step (fun c h => by omega) g5 O4.size
    have dj5 : ∀ c, DB c → ¬ DA' c := dj_step (fun c h1 h2 => dj4 c h2 h1) g5 A4.lt
    have O5 := O4.trans o5 (fun i _ h => by omega)
    clear A4 B4 o5 g5 O4 dj4
    go_wp2_with fail
    refine (wnum_any B5 b hb (by simp; omega)).mono ?_
    rintro e w6 ⟨rfl, DB', B6, o6, g6⟩
    rw [E4'.out] at B6
    have A6 := A5.off o6 (fun c _ h1 h2 => dj5 c h2 h1)
    have O6 := O5.trans o6 (fun i _ h => lB i h)
    clear A5 B5 o6 g6 O5 dj5
    go_wp2_with fail
    refine (done_any A6 (by simp; omega)).mono ?_
    rintro e w7 ⟨tx, cx, rfl, ownx, hbx, o7⟩
    have B7 := B6.off o7 (fun _ _ _ h => h)
    have O7 := O6.trans o7 (fun _ _ h => h.elim)
    go_wp2_with fail
    refine (done_any B7 (by simp; omega)).mono ?_
    rintro e w8 ⟨ty, cy, rfl, owny, hby, o8⟩
    have O8 := O7.trans o8 (fun _ _ h => h.elim)
    have ownx8 : OwnR w8 tx cx X := ownx.off o8 (fun _ _ _ h => h)
    replace owny : OwnR w8 ty cy Y := owny
    clear A6 B6 B7 ownx hbx hby o7 o8 O6 O7
    simp only [Option.getD_some, errW]
    have L0 : OwnR (w8.alloc (.cells #[] 5)) (some ⟨w8.heap.size, 0, none⟩) 0 [] := ⟨World.ownsRow_lit w8 #[] 0 (Nat.zero_le _) (by decide) rfl⟩
    have o80 : Off (fun _ => False) w8 (w8.alloc (.cells #[] 5)) := (Off.refl _ w8).alloc _
    have HL0 : Hid (OwnR (w8.alloc (.cells #[] 5)) (some ⟨w8.heap.size, 0, none⟩) 0 []) := L0
    have HX8 : Hid (OwnR w8 tx cx X) := ownx8
    have HY8 : Hid (OwnR w8 ty cy Y) := owny
    clear L0 ownx8 owny
    go_wp2_with (first
      | (at_builtin; refine wpList_app rfl (.tmp 44) (.tmp 45) rfl _ 0 [] rfl HL0.out tx cx X rfl (HX8.out.src.off o80 (fun _ _ _ h => h)) (by simp; omega) ?_; intro t9 c9 w9 y9 hy9 own9 off9 at9; have o9 : Off (fun c => w8.heap.size ≤ c) w8 w9 := (o80.mono (fun _ _ h => h.elim)).trans off9 (fun i _ h => by simp [blk] at h; omega); have OW9 : Hid (OwnR w9 t9 c9 y9) := own9; have hb9 : ∀ k, blk t9 = some k → w8.heap.size ≤ k := (fun k hk => by rcases at9 with a | a <;> (rw [a] at hk; simp [blk] at hk; omega)); have HB9 : Hid _ := hb9; clear own9 off9 at9 hb9)
      | (at_builtin; refine wpList_app rfl (.tmp 46) (.tmp 47) rfl t9 c9 y9 rfl OW9.out ty cy Y rfl (HY8.out.src.off o9 (fun c hc _ h => by omega)) (by have : y9 = X := hy9.out; rw [this]; omega) ?_; intro t10 c10 w10 y10 hy10 own10 off10 at10; have o10 : Off (fun c => w8.heap.size ≤ c) w8 w10 := o9.trans off10 (fun i _ h => HB9.out i h); have OW10 : Hid (OwnR w10 t10 c10 y10) := own10; clear own10 off10 at10))
    have O10 := O8.trans o10 (fun i _ h => by have := O8.size; omega)
    have hy : y10 = X ++ Y := by rw [hy10.out, show y9 = X from hy9.out]
    have HY10 : Hid _ := hy
    clear hy hy9 hy10 o9 o10 OW9 HB9 HL0 HX8 HY8 o80
    have ly : y10.length ≤ 140737488355328 := by rw [HY10.out]; simp; omega
    refine (newReader_any t10 c10 y10 ly (by rw [HY10.out]; exact HLX.out) w10 OW10.out.src).mono ?_
    rintro e W ⟨rb, D, rfl, hrb, hD, R0, o11⟩
    rw [HY10.out] at R0
    have O11 := O10.trans o11 (fun _ _ h => h.elim)
    clear o11 OW10 HY10 ly
    go_wp2_with fail
    have hrw : w.heap.size ≤ rb := Nat.le_trans O10.size hrb
    have hS0 : Src W.drew tad cap bs := HS.out _ O11.drew
    have hkeep : ∀ w', Off (fun c => c = rb) W w' → Src w' tad cap bs := fun w' o => HS.out w' (O11.trans o (fun i _ h => by omega))
    have HKP : Hid _ := hkeep
    have y17 : ∀ w', Src w' tad cap bs → (convert 23 9 (.slice tad bs.length cap)).run Try.prog w' = .ok (.string (strOf bs)) w' := fun w' h => conv_src h
    clear hkeep O8 O10
    replace R0 : Rdr 51 D rb (X ++ Y, 0) W.drew := R0.off ((Off.refl (fun _ => False) W).drew) (fun h => h) (fun _ _ _ h => h)
    refine wp_region_held_drew (S := fun w' => Src w' tad cap bs) (by kernel_rfl) hS0 (fun hS => ?_)
    clear hS0
    refine take_at (i := 0) 50 (v := .int .i64 0) rfl rfl (by kernel_rfl) (by kernel_rfl) (by kernel_rfl) (fun _ _ _ h => h) (Or.inl ⟨by rfl, fun w' hw' => by go_simp⟩) hS ?_
    simp only [Act.put, List.setIfInBounds_toArray, List.set_cons_zero, List.set_cons_succ]
    refine take_at (i := 1) 51 (v := .bool true) rfl rfl (by kernel_rfl) (by kernel_rfl) (by kernel_rfl) (fun _ _ _ h => h) (Or.inl ⟨by rfl, fun w' hw' => by go_simp⟩) hS ?_
    simp only [Act.put, List.setIfInBounds_toArray, List.set_cons_zero, List.set_cons_succ]
    refine take_at (i := 2) 52 (v := .bool true) rfl rfl (by kernel_rfl) (by kernel_rfl) (by kernel_rfl) (fun _ _ _ h => h) (Or.inl ⟨by rfl, fun w' hw' => by go_simp⟩) hS ?_
    simp only [Act.put, List.setIfInBounds_toArray, List.set_cons_zero, List.set_cons_succ]
    refine take_at (i := 3) 53 (v := .int .i64 0) rfl rfl (by kernel_rfl) (by kernel_rfl) (by kernel_rfl) (fun _ _ _ h => h) (Or.inl ⟨by rfl, fun w' hw' => by go_simp⟩) hS ?_
    simp only [Act.put, List.setIfInBounds_toArray, List.set_cons_zero, List.set_cons_succ]
    refine take_at (i := 4) 54 (v := .bool true) rfl rfl (by kernel_rfl) (by kernel_rfl) (by kernel_rfl) (fun _ _ _ h => h) (Or.inl ⟨by rfl, fun w' hw' => by go_simp⟩) hS ?_
    simp only [Act.put, List.setIfInBounds_toArray, List.set_cons_zero, List.set_cons_succ]
    refine take_at (i := 5) 55 (v := .bool true) rfl rfl (by kernel_rfl) (by kernel_rfl) (by kernel_rfl) (fun _ _ _ h => h) (Or.inl ⟨by rfl, fun w' hw' => by go_simp⟩) hS ?_
    simp only [Act.put, List.setIfInBounds_toArray, List.set_cons_zero, List.set_cons_succ]
    refine take_at (i := 6) 56 (v := .bool true) rfl rfl (by kernel_rfl) (by kernel_rfl) (by kernel_rfl) (fun _ _ _ h => h) (Or.inl ⟨by rfl, fun w' hw' => by go_simp⟩) hS ?_
    simp only [Act.put, List.setIfInBounds_toArray, List.set_cons_zero, List.set_cons_succ]
    refine take_at (i := 7) 57 (v := .pointer (some ⟨rb, 0, none⟩)) rfl rfl (by kernel_rfl) (by kernel_rfl) (by kernel_rfl) (fun _ _ _ h => h) (Or.inl ⟨by rfl, fun w' hw' => by go_simp⟩) hS ?_
    simp only [Act.put, List.setIfInBounds_toArray, List.set_cons_zero, List.set_cons_succ]
    refine take_at (i := 9) 59 (v := .int .u64 (a : Int)) rfl rfl (by kernel_rfl) (by kernel_rfl) (by kernel_rfl) (fun _ _ _ h => h) (Or.inl ⟨by rfl, fun w' hw' => by go_simp⟩) hS ?_
    simp only [Act.put, List.setIfInBounds_toArray, List.set_cons_zero, List.set_cons_succ]
    refine wpAnyH_ready (rs := [8]) (by kernel_rfl) (by simp) ?_
    refine AllReadyH.cons rfl (fun K' hK' => ?_) AllReadyH.nil
    go_simp
    refine (rnum_any R0).mono ?_
    rw [E1.out]
    rintro e v1 ⟨rfl, R1, p1⟩
    have Q1 : Off (fun c => c = rb) W v1 := ((Off.refl _ W).drew).trans p1 (fun _ _ h => h)
    refine hK'.out _ _ (HKP.out v1 Q1) (fun hS => ?_)
    clear hK' K' p1 R0
    refine take_at (i := 10) 60 (v := .bool true) rfl rfl (by kernel_rfl) (by kernel_rfl) (by kernel_rfl) (fun _ _ _ h => h) (Or.inl ⟨by rfl, fun w' hw' => by go_simp⟩) hS ?_
    simp only [Act.put, List.setIfInBounds_toArray, List.set_cons_zero, List.set_cons_succ]
    refine take_at (i := 11) 61 (v := .bool true) rfl rfl (by kernel_rfl) (by kernel_rfl) (by kernel_rfl) (fun _ _ _ h => h) (Or.inl ⟨by rfl, fun w' hw' => by go_simp⟩) hS ?_
    simp only [Act.put, List.setIfInBounds_toArray, List.set_cons_zero, List.set_cons_succ]
    refine take_at (i := 12) 62 (v := .bool true) rfl rfl (by kernel_rfl) (by kernel_rfl) (by kernel_rfl) (fun _ _ _ h => h) (Or.inl ⟨by rfl, fun w' hw' => by go_simp⟩) hS ?_
    simp only [Act.put, List.setIfInBounds_toArray, List.set_cons_zero, List.set_cons_succ]
    refine take_at (i := 13) 63 (v := .pointer (some ⟨rb, 0, none⟩)) rfl rfl (by kernel_rfl) (by kernel_rfl) (by kernel_rfl) (fun _ _ _ h => h) (Or.inl ⟨by rfl, fun w' hw' => by go_simp⟩) hS ?_
    simp only [Act.put, List.setIfInBounds_toArray, List.set_cons_zero, List.set_cons_succ]
    refine take_at (i := 16) 66 (v := .slice tad bs.length cap) rfl rfl (by kernel_rfl) (by kernel_rfl) (by kernel_rfl) (fun _ _ _ h => h) (Or.inl ⟨by rfl, fun w' hw' => by go_simp⟩) hS ?_
    simp only [Act.put, List.setIfInBounds_toArray, List.set_cons_zero, List.set_cons_succ]
    refine take_at (i := 17) 67 (v := .string (strOf bs)) rfl rfl (by kernel_rfl) (by kernel_rfl) (by kernel_rfl) (fun _ _ _ h => h) (Or.inl ⟨by rfl, fun w' hw' => by have e := y17 w' hw'; go_simp⟩) hS ?_
    simp only [Act.put, List.setIfInBounds_toArray, List.set_cons_zero, List.set_cons_succ]
    refine wpAnyH_ready (rs := [14]) (by kernel_rfl) (by simp) ?_
    refine AllReadyH.cons rfl (fun K' hK' => ?_) AllReadyH.nil
    go_simp
    refine (rtext_any R1 300 (by decide) (by decide)).mono ?_
    rw [E2.out]
    rintro e v2 ⟨t2, c2, rfl, own2, hb2, R2, p2⟩
    have Q2 : Off (fun c => c = rb) W v2 := Q1.trans p2 (fun _ _ h => h)
    have C2 := conv_src own2.src
    have HC2 : Hid _ := C2
    clear C2
    refine hK'.out _ _ (HKP.out v2 Q2) (fun hS => ?_)
    clear hK' K' p2 R1 Q1 own2 hb2
    refine wpAnyH_ready (rs := [15]) (by kernel_rfl) (by simp) ?_
    refine AllReadyH.cons rfl (fun K' hK' => ?_) AllReadyH.nil
    have C2 := HC2.out
    go_simp
    clear C2
    refine hK'.out _ _ hS (fun hS => ?_)
    clear hK' K' HC2
    refine take_at (i := 18) 68 (v := .bool true) rfl rfl (by kernel_rfl) (by kernel_rfl) (by kernel_rfl) (fun _ _ _ h => h) (Or.inl ⟨by rfl, fun w' hw' => by go_simp⟩) hS ?_
    simp only [Act.put, List.setIfInBounds_toArray, List.set_cons_zero, List.set_cons_succ]
    refine take_at (i := 19) 69 (v := .bool true) rfl rfl (by kernel_rfl) (by kernel_rfl) (by kernel_rfl) (fun _ _ _ h => h) (Or.inl ⟨by rfl, fun w' hw' => by go_simp⟩) hS ?_
    simp only [Act.put, List.setIfInBounds_toArray, List.set_cons_zero, List.set_cons_succ]
    refine take_at (i := 20) 70 (v := .bool true) rfl rfl (by kernel_rfl) (by kernel_rfl) (by kernel_rfl) (fun _ _ _ h => h) (Or.inl ⟨by rfl, fun w' hw' => by go_simp⟩) hS ?_
    simp only [Act.put, List.setIfInBounds_toArray, List.set_cons_zero, List.set_cons_succ]
    refine take_at (i := 21) 71 (v := .pointer (some ⟨rb, 0, none⟩)) rfl rfl (by kernel_rfl) (by kernel_rfl) (by kernel_rfl) (fun _ _ _ h => h) (Or.inl ⟨by rfl, fun w' hw' => by go_simp⟩) hS ?_
    simp only [Act.put, List.setIfInBounds_toArray, List.set_cons_zero, List.set_cons_succ]
    refine take_at (i := 23) 73 (v := .slice ty Y.length cy) rfl rfl (by kernel_rfl) (by kernel_rfl) (by kernel_rfl) (fun _ _ _ h => h) (Or.inl ⟨by rfl, fun w' hw' => by go_simp⟩) hS ?_
    simp only [Act.put, List.setIfInBounds_toArray, List.set_cons_zero, List.set_cons_succ]
    refine take_at (i := 24) 74 (v := .int .i64 ((Y.length : Nat) : Int)) rfl rfl (by kernel_rfl) (by kernel_rfl) (by kernel_rfl) (fun _ _ _ h => h) (Or.inl ⟨by rfl, fun w' hw' => by go_simp⟩) hS ?_
    simp only [Act.put, List.setIfInBounds_toArray, List.set_cons_zero, List.set_cons_succ]
    refine wpAnyH_ready (rs := [22]) (by kernel_rfl) (by simp) ?_
    refine AllReadyH.cons rfl (fun K' hK' => ?_) AllReadyH.nil
    go_simp
    refine (rleft_any R2).mono ?_
    rintro e v3 ⟨rfl, hw⟩
    rw [hw]
    clear hw v3
    refine hK'.out _ _ hS (fun hS => ?_)
    clear hK' K'
    refine take_at (i := 25) 75 (v := .bool true) rfl rfl (by kernel_rfl) (by kernel_rfl) (by kernel_rfl) (fun _ _ _ h => h) (Or.inl ⟨by rfl, fun w' hw' => by go_simp⟩) hS ?_
    simp only [Act.put, List.setIfInBounds_toArray, List.set_cons_zero, List.set_cons_succ]
    refine take_at (i := 26) 76 (v := .bool true) rfl rfl (by kernel_rfl) (by kernel_rfl) (by kernel_rfl) (fun _ _ _ h => h) (Or.inl ⟨by rfl, fun w' hw' => by go_simp⟩) hS ?_
    simp only [Act.put, List.setIfInBounds_toArray, List.set_cons_zero, List.set_cons_succ]
    refine take_at (i := 27) 77 (v := .bool true) rfl rfl (by kernel_rfl) (by kernel_rfl) (by kernel_rfl) (fun _ _ _ h => h) (Or.inl ⟨by rfl, fun w' hw' => by go_simp⟩) hS ?_
    simp only [Act.put, List.setIfInBounds_toArray, List.set_cons_zero, List.set_cons_succ]
    refine take_at (i := 28) 78 (v := .pointer (some ⟨rb, 0, none⟩)) rfl rfl (by kernel_rfl) (by kernel_rfl) (by kernel_rfl) (fun _ _ _ h => h) (Or.inl ⟨by rfl, fun w' hw' => by go_simp⟩) hS ?_
    simp only [Act.put, List.setIfInBounds_toArray, List.set_cons_zero, List.set_cons_succ]
    refine take_at (i := 30) 80 (v := .int .i64 c) rfl rfl (by kernel_rfl) (by kernel_rfl) (by kernel_rfl) (fun _ _ _ h => h) (Or.inl ⟨by rfl, fun w' hw' => by go_simp⟩) hS ?_
    simp only [Act.put, List.setIfInBounds_toArray, List.set_cons_zero, List.set_cons_succ]
    refine wpAnyH_ready (rs := [29]) (by kernel_rfl) (by simp) ?_
    refine AllReadyH.cons rfl (fun K' hK' => ?_) AllReadyH.nil
    go_simp
    refine (rint_any R2).mono ?_
    rw [E3.out]
    rintro e v3 ⟨rfl, R3, p3⟩
    have Q3 : Off (fun c => c = rb) W v3 := Q2.trans p3 (fun _ _ h => h)
    refine hK'.out _ _ (HKP.out v3 Q3) (fun hS => ?_)
    clear hK' K' p3 R2 Q2
    refine take_at (i := 31) 81 (v := .bool true) rfl rfl (by kernel_rfl) (by kernel_rfl) (by kernel_rfl) (fun _ _ _ h => h) (Or.inl ⟨by rfl, fun w' hw' => by go_simp⟩) hS ?_
    simp only [Act.put, List.setIfInBounds_toArray, List.set_cons_zero, List.set_cons_succ]
    refine take_at (i := 32) 82 (v := .bool true) rfl rfl (by kernel_rfl) (by kernel_rfl) (by kernel_rfl) (fun _ _ _ h => h) (Or.inl ⟨by rfl, fun w' hw' => by go_simp⟩) hS ?_
    simp only [Act.put, List.setIfInBounds_toArray, List.set_cons_zero, List.set_cons_succ]
    refine take_at (i := 33) 83 (v := .bool true) rfl rfl (by kernel_rfl) (by kernel_rfl) (by kernel_rfl) (fun _ _ _ h => h) (Or.inl ⟨by rfl, fun w' hw' => by go_simp⟩) hS ?_
    simp only [Act.put, List.setIfInBounds_toArray, List.set_cons_zero, List.set_cons_succ]
    refine take_at (i := 34) 84 (v := .pointer (some ⟨rb, 0, none⟩)) rfl rfl (by kernel_rfl) (by kernel_rfl) (by kernel_rfl) (fun _ _ _ h => h) (Or.inl ⟨by rfl, fun w' hw' => by go_simp⟩) hS ?_
    simp only [Act.put, List.setIfInBounds_toArray, List.set_cons_zero, List.set_cons_succ]
    refine take_at (i := 36) 86 (v := .int .u64 (b : Int)) rfl rfl (by kernel_rfl) (by kernel_rfl) (by kernel_rfl) (fun _ _ _ h => h) (Or.inl ⟨by rfl, fun w' hw' => by go_simp⟩) hS ?_
    simp only [Act.put, List.setIfInBounds_toArray, List.set_cons_zero, List.set_cons_succ]
    refine wpAnyH_ready (rs := [35]) (by kernel_rfl) (by simp) ?_
    refine AllReadyH.cons rfl (fun K' hK' => ?_) AllReadyH.nil
    go_simp
    refine (rnum_any R3).mono ?_
    rw [E4.out]
    rintro e v4 ⟨rfl, R4, p4⟩
    have Q4 : Off (fun c => c = rb) W v4 := Q3.trans p4 (fun _ _ h => h)
    refine hK'.out _ _ (HKP.out v4 Q4) (fun hS => ?_)
    clear hK' K' p4 R3 Q3
    refine take_at (i := 37) 87 (v := .bool true) rfl rfl (by kernel_rfl) (by kernel_rfl) (by kernel_rfl) (fun _ _ _ h => h) (Or.inl ⟨by rfl, fun w' hw' => by go_simp⟩) hS ?_
    simp only [Act.put, List.setIfInBounds_toArray, List.set_cons_zero, List.set_cons_succ]
    refine take_at (i := 38) 88 (v := .bool true) rfl rfl (by kernel_rfl) (by kernel_rfl) (by kernel_rfl) (fun _ _ _ h => h) (Or.inl ⟨by rfl, fun w' hw' => by go_simp⟩) hS ?_
    simp only [Act.put, List.setIfInBounds_toArray, List.set_cons_zero, List.set_cons_succ]
    refine take_at (i := 39) 89 (v := .bool true) rfl rfl (by kernel_rfl) (by kernel_rfl) (by kernel_rfl) (fun _ _ _ h => h) (Or.inl ⟨by rfl, fun w' hw' => by go_simp⟩) hS ?_
    simp only [Act.put, List.setIfInBounds_toArray, List.set_cons_zero, List.set_cons_succ]
    refine take_at (i := 40) 90 (v := .pointer (some ⟨rb, 0, none⟩)) rfl rfl (by kernel_rfl) (by kernel_rfl) (by kernel_rfl) (fun _ _ _ h => h) (Or.inl ⟨by rfl, fun w' hw' => by go_simp⟩) hS ?_
    simp only [Act.put, List.setIfInBounds_toArray, List.set_cons_zero, List.set_cons_succ]
    refine wpAnyH_ready (rs := [41]) (by kernel_rfl) (by simp) ?_
    refine AllReadyH.cons rfl (fun K' hK' => ?_) AllReadyH.nil
    go_simp
    refine (rend_any R4).mono ?_
    rw [show endS (([] : List Nat), 0) = 0 from rfl]
    rintro e v5 ⟨rfl, hw⟩
    rw [hw]
    clear hw v5
    refine hK'.out _ _ hS (fun hS => ?_)
    clear hK' K'
    refine take_at (i := 42) 92 (v := .bool true) rfl rfl (by kernel_rfl) (by kernel_rfl) (by kernel_rfl) (fun _ _ _ h => h) (Or.inl ⟨by rfl, fun w' hw' => by go_simp⟩) hS ?_
    simp only [Act.put, List.setIfInBounds_toArray, List.set_cons_zero, List.set_cons_succ]
    refine take_at (i := 43) 93 (v := .bool true) rfl rfl (by kernel_rfl) (by kernel_rfl) (by kernel_rfl) (fun _ _ _ h => h) (Or.inl ⟨by rfl, fun w' hw' => by go_simp⟩) hS ?_
    simp only [Act.put, List.setIfInBounds_toArray, List.set_cons_zero, List.set_cons_succ]
    refine take_at (i := 44) 94 (v := .bool true) rfl rfl (by kernel_rfl) (by kernel_rfl) (by kernel_rfl) (fun _ _ _ h => h) (Or.inl ⟨by rfl, fun w' hw' => by go_simp⟩) hS ?_
    simp only [Act.put, List.setIfInBounds_toArray, List.set_cons_zero, List.set_cons_succ]
    refine wpAnyH_ready (rs := [45]) (by kernel_rfl) (by simp) ?_
    refine AllReadyH.cons rfl (fun K' hK' => ?_) AllReadyH.nil
    go_simp
    refine (awake_any v4).mono ?_
    rintro e v5 ⟨rfl, p5⟩
    have Q5 : Off (fun c => c = rb) W v5 := Q4.trans p5 (fun _ _ h => h.elim)
    refine hK'.out _ _ (HKP.out v5 Q5) (fun hS => ?_)
    clear hK' K' p5
    refine take_at (i := 46) 96 (v := .bool true) rfl rfl (by kernel_rfl) (by kernel_rfl) (by kernel_rfl) (fun _ _ _ h => h) (Or.inl ⟨by rfl, fun w' hw' => by go_simp⟩) hS ?_
    simp only [Act.put, List.setIfInBounds_toArray, List.set_cons_zero, List.set_cons_succ]
    refine take_at (i := 47) 8 (v := .bool true) rfl rfl (by kernel_rfl) (by kernel_rfl) (by kernel_rfl) (fun _ _ _ h => h) (Or.inl ⟨by rfl, fun w' hw' => by go_simp⟩) hS ?_
    simp only [Act.put, List.setIfInBounds_toArray, List.set_cons_zero, List.set_cons_succ]
    refine wpAnyH_done (by kernel_rfl) ?_ _
    go_wp2_with fail
    go_ret
    exact ⟨rfl, (O11.trans Q5 (fun _ _ h => by omega)).below (Nat.le_refl _) (fun _ h => h)⟩

theorem parts_walk (a b c : Int) (tad : Option Addr) (len cap : Nat) (bs : List Nat) (w : World) (w0 : (Lit.int .u64 a).wf = true) (w1 : (Lit.int .u64 b).wf = true) (w2 : (Lit.int .i64 c).wf = true) (w3 : ArgB w tad len cap bs) :
    Calls Try.prog 3 #[.int .u64 a, .int .u64 b, .int .i64 c, .slice tad len cap] w fun e w' => e = .returned (.bool true) ∧ Below w.heap.size w w' := by
  obtain ⟨m, rfl, hm⟩ := u64_nat w0
  obtain ⟨n, rfl, hn⟩ := u64_nat w1
  have hb := i64_int w2
  obtain ⟨rfl, hlt, hsrc, -⟩ := w3
  exact parts_nat m n hm hn c hb.1 hb.2 tad cap bs hlt w hsrc
end Go.Proofs.Ytkjinhbhlcbfdab
