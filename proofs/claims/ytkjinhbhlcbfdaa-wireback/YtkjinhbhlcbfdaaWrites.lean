/- The walk of WireWrites. -/
import Derived.Test.YtkjinhbhlcbfdaaWrite
namespace Go.Proofs.Ytkjinhbhlcbfdaa
open Go.RowKit

theorem put_len (most : Nat) (st : Option (List Nat)) (x : List Nat) : ((putS most st x).getD []).length ≤ (st.getD []).length + x.length := by
  cases st with
  | none => simp [putS]
  | some bs =>
    simp only [putS]
    split
    · simp
    · simp
theorem enc_len (c : CallD) (hn : c.num < 18446744073709551616) (i0 : -9223372036854775808 ≤ c.int) (i1 : c.int ≤ 9223372036854775807) (hl : c.text.length < 18446744073709551616) : (encB c).length ≤ 10 + c.text.length := by
  have h1 := numB_ten hn
  have h2 := numB_ten (zig_lt i0 i1)
  have h3 := numB_ten hl
  unfold encB
  split
  · omega
  · split
    · omega
    · split
      · simp; omega
      · simp; omega

set_option maxRecDepth 100000 in
set_option maxHeartbeats 4000000 in
theorem writes_nat (m : Int) (hm0 : -9223372036854775808 ≤ m) (hm1 : m ≤ 9223372036854775807) (a : Option Addr) (len cap1 : Nat) (cs : Nat → CallD) (w : World) (hlen : len ≤ 9223372036854775807)
    (hA : ∀ w', Off (fun c => w.heap.size ≤ c) w w' → ∀ i, i < len → ∃ b off, a = some ⟨b, off, none⟩ ∧ b < w.heap.size ∧ CallOk w' b (off + i * 6) (cs i)) (hK : ∀ i, i < len → (cs i).text.length ≤ 1048576) :
    Calls Try.prog 3 #[.int .i64 m, .slice a len cap1] w fun e w' => e = .returned (.bool true) ∧ Below w.heap.size w w' := by
  have HA : Hid _ := hA
  have HK : Hid _ := hK
  clear hA hK
  obtain ⟨mm, hmm⟩ : ∃ mm, mm = m.toNat := ⟨_, rfl⟩
  have hmx : (mm : Int) = m ∨ ((mm : Int) = 0 ∧ m ≤ 0) := by omega
  have hmb : mm ≤ 9223372036854775807 := by omega
  have hx : ∀ ts t W, (Builtin.max_ ts t #[.int .i64 0, .int .i64 m]).run Try.prog W = .ok (.int .i64 (mm : Int)) W := by
    intro ts t W
    go_simp
    omega
  have HMM : Hid _ := hmm
  clear hmm hmx
  go_enter Try.func3, Try.ntmps3
  go_wp2_with fail
  refine (newWriter_any m hm1 w).mono ?_
  rintro e w1 ⟨rfl, hW, o1⟩
  rw [← HMM.out] at hW
  have o2 : Off (fun _ => False) w1 (w1.alloc (.cells #[.slice none 0 0, .int .i64 (mm : Int), .bool false] 28)) := (Off.refl _ w1).alloc _
  have W2 := hW.off o2 (fun _ _ _ h => h)
  have M2 : FW (fun c => c = w1.heap.size) w1.heap.size mm (some []) (w1.alloc (.cells #[.slice none 0 0, .int .i64 (mm : Int), .bool false] 28)) := ⟨rfl, fun c h => by simp [h], hmb, .inr ⟨[], none, 0, rfl, Cel.new w1 _ _, OwnR.nil _, fun k hk => by simp [blk] at hk⟩⟩
  have O2 : Off (fun c => w.heap.size ≤ c) w (w1.alloc (.cells #[.slice none 0 0, .int .i64 (mm : Int), .bool false] 28)) := (o1.mono (fun _ _ h => h.elim)).trans o2 (fun _ _ h => h.elim)
  have s1 := hW.lt _ hW.here
  have s0 := o1.size
  have HW2 : Hid _ := W2
  have HM2 : Hid _ := M2
  have HO2 : Hid _ := O2
  clear W2 M2 O2 hW o1 o2 HMM
  go_wp2_with fail
  go_loopw [7] (fun y wr => ∃ (i : Nat) (D E : Nat → Prop) (st : Option (List Nat)), y = .int .i64 (i : Int) ∧ i ≤ len ∧ i ≤ 60 ∧ Wtr D w.heap.size mm st wr ∧ FW E w1.heap.size mm st wr ∧ (∀ c, D c → ¬ E c) ∧ (∀ c, D c → w.heap.size ≤ c) ∧ (∀ c, E c → w.heap.size ≤ c) ∧ Off (fun c => w.heap.size ≤ c) w wr ∧ (st.getD []).length ≤ i * 1048586) (fun y _ => (60 - intOf y).toNat)
  case atStart => exact ⟨0, _, _, some [], rfl, by omega, by omega, HW2.out, HM2.out, fun c h1 h2 => by omega, fun c h => by omega, fun c h => by omega, HO2.out, by simp⟩
  case round =>
    clear HW2 HM2 HO2
    obtain ⟨i, D, E, st, rfl, hi1, hi2, hW, hM, dj, lD, lE, O, hsz⟩ := hrel
    by_cases hlt : i < len ∧ i < 60
    · have l1 := hlt.1
      have l2 := hlt.2
      obtain ⟨cb, off, rfl, hcb, hc⟩ := HA.out _ O i l1
      have hK1 := HK.out i l1
      have hS : ∀ w', Off (fun c => D c ∨ E c) wr w' → Src w' (cs i).tt (cs i).tc (cs i).text := fun w' o => by
        obtain ⟨_, _, -, -, hc'⟩ := HA.out w' (O.trans o (fun k _ h => h.elim (lD k) (lE k))) i l1
        exact hc'.src
      obtain ⟨c, ec⟩ : ∃ c, c = cs i := ⟨_, rfl⟩
      rw [← ec] at hc hK1 hS
      obtain ⟨k0, k1, k2, k3, k4, k5, n0, i0, i1, -, -, -, -, -⟩ := hc
      have hel := enc_len c n0 i0 i1 (by omega)
      have HS : Hid _ := hS
      have HEL : Hid _ := hel
      clear ec hlt hS hel
      obtain ⟨act, num, int, flag, tt, tc, text, mst⟩ := c
      simp only at k0 k1 k2 k3 k4 k5 hK1 n0 i0 i1
      go_wp2_with fail
      refine (write_any hW hM dj ⟨act, num, int, flag, tt, tc, text, mst⟩ n0 i0 i1 HS.out (by simp only; omega)).mono ?_
      rintro e w3 ⟨rfl, D', E', W3, M3, dj3, o3, gD, gE⟩
      go_wp2_with fail
      go_roundw
      case rel =>
        refine ⟨i + 1, D', E', _, by go_num, by omega, by omega, W3, M3, dj3, lo_step lD gD O.size, lo_step lE gE O.size, O.trans o3 (fun k _ h => h.elim (lD k) (lE k)), ?_⟩
        have h1 := put_len mm st (encB ⟨act, num, int, flag, tt, tc, text, mst⟩)
        have h2 := HEL.out

        omega
      case measure => simp [intOf]; omega
    · have hend : i = len ∨ (i < len ∧ i = 60) := by omega
      clear hlt
      rcases hend with hend | ⟨l1, l2⟩
      · have hd4 : decide ((i : Int) < (len : Int)) = false := decide_eq_false (by omega)
        have hd4' : decide (i < len) = false := decide_eq_false (by omega)
        have HEN : Hid _ := hend
        clear hend
        have hsz' : (st.getD []).length ≤ 140737488355328 := by omega
        rcases hM.is with ⟨est, tm, nm, cm, hcel⟩ | ⟨bs, tm, cm, est, hcel, hown, hblk⟩
        · subst est
          go_wp2_with fail
          refine (done_any hW hsz').mono ?_
          rintro e w9 ⟨t9, c9, rfl, own9, hb9, o9⟩
          have O9 := O.trans o9 (fun _ _ h => h.elim)
          have m9 : w9.cell? ⟨w1.heap.size, 2, none⟩ = some (.bool true) := by rw [(hcel.off o9 (fun h => h)).cell]; rfl
          clear own9 hb9 hcel hW hM
          simp only [Option.getD_none, errW, List.length_nil]
          go_wp2_with fail
          refine (awake_any _).mono ?_
          rintro e w10 ⟨rfl, o10⟩
          go_wp2_with fail
          go_ret
          exact ⟨rfl, (O9.trans o10 (fun _ _ h => h.elim)).below (Nat.le_refl _) (fun _ h => h)⟩
        · subst est
          go_wp2_with fail
          refine (done_any hW hsz').mono ?_
          rintro e w9 ⟨t9, c9, rfl, own9, hb9, o9⟩
          have O9 := O.trans o9 (fun _ _ h => h.elim)
          have M9 := hcel.off o9 (fun h => h)
          have m9 : w9.cell? ⟨w1.heap.size, 2, none⟩ = some (.bool false) := by rw [M9.cell]; rfl
          have m9' : w9.cell? ⟨w1.heap.size, 0, none⟩ = some (.slice tm bs.length cm) := by rw [M9.cell]; rfl
          have S9 := hown.src.off o9 (fun _ _ _ h => h)
          replace own9 : OwnR w9 t9 c9 bs := own9
          simp only [Option.getD_some, errW]
          have HM9 : Hid _ := m9'
          have HM9c : Hid _ := M9
          have HS9 : Hid _ := S9
          have HO9 : Hid (OwnR w9 t9 c9 bs) := own9
          clear own9 hb9 hcel hW hM hown hblk M9 S9 m9'
          go_wp2_with fail
          have hS0 : Src w9.drew t9 c9 bs ∧ w9.drew.cell? ⟨w1.heap.size, 0, none⟩ = some (.slice tm bs.length cm) ∧ Src w9.drew tm cm bs := ⟨HO9.out.src.off ((Off.refl (fun _ => False) w9).drew) (fun _ _ _ h => h), HM9.out, HS9.out.off ((Off.refl (fun _ => False) w9).drew) (fun _ _ _ h => h)⟩
          have hkeep : ∀ w', Off (fun _ => False) w9 w' → Src w' t9 c9 bs ∧ w'.cell? ⟨w1.heap.size, 0, none⟩ = some (.slice tm bs.length cm) ∧ Src w' tm cm bs := fun w' o => ⟨HO9.out.src.off o (fun _ _ _ h => h), by rw [(HM9c.out.off o (fun h => h)).cell]; rfl, HS9.out.off o (fun _ _ _ h => h)⟩
          have HKP : Hid _ := hkeep
          have y1 : ∀ w', (Src w' t9 c9 bs ∧ w'.cell? ⟨w1.heap.size, 0, none⟩ = some (.slice tm bs.length cm) ∧ Src w' tm cm bs) → (convert 26 9 (.slice t9 bs.length c9)).run Try.prog w' = .ok (.string (strOf bs)) w' := fun w' h => conv_src h.1
          have y2 : ∀ w', (Src w' t9 c9 bs ∧ w'.cell? ⟨w1.heap.size, 0, none⟩ = some (.slice tm bs.length cm) ∧ Src w' tm cm bs) → w'.cell? ⟨w1.heap.size, 0, none⟩ = some (.slice tm bs.length cm) := fun w' h => h.2.1
          have y3 : ∀ w', (Src w' t9 c9 bs ∧ w'.cell? ⟨w1.heap.size, 0, none⟩ = some (.slice tm bs.length cm) ∧ Src w' tm cm bs) → (convert 26 9 (.slice tm bs.length cm)).run Try.prog w' = .ok (.string (strOf bs)) w' := fun w' h => conv_src h.2.2
          clear hkeep
          refine wp_region_held_drew (S := fun w' => Src w' t9 c9 bs ∧ w'.cell? ⟨w1.heap.size, 0, none⟩ = some (.slice tm bs.length cm) ∧ Src w' tm cm bs) (by kernel_rfl) hS0 (fun hS => ?_)
          clear hS0
          refine take_at (i := 0) 54 (v := .int .i64 0) rfl rfl (by kernel_rfl) (by kernel_rfl) (by kernel_rfl) (fun _ _ _ h => h) (Or.inl ⟨by rfl, fun w' hw' => by go_simp⟩) hS ?_
          simp only [Act.put, List.setIfInBounds_toArray, List.set_cons_zero, List.set_cons_succ]
          refine take_at (i := 1) 55 (v := .bool true) rfl rfl (by kernel_rfl) (by kernel_rfl) (by kernel_rfl) (fun _ _ _ h => h) (Or.inl ⟨by rfl, fun w' hw' => by go_simp⟩) hS ?_
          simp only [Act.put, List.setIfInBounds_toArray, List.set_cons_zero, List.set_cons_succ]
          refine take_at (i := 2) 56 (v := .bool true) rfl rfl (by kernel_rfl) (by kernel_rfl) (by kernel_rfl) (fun _ _ _ h => h) (Or.inl ⟨by rfl, fun w' hw' => by go_simp⟩) hS ?_
          simp only [Act.put, List.setIfInBounds_toArray, List.set_cons_zero, List.set_cons_succ]
          refine take_at (i := 3) 57 (v := .slice t9 bs.length c9) rfl rfl (by kernel_rfl) (by kernel_rfl) (by kernel_rfl) (fun _ _ _ h => h) (Or.inl ⟨by rfl, fun w' hw' => by go_simp⟩) hS ?_
          simp only [Act.put, List.setIfInBounds_toArray, List.set_cons_zero, List.set_cons_succ]
          refine take_at (i := 5) 59 (v := .pointer (some ⟨w1.heap.size, 0, none⟩)) rfl rfl (by kernel_rfl) (by kernel_rfl) (by kernel_rfl) (fun _ _ _ h => h) (Or.inl ⟨by rfl, fun w' hw' => by go_simp⟩) hS ?_
          simp only [Act.put, List.setIfInBounds_toArray, List.set_cons_zero, List.set_cons_succ]
          refine take_at (i := 6) 60 (v := .pointer (some ⟨w1.heap.size, 0, none⟩)) rfl rfl (by kernel_rfl) (by kernel_rfl) (by kernel_rfl) (fun _ _ _ h => h) (Or.inl ⟨by rfl, fun w' hw' => by go_simp⟩) hS ?_
          simp only [Act.put, List.setIfInBounds_toArray, List.set_cons_zero, List.set_cons_succ]
          refine take_at (i := 7) 61 (v := .pointer (some ⟨w1.heap.size, 0, none⟩)) rfl rfl (by kernel_rfl) (by kernel_rfl) (by kernel_rfl) (fun _ _ _ h => h) (Or.inl ⟨by rfl, fun w' hw' => by go_simp⟩) hS ?_
          simp only [Act.put, List.setIfInBounds_toArray, List.set_cons_zero, List.set_cons_succ]
          refine take_at (i := 4) 58 (v := .string (strOf bs)) rfl rfl (by kernel_rfl) (by kernel_rfl) (by kernel_rfl) (fun _ _ _ h => h) (Or.inl ⟨by rfl, fun w' hw' => by have e := y1 w' hw'; go_simp⟩) hS ?_
          simp only [Act.put, List.setIfInBounds_toArray, List.set_cons_zero, List.set_cons_succ]
          refine take_at (i := 8) 62 (v := .slice tm bs.length cm) rfl rfl (by kernel_rfl) (by kernel_rfl) (by kernel_rfl) (fun _ _ _ h => h) (Or.inl ⟨by rfl, fun w' hw' => by have e := y2 w' hw'; go_simp⟩) hS ?_
          simp only [Act.put, List.setIfInBounds_toArray, List.set_cons_zero, List.set_cons_succ]
          refine take_at (i := 9) 63 (v := .string (strOf bs)) rfl rfl (by kernel_rfl) (by kernel_rfl) (by kernel_rfl) (fun _ _ _ h => h) (Or.inl ⟨by rfl, fun w' hw' => by have e := y3 w' hw'; go_simp⟩) hS ?_
          simp only [Act.put, List.setIfInBounds_toArray, List.set_cons_zero, List.set_cons_succ]
          refine take_at (i := 10) 64 (v := .bool true) rfl rfl (by kernel_rfl) (by kernel_rfl) (by kernel_rfl) (fun _ _ _ h => h) (Or.inl ⟨by rfl, fun w' hw' => by go_simp⟩) hS ?_
          simp only [Act.put, List.setIfInBounds_toArray, List.set_cons_zero, List.set_cons_succ]
          refine take_at (i := 11) 65 (v := .bool true) rfl rfl (by kernel_rfl) (by kernel_rfl) (by kernel_rfl) (fun _ _ _ h => h) (Or.inl ⟨by rfl, fun w' hw' => by go_simp⟩) hS ?_
          simp only [Act.put, List.setIfInBounds_toArray, List.set_cons_zero, List.set_cons_succ]
          refine take_at (i := 12) 66 (v := .bool true) rfl rfl (by kernel_rfl) (by kernel_rfl) (by kernel_rfl) (fun _ _ _ h => h) (Or.inl ⟨by rfl, fun w' hw' => by go_simp⟩) hS ?_
          simp only [Act.put, List.setIfInBounds_toArray, List.set_cons_zero, List.set_cons_succ]
          refine wpAnyH_ready (rs := [13]) (by kernel_rfl) (by simp) ?_
          refine AllReadyH.cons rfl (fun K' hK' => ?_) AllReadyH.nil
          go_simp
          refine (awake_any w9.drew).mono ?_
          rintro e v1 ⟨rfl, p1⟩
          have Q1 : Off (fun _ => False) w9 v1 := ((Off.refl _ w9).drew).trans p1 (fun _ _ h => h)
          refine hK'.out _ _ (HKP.out v1 Q1) (fun hS => ?_)
          clear hK' K' p1
          refine take_at (i := 14) 68 (v := .bool true) rfl rfl (by kernel_rfl) (by kernel_rfl) (by kernel_rfl) (fun _ _ _ h => h) (Or.inl ⟨by rfl, fun w' hw' => by go_simp⟩) hS ?_
          simp only [Act.put, List.setIfInBounds_toArray, List.set_cons_zero, List.set_cons_succ]
          refine take_at (i := 15) 4 (v := .bool true) rfl rfl (by kernel_rfl) (by kernel_rfl) (by kernel_rfl) (fun _ _ _ h => h) (Or.inl ⟨by rfl, fun w' hw' => by go_simp⟩) hS ?_
          simp only [Act.put, List.setIfInBounds_toArray, List.set_cons_zero, List.set_cons_succ]
          refine wpAnyH_done (by kernel_rfl) ?_ _
          go_wp2_with fail
          go_ret
          exact ⟨rfl, (O9.trans Q1 (fun _ _ h => h.elim)).below (Nat.le_refl _) (fun _ h => h)⟩
      · subst l2
        have hd4 : decide ((60 : Int) < (len : Int)) = true := decide_eq_true (by omega)
        have hd4' : decide (60 < len) = true := decide_eq_true (by omega)
        have hsz' : (st.getD []).length ≤ 140737488355328 := by omega
        rcases hM.is with ⟨est, tm, nm, cm, hcel⟩ | ⟨bs, tm, cm, est, hcel, hown, hblk⟩
        · subst est
          go_wp2_with fail
          refine (done_any hW hsz').mono ?_
          rintro e w9 ⟨t9, c9, rfl, own9, hb9, o9⟩
          have O9 := O.trans o9 (fun _ _ h => h.elim)
          have m9 : w9.cell? ⟨w1.heap.size, 2, none⟩ = some (.bool true) := by rw [(hcel.off o9 (fun h => h)).cell]; rfl
          clear own9 hb9 hcel hW hM
          simp only [Option.getD_none, errW, List.length_nil]
          go_wp2_with fail
          refine (awake_any _).mono ?_
          rintro e w10 ⟨rfl, o10⟩
          go_wp2_with fail
          go_ret
          exact ⟨rfl, (O9.trans o10 (fun _ _ h => h.elim)).below (Nat.le_refl _) (fun _ h => h)⟩
        · subst est
          go_wp2_with fail
          refine (done_any hW hsz').mono ?_
          rintro e w9 ⟨t9, c9, rfl, own9, hb9, o9⟩
          have O9 := O.trans o9 (fun _ _ h => h.elim)
          have M9 := hcel.off o9 (fun h => h)
          have m9 : w9.cell? ⟨w1.heap.size, 2, none⟩ = some (.bool false) := by rw [M9.cell]; rfl
          have m9' : w9.cell? ⟨w1.heap.size, 0, none⟩ = some (.slice tm bs.length cm) := by rw [M9.cell]; rfl
          have S9 := hown.src.off o9 (fun _ _ _ h => h)
          replace own9 : OwnR w9 t9 c9 bs := own9
          simp only [Option.getD_some, errW]
          have HM9 : Hid _ := m9'
          have HM9c : Hid _ := M9
          have HS9 : Hid _ := S9
          have HO9 : Hid (OwnR w9 t9 c9 bs) := own9
          clear own9 hb9 hcel hW hM hown hblk M9 S9 m9'
          go_wp2_with fail
          have hS0 : Src w9.drew t9 c9 bs ∧ w9.drew.cell? ⟨w1.heap.size, 0, none⟩ = some (.slice tm bs.length cm) ∧ Src w9.drew tm cm bs := ⟨HO9.out.src.off ((Off.refl (fun _ => False) w9).drew) (fun _ _ _ h => h), HM9.out, HS9.out.off ((Off.refl (fun _ => False) w9).drew) (fun _ _ _ h => h)⟩
          have hkeep : ∀ w', Off (fun _ => False) w9 w' → Src w' t9 c9 bs ∧ w'.cell? ⟨w1.heap.size, 0, none⟩ = some (.slice tm bs.length cm) ∧ Src w' tm cm bs := fun w' o => ⟨HO9.out.src.off o (fun _ _ _ h => h), by rw [(HM9c.out.off o (fun h => h)).cell]; rfl, HS9.out.off o (fun _ _ _ h => h)⟩
          have HKP : Hid _ := hkeep
          have y1 : ∀ w', (Src w' t9 c9 bs ∧ w'.cell? ⟨w1.heap.size, 0, none⟩ = some (.slice tm bs.length cm) ∧ Src w' tm cm bs) → (convert 26 9 (.slice t9 bs.length c9)).run Try.prog w' = .ok (.string (strOf bs)) w' := fun w' h => conv_src h.1
          have y2 : ∀ w', (Src w' t9 c9 bs ∧ w'.cell? ⟨w1.heap.size, 0, none⟩ = some (.slice tm bs.length cm) ∧ Src w' tm cm bs) → w'.cell? ⟨w1.heap.size, 0, none⟩ = some (.slice tm bs.length cm) := fun w' h => h.2.1
          have y3 : ∀ w', (Src w' t9 c9 bs ∧ w'.cell? ⟨w1.heap.size, 0, none⟩ = some (.slice tm bs.length cm) ∧ Src w' tm cm bs) → (convert 26 9 (.slice tm bs.length cm)).run Try.prog w' = .ok (.string (strOf bs)) w' := fun w' h => conv_src h.2.2
          clear hkeep
          refine wp_region_held_drew (S := fun w' => Src w' t9 c9 bs ∧ w'.cell? ⟨w1.heap.size, 0, none⟩ = some (.slice tm bs.length cm) ∧ Src w' tm cm bs) (by kernel_rfl) hS0 (fun hS => ?_)
          clear hS0
          refine take_at (i := 0) 54 (v := .int .i64 0) rfl rfl (by kernel_rfl) (by kernel_rfl) (by kernel_rfl) (fun _ _ _ h => h) (Or.inl ⟨by rfl, fun w' hw' => by go_simp⟩) hS ?_
          simp only [Act.put, List.setIfInBounds_toArray, List.set_cons_zero, List.set_cons_succ]
          refine take_at (i := 1) 55 (v := .bool true) rfl rfl (by kernel_rfl) (by kernel_rfl) (by kernel_rfl) (fun _ _ _ h => h) (Or.inl ⟨by rfl, fun w' hw' => by go_simp⟩) hS ?_
          simp only [Act.put, List.setIfInBounds_toArray, List.set_cons_zero, List.set_cons_succ]
          refine take_at (i := 2) 56 (v := .bool true) rfl rfl (by kernel_rfl) (by kernel_rfl) (by kernel_rfl) (fun _ _ _ h => h) (Or.inl ⟨by rfl, fun w' hw' => by go_simp⟩) hS ?_
          simp only [Act.put, List.setIfInBounds_toArray, List.set_cons_zero, List.set_cons_succ]
          refine take_at (i := 3) 57 (v := .slice t9 bs.length c9) rfl rfl (by kernel_rfl) (by kernel_rfl) (by kernel_rfl) (fun _ _ _ h => h) (Or.inl ⟨by rfl, fun w' hw' => by go_simp⟩) hS ?_
          simp only [Act.put, List.setIfInBounds_toArray, List.set_cons_zero, List.set_cons_succ]
          refine take_at (i := 5) 59 (v := .pointer (some ⟨w1.heap.size, 0, none⟩)) rfl rfl (by kernel_rfl) (by kernel_rfl) (by kernel_rfl) (fun _ _ _ h => h) (Or.inl ⟨by rfl, fun w' hw' => by go_simp⟩) hS ?_
          simp only [Act.put, List.setIfInBounds_toArray, List.set_cons_zero, List.set_cons_succ]
          refine take_at (i := 6) 60 (v := .pointer (some ⟨w1.heap.size, 0, none⟩)) rfl rfl (by kernel_rfl) (by kernel_rfl) (by kernel_rfl) (fun _ _ _ h => h) (Or.inl ⟨by rfl, fun w' hw' => by go_simp⟩) hS ?_
          simp only [Act.put, List.setIfInBounds_toArray, List.set_cons_zero, List.set_cons_succ]
          refine take_at (i := 7) 61 (v := .pointer (some ⟨w1.heap.size, 0, none⟩)) rfl rfl (by kernel_rfl) (by kernel_rfl) (by kernel_rfl) (fun _ _ _ h => h) (Or.inl ⟨by rfl, fun w' hw' => by go_simp⟩) hS ?_
          simp only [Act.put, List.setIfInBounds_toArray, List.set_cons_zero, List.set_cons_succ]
          refine take_at (i := 4) 58 (v := .string (strOf bs)) rfl rfl (by kernel_rfl) (by kernel_rfl) (by kernel_rfl) (fun _ _ _ h => h) (Or.inl ⟨by rfl, fun w' hw' => by have e := y1 w' hw'; go_simp⟩) hS ?_
          simp only [Act.put, List.setIfInBounds_toArray, List.set_cons_zero, List.set_cons_succ]
          refine take_at (i := 8) 62 (v := .slice tm bs.length cm) rfl rfl (by kernel_rfl) (by kernel_rfl) (by kernel_rfl) (fun _ _ _ h => h) (Or.inl ⟨by rfl, fun w' hw' => by have e := y2 w' hw'; go_simp⟩) hS ?_
          simp only [Act.put, List.setIfInBounds_toArray, List.set_cons_zero, List.set_cons_succ]
          refine take_at (i := 9) 63 (v := .string (strOf bs)) rfl rfl (by kernel_rfl) (by kernel_rfl) (by kernel_rfl) (fun _ _ _ h => h) (Or.inl ⟨by rfl, fun w' hw' => by have e := y3 w' hw'; go_simp⟩) hS ?_
          simp only [Act.put, List.setIfInBounds_toArray, List.set_cons_zero, List.set_cons_succ]
          refine take_at (i := 10) 64 (v := .bool true) rfl rfl (by kernel_rfl) (by kernel_rfl) (by kernel_rfl) (fun _ _ _ h => h) (Or.inl ⟨by rfl, fun w' hw' => by go_simp⟩) hS ?_
          simp only [Act.put, List.setIfInBounds_toArray, List.set_cons_zero, List.set_cons_succ]
          refine take_at (i := 11) 65 (v := .bool true) rfl rfl (by kernel_rfl) (by kernel_rfl) (by kernel_rfl) (fun _ _ _ h => h) (Or.inl ⟨by rfl, fun w' hw' => by go_simp⟩) hS ?_
          simp only [Act.put, List.setIfInBounds_toArray, List.set_cons_zero, List.set_cons_succ]
          refine take_at (i := 12) 66 (v := .bool true) rfl rfl (by kernel_rfl) (by kernel_rfl) (by kernel_rfl) (fun _ _ _ h => h) (Or.inl ⟨by rfl, fun w' hw' => by go_simp⟩) hS ?_
          simp only [Act.put, List.setIfInBounds_toArray, List.set_cons_zero, List.set_cons_succ]
          refine wpAnyH_ready (rs := [13]) (by kernel_rfl) (by simp) ?_
          refine AllReadyH.cons rfl (fun K' hK' => ?_) AllReadyH.nil
          go_simp
          refine (awake_any w9.drew).mono ?_
          rintro e v1 ⟨rfl, p1⟩
          have Q1 : Off (fun _ => False) w9 v1 := ((Off.refl _ w9).drew).trans p1 (fun _ _ h => h)
          refine hK'.out _ _ (HKP.out v1 Q1) (fun hS => ?_)
          clear hK' K' p1
          refine take_at (i := 14) 68 (v := .bool true) rfl rfl (by kernel_rfl) (by kernel_rfl) (by kernel_rfl) (fun _ _ _ h => h) (Or.inl ⟨by rfl, fun w' hw' => by go_simp⟩) hS ?_
          simp only [Act.put, List.setIfInBounds_toArray, List.set_cons_zero, List.set_cons_succ]
          refine take_at (i := 15) 4 (v := .bool true) rfl rfl (by kernel_rfl) (by kernel_rfl) (by kernel_rfl) (fun _ _ _ h => h) (Or.inl ⟨by rfl, fun w' hw' => by go_simp⟩) hS ?_
          simp only [Act.put, List.setIfInBounds_toArray, List.set_cons_zero, List.set_cons_succ]
          refine wpAnyH_done (by kernel_rfl) ?_ _
          go_wp2_with fail
          go_ret
          exact ⟨rfl, (O9.trans Q1 (fun _ _ h => h.elim)).below (Nat.le_refl _) (fun _ h => h)⟩
end Go.Proofs.Ytkjinhbhlcbfdaa
