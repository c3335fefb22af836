/- Reading back what was written: the closure of WireBack. -/
import Derived.Test.YtkjinhbhlcbfdaaBackP
namespace Go.Proofs.Ytkjinhbhlcbfdaa
open Go.RowKit

set_option maxRecDepth 100000 in
set_option maxHeartbeats 8000000 in
theorem read_any (t : Option Addr) (c0 : Nat) (bs X : List Nat) (k N : Nat) (LB : Nat) (a : Option Addr) (len cap1 : Nat) (cs : Nat → CallD) (w : World) (hlen : len ≤ 9223372036854775807) (hN1 : N ≤ len) (hN2 : N ≤ 40) (hN3 : N = len ∨ N = 40) (hX : X = encF cs N 0) (hbs : bs = X.take k) (hk : k ≤ X.length) (hXl : X.length ≤ 100000) (hlt : ∀ x ∈ bs, x < 256)
    (hs : Src w t c0 bs) (hA : ∀ w', Off (fun c => w.heap.size ≤ c) w w' → w'.cell? ⟨LB, 0, none⟩ = some (.slice a len cap1) ∧ ∀ i, i < len → ∃ b off, a = some ⟨b, off, none⟩ ∧ b < w.heap.size ∧ CallOk w' b (off + i * 6) (cs i)) :
    Calls Try.prog 31 #[.slice t bs.length c0, .pointer (some ⟨LB, 0, none⟩)] w fun e w' => ∃ ok er, e = .returned (.tuple #[.bool ok, .int .i64 ((er : Nat) : Int)]) ∧ (k = X.length → ok = true ∧ er = 0) ∧ (k < X.length → er ≠ 0) ∧ Off (fun _ => False) w w' := by
  have hnot : ∀ (x : Bool) (w : World), (Op.unary .not (.bool x)).run Try.prog w = .ok (.bool (!x)) w := fun _ _ => rfl
  have HA : Hid _ := hA
  have hbl : bs.length ≤ 100000 := by rw [hbs]; simp; omega
  have hst : At cs N k X 0 (bs, 0) := by rw [hbs, hX]; exact at_start cs N k (hX ▸ hk)
  have HST : Hid _ := hst
  clear hA hst hbs hX
  go_enter Try.func31, Try.ntmps31
  go_wp2_with fail
  refine (newReader_any t c0 bs (by omega) hlt w hs).mono ?_
  rintro e W ⟨b, D, rfl, hb, hD, R, o1⟩
  have O : Off (fun c => w.heap.size ≤ c) w W := o1.mono (fun _ _ h => h.elim)
  clear o1 hlt hs
  go_wp2_with fail
  go_loopw [6] (fun y wr => ∃ (j : Nat) (s : RS), y = .int .i64 (j : Int) ∧ j ≤ N ∧ Rdr 65 D b s wr ∧ At cs N k X j s ∧ Off (fun c => w.heap.size ≤ c) w wr) (fun y _ => (40 - intOf y).toNat)
  case atStart => exact ⟨0, (bs, 0), rfl, by omega, R, HST.out, O⟩
  case round =>
    clear R O HST
    obtain ⟨j, s, rfl, hj, R, hAt, O⟩ := hrel
    obtain ⟨hbox, hcalls⟩ := HA.out _ O
    by_cases hjN : j < N
    · have l1 : j < len := by omega
      have l2 : j < 40 := by omega
      have hd4' : decide (j < len) = true := decide_eq_true l1
      obtain ⟨cb, off, rfl, hcb, hc⟩ := hcalls j l1
      clear hcalls
      have hcb' := Nat.lt_of_lt_of_le hcb O.size
      have hTX : ∀ w', Off (fun c => w.heap.size ≤ c) w w' → Src w' (cs j).tt (cs j).tc (cs j).text := fun w' o => by
        obtain ⟨_, _, -, -, hc'⟩ := (HA.out w' o).2 j l1
        exact hc'.src
      have hstep := fun ht => at_step hAt hjN ht hc.n hc.i0 hc.i1
      have hskip := fun ht => at_skip hAt hjN ht
      obtain ⟨c, ec⟩ : ∃ c, c = cs j := ⟨_, rfl⟩
      rw [← ec] at hc hTX hstep hskip
      obtain ⟨k0, k1, k2, k3, k4, k5, n0, i0, i1, -, -, -, -, tl⟩ := hc
      obtain ⟨act, num, int, flag, tt, tc, text, most⟩ := c
      simp only at k0 k1 k2 k3 k4 k5 n0 i0 i1 tl hTX hskip hstep
      have HTX : Hid _ := hTX
      clear ec hTX hAt n0 i0 i1
      have hbr : b < wr.heap.size := R.here
      have HR0 : Hid (Rdr 65 D b s (wr.alloc (.cells #[.int .i64 act, .int .u64 (num : Int), .int .i64 int, .bool flag, .slice tt text.length tc, .int .i64 most] 32))) := R.off ((Off.refl (fun _ => False) _).alloc _) (fun h => h) (fun _ _ _ h => h)
      have HO0 : Hid (Off (fun c => w.heap.size ≤ c) w (wr.alloc (.cells #[.int .i64 act, .int .u64 (num : Int), .int .i64 int, .bool flag, .slice tt text.length tc, .int .i64 most] 32))) := O.alloc _
      have HB0 : Hid (Cel wr.heap.size 32 #[.int .i64 act, .int .u64 (num : Int), .int .i64 int, .bool flag, .slice tt text.length tc, .int .i64 most] (wr.alloc (.cells #[.int .i64 act, .int .u64 (num : Int), .int .i64 int, .bool flag, .slice tt text.length tc, .int .i64 most] 32))) := Cel.new wr _ _
      clear R O
      by_cases ht : text.length ≤ 300
      · have HAS := hstep ht
        have hd5 : decide ((300 : Int) < (text.length : Int)) = false := decide_eq_false (by omega)
        have hd5' : decide (300 < text.length) = false := decide_eq_false (by omega)
        have HASH : Hid _ := HAS
        clear hstep hskip HAS
        by_cases h0 : act = 0
        · subst h0
          have HAS := HASH.out
          obtain ⟨B, eB⟩ : ∃ B : Bool, B = ((((numS s).1 : Nat) : Int) == ((num : Nat) : Int)) := ⟨_, rfl⟩
          have HSB : Hid (sameC ⟨0, num, int, flag, tt, tc, text, most⟩ s → B = true) := by
            show sameC ⟨0, num, int, flag, tt, tc, text, most⟩ s → B = true
            intro h
            have h' : (numS s).1 = num := by simpa [sameC] using h
            rw [eB, h']
            simp
          have HTK : Hid (takeC ⟨0, num, int, flag, tt, tc, text, most⟩ s = (numS s).2) := by
            show takeC ⟨0, num, int, flag, tt, tc, text, most⟩ s = (numS s).2
            simp [takeC]
          have EB : Hid _ := eB
          clear eB
          go_wp2_with fail
          have RD : Hid (Rdr 65 D b s (wr.alloc (.cells #[.int .i64 0, .int .u64 (num : Int), .int .i64 int, .bool flag, .slice tt text.length tc, .int .i64 most] 32)).drew) := HR0.out.off ((Off.refl (fun _ => False) _).drew) (fun h => h) (fun _ _ _ h => h)
          have BD : (wr.alloc (.cells #[.int .i64 0, .int .u64 (num : Int), .int .i64 int, .bool flag, .slice tt text.length tc, .int .i64 most] 32)).drew.cell? ⟨wr.heap.size, 1, none⟩ = some (.int .u64 (num : Int)) := by
            have := HB0.out.cell 1
            exact this
          have HKP : Hid (∀ w', Off (fun c => c = b) (wr.alloc (.cells #[.int .i64 0, .int .u64 (num : Int), .int .i64 int, .bool flag, .slice tt text.length tc, .int .i64 most] 32)) w' → w'.cell? ⟨wr.heap.size, 1, none⟩ = some (.int .u64 (num : Int))) := fun w' o => by
            rw [(HB0.out.off o (fun h => by omega)).cell]
            rfl
          refine wp_region_held_drew (S := fun w' => w'.cell? ⟨wr.heap.size, 1, none⟩ = some (.int .u64 (num : Int))) (by kernel_rfl) BD (fun hS => ?_)
          clear BD
          refine take_at (i := 0) 40 (v := .pointer (some ⟨b, 0, none⟩)) rfl rfl (by kernel_rfl) (by kernel_rfl) (by kernel_rfl) (fun _ _ _ h => h) (Or.inl ⟨by rfl, fun w' hw' => by go_simp⟩) hS ?_
          simp only [Act.put, List.setIfInBounds_toArray, List.set_cons_zero, List.set_cons_succ]
          refine take_at (i := 2) 42 (v := .pointer (some ⟨wr.heap.size, 1, none⟩)) rfl rfl (by kernel_rfl) (by kernel_rfl) (by kernel_rfl) (fun _ _ _ h => h) (Or.inl ⟨by rfl, fun w' hw' => by go_simp⟩) hS ?_
          simp only [Act.put, List.setIfInBounds_toArray, List.set_cons_zero, List.set_cons_succ]
          refine take_at (i := 3) 43 (v := .int .u64 (num : Int)) rfl rfl (by kernel_rfl) (by kernel_rfl) (by kernel_rfl) (fun _ _ _ h => h) (Or.inl ⟨by rfl, fun w' hw' => by have e : w'.cell? ⟨wr.heap.size, 1, none⟩ = some (.int .u64 (num : Int)) := hw'; go_simp⟩) hS ?_
          simp only [Act.put, List.setIfInBounds_toArray, List.set_cons_zero, List.set_cons_succ]
          refine wpAnyH_ready (rs := [1]) (by kernel_rfl) (by simp) ?_
          refine AllReadyH.cons rfl (fun K' hK' => ?_) AllReadyH.nil
          go_simp
          refine (rnum_any RD.out).mono ?_
          rintro e v1 ⟨rfl, R1, p1⟩
          have q1 : Off (fun c => c = b) (wr.alloc (.cells #[.int .i64 0, .int .u64 (num : Int), .int .i64 int, .bool flag, .slice tt text.length tc, .int .i64 most] 32)) v1 := ((Off.refl (fun c => c = b) _).drew).trans p1 (fun _ _ h => h)
          refine hK'.out _ _ (HKP.out v1 q1) (fun hS => ?_)
          clear hK' K' p1
          refine take_at (i := 4) 44 (v := .bool B) rfl rfl (by kernel_rfl) (by kernel_rfl) (by kernel_rfl) (fun _ _ _ h => h) (Or.inl ⟨by rfl, fun w' hw' => by rw [EB.out]; go_simp⟩) hS ?_
          simp only [Act.put, List.setIfInBounds_toArray, List.set_cons_zero, List.set_cons_succ]
          refine take_at (i := 5) 8 (v := .bool B) rfl rfl (by kernel_rfl) (by kernel_rfl) (by kernel_rfl) (fun _ _ _ h => h) (Or.inl ⟨by rfl, fun w' hw' => by go_simp⟩) hS ?_
          simp only [Act.put, List.setIfInBounds_toArray, List.set_cons_zero, List.set_cons_succ]
          refine wpAnyH_done (by kernel_rfl) ?_ _
          clear hS HKP RD
          have hAS := HAS
          rw [HTK.out] at hAS
          obtain ⟨sx, esx⟩ : ∃ sx, sx = (numS s).2 := ⟨_, rfl⟩
          rw [← esx] at R1 hAS
          have ESX : Hid _ := esx
          have HAS1 : Hid _ := hAS
          clear esx hAS HAS HTK
          have OX := HO0.out.trans q1 (fun i _ h => by omega)
          cases B with
          | true =>
            go_wp2_with fail
            go_roundw
            case rel => exact ⟨j + 1, sx, by go_num, by omega, R1, HAS1.out.1, OX⟩
            case measure => simp [intOf]; omega
          | false =>
            have hend := (HAS1.out.2).resolve_left (fun h => by have := HSB.out h; cases this)
            go_wp2_with fail
            refine (rend_any R1).mono ?_
            rintro e v9 ⟨rfl, hw⟩
            rw [hw]
            clear hw v9
            go_wp2_with fail
            go_ret2
            exact ⟨false, endS sx, rfl, fun h => by omega, fun _ => hend.1, OX.mono (fun i hi h => by omega)⟩
        by_cases h1 : act = 1
        · subst h1
          clear h0
          have HAS := HASH.out
          obtain ⟨B, eB⟩ : ∃ B : Bool, B = ((intS s).1 == int) := ⟨_, rfl⟩
          have HSB : Hid (sameC ⟨1, num, int, flag, tt, tc, text, most⟩ s → B = true) := by
            show sameC ⟨1, num, int, flag, tt, tc, text, most⟩ s → B = true
            intro h
            have h' : (intS s).1 = int := by simpa [sameC] using h
            rw [eB, h']
            simp
          have HTK : Hid (takeC ⟨1, num, int, flag, tt, tc, text, most⟩ s = (intS s).2) := by
            show takeC ⟨1, num, int, flag, tt, tc, text, most⟩ s = (intS s).2
            simp [takeC]
          have EB : Hid _ := eB
          clear eB
          go_wp2_with fail
          have RD : Hid (Rdr 65 D b s (wr.alloc (.cells #[.int .i64 1, .int .u64 (num : Int), .int .i64 int, .bool flag, .slice tt text.length tc, .int .i64 most] 32)).drew) := HR0.out.off ((Off.refl (fun _ => False) _).drew) (fun h => h) (fun _ _ _ h => h)
          have BD : (wr.alloc (.cells #[.int .i64 1, .int .u64 (num : Int), .int .i64 int, .bool flag, .slice tt text.length tc, .int .i64 most] 32)).drew.cell? ⟨wr.heap.size, 2, none⟩ = some (.int .i64 int) := by
            have := HB0.out.cell 2
            exact this
          have HKP : Hid (∀ w', Off (fun c => c = b) (wr.alloc (.cells #[.int .i64 1, .int .u64 (num : Int), .int .i64 int, .bool flag, .slice tt text.length tc, .int .i64 most] 32)) w' → w'.cell? ⟨wr.heap.size, 2, none⟩ = some (.int .i64 int)) := fun w' o => by
            rw [(HB0.out.off o (fun h => by omega)).cell]
            rfl
          refine wp_region_held_drew (S := fun w' => w'.cell? ⟨wr.heap.size, 2, none⟩ = some (.int .i64 int)) (by kernel_rfl) BD (fun hS => ?_)
          clear BD
          refine take_at (i := 0) 47 (v := .pointer (some ⟨b, 0, none⟩)) rfl rfl (by kernel_rfl) (by kernel_rfl) (by kernel_rfl) (fun _ _ _ h => h) (Or.inl ⟨by rfl, fun w' hw' => by go_simp⟩) hS ?_
          simp only [Act.put, List.setIfInBounds_toArray, List.set_cons_zero, List.set_cons_succ]
          refine take_at (i := 2) 49 (v := .pointer (some ⟨wr.heap.size, 2, none⟩)) rfl rfl (by kernel_rfl) (by kernel_rfl) (by kernel_rfl) (fun _ _ _ h => h) (Or.inl ⟨by rfl, fun w' hw' => by go_simp⟩) hS ?_
          simp only [Act.put, List.setIfInBounds_toArray, List.set_cons_zero, List.set_cons_succ]
          refine take_at (i := 3) 50 (v := .int .i64 int) rfl rfl (by kernel_rfl) (by kernel_rfl) (by kernel_rfl) (fun _ _ _ h => h) (Or.inl ⟨by rfl, fun w' hw' => by have e : w'.cell? ⟨wr.heap.size, 2, none⟩ = some (.int .i64 int) := hw'; go_simp⟩) hS ?_
          simp only [Act.put, List.setIfInBounds_toArray, List.set_cons_zero, List.set_cons_succ]
          refine wpAnyH_ready (rs := [1]) (by kernel_rfl) (by simp) ?_
          refine AllReadyH.cons rfl (fun K' hK' => ?_) AllReadyH.nil
          go_simp
          refine (rint_any RD.out).mono ?_
          rintro e v1 ⟨rfl, R1, p1⟩
          have q1 : Off (fun c => c = b) (wr.alloc (.cells #[.int .i64 1, .int .u64 (num : Int), .int .i64 int, .bool flag, .slice tt text.length tc, .int .i64 most] 32)) v1 := ((Off.refl (fun c => c = b) _).drew).trans p1 (fun _ _ h => h)
          refine hK'.out _ _ (HKP.out v1 q1) (fun hS => ?_)
          clear hK' K' p1
          refine take_at (i := 4) 51 (v := .bool B) rfl rfl (by kernel_rfl) (by kernel_rfl) (by kernel_rfl) (fun _ _ _ h => h) (Or.inl ⟨by rfl, fun w' hw' => by rw [EB.out]; go_simp⟩) hS ?_
          simp only [Act.put, List.setIfInBounds_toArray, List.set_cons_zero, List.set_cons_succ]
          refine take_at (i := 5) 8 (v := .bool B) rfl rfl (by kernel_rfl) (by kernel_rfl) (by kernel_rfl) (fun _ _ _ h => h) (Or.inl ⟨by rfl, fun w' hw' => by go_simp⟩) hS ?_
          simp only [Act.put, List.setIfInBounds_toArray, List.set_cons_zero, List.set_cons_succ]
          refine wpAnyH_done (by kernel_rfl) ?_ _
          clear hS HKP RD
          have hAS := HAS
          rw [HTK.out] at hAS
          obtain ⟨sx, esx⟩ : ∃ sx, sx = (intS s).2 := ⟨_, rfl⟩
          rw [← esx] at R1 hAS
          have ESX : Hid _ := esx
          have HAS1 : Hid _ := hAS
          clear esx hAS HAS HTK
          have OX := HO0.out.trans q1 (fun i _ h => by omega)
          cases B with
          | true =>
            go_wp2_with fail
            go_roundw
            case rel => exact ⟨j + 1, sx, by go_num, by omega, R1, HAS1.out.1, OX⟩
            case measure => simp [intOf]; omega
          | false =>
            have hend := (HAS1.out.2).resolve_left (fun h => by have := HSB.out h; cases this)
            go_wp2_with fail
            refine (rend_any R1).mono ?_
            rintro e v9 ⟨rfl, hw⟩
            rw [hw]
            clear hw v9
            go_wp2_with fail
            go_ret2
            exact ⟨false, endS sx, rfl, fun h => by omega, fun _ => hend.1, OX.mono (fun i hi h => by omega)⟩
        by_cases h2 : act = 2
        · subst h2
          clear h0 h1
          have HAS := HASH.out
          obtain ⟨B, eB⟩ : ∃ B : Bool, B = ((flagS s).1 == flag) := ⟨_, rfl⟩
          have HSB : Hid (sameC ⟨2, num, int, flag, tt, tc, text, most⟩ s → B = true) := by
            show sameC ⟨2, num, int, flag, tt, tc, text, most⟩ s → B = true
            intro h
            have h' : (flagS s).1 = flag := by simpa [sameC] using h
            rw [eB, h']
            simp
          have HTK : Hid (takeC ⟨2, num, int, flag, tt, tc, text, most⟩ s = (flagS s).2) := by
            show takeC ⟨2, num, int, flag, tt, tc, text, most⟩ s = (flagS s).2
            simp [takeC]
          have EB : Hid _ := eB
          clear eB
          go_wp2_with fail
          have RD : Hid (Rdr 65 D b s (wr.alloc (.cells #[.int .i64 2, .int .u64 (num : Int), .int .i64 int, .bool flag, .slice tt text.length tc, .int .i64 most] 32)).drew) := HR0.out.off ((Off.refl (fun _ => False) _).drew) (fun h => h) (fun _ _ _ h => h)
          have BD : (wr.alloc (.cells #[.int .i64 2, .int .u64 (num : Int), .int .i64 int, .bool flag, .slice tt text.length tc, .int .i64 most] 32)).drew.cell? ⟨wr.heap.size, 3, none⟩ = some (.bool flag) := by
            have := HB0.out.cell 3
            exact this
          have HKP : Hid (∀ w', Off (fun c => c = b) (wr.alloc (.cells #[.int .i64 2, .int .u64 (num : Int), .int .i64 int, .bool flag, .slice tt text.length tc, .int .i64 most] 32)) w' → w'.cell? ⟨wr.heap.size, 3, none⟩ = some (.bool flag)) := fun w' o => by
            rw [(HB0.out.off o (fun h => by omega)).cell]
            rfl
          refine wp_region_held_drew (S := fun w' => w'.cell? ⟨wr.heap.size, 3, none⟩ = some (.bool flag)) (by kernel_rfl) BD (fun hS => ?_)
          clear BD
          refine take_at (i := 0) 54 (v := .pointer (some ⟨b, 0, none⟩)) rfl rfl (by kernel_rfl) (by kernel_rfl) (by kernel_rfl) (fun _ _ _ h => h) (Or.inl ⟨by rfl, fun w' hw' => by go_simp⟩) hS ?_
          simp only [Act.put, List.setIfInBounds_toArray, List.set_cons_zero, List.set_cons_succ]
          refine take_at (i := 2) 56 (v := .pointer (some ⟨wr.heap.size, 3, none⟩)) rfl rfl (by kernel_rfl) (by kernel_rfl) (by kernel_rfl) (fun _ _ _ h => h) (Or.inl ⟨by rfl, fun w' hw' => by go_simp⟩) hS ?_
          simp only [Act.put, List.setIfInBounds_toArray, List.set_cons_zero, List.set_cons_succ]
          refine take_at (i := 3) 57 (v := .bool flag) rfl rfl (by kernel_rfl) (by kernel_rfl) (by kernel_rfl) (fun _ _ _ h => h) (Or.inl ⟨by rfl, fun w' hw' => by have e : w'.cell? ⟨wr.heap.size, 3, none⟩ = some (.bool flag) := hw'; go_simp⟩) hS ?_
          simp only [Act.put, List.setIfInBounds_toArray, List.set_cons_zero, List.set_cons_succ]
          refine wpAnyH_ready (rs := [1]) (by kernel_rfl) (by simp) ?_
          refine AllReadyH.cons rfl (fun K' hK' => ?_) AllReadyH.nil
          go_simp
          refine (rflag_any RD.out).mono ?_
          rintro e v1 ⟨rfl, R1, p1⟩
          have q1 : Off (fun c => c = b) (wr.alloc (.cells #[.int .i64 2, .int .u64 (num : Int), .int .i64 int, .bool flag, .slice tt text.length tc, .int .i64 most] 32)) v1 := ((Off.refl (fun c => c = b) _).drew).trans p1 (fun _ _ h => h)
          refine hK'.out _ _ (HKP.out v1 q1) (fun hS => ?_)
          clear hK' K' p1
          refine take_at (i := 4) 58 (v := .bool B) rfl rfl (by kernel_rfl) (by kernel_rfl) (by kernel_rfl) (fun _ _ _ h => h) (Or.inl ⟨by rfl, fun w' hw' => by rw [EB.out]; go_simp⟩) hS ?_
          simp only [Act.put, List.setIfInBounds_toArray, List.set_cons_zero, List.set_cons_succ]
          refine take_at (i := 5) 8 (v := .bool B) rfl rfl (by kernel_rfl) (by kernel_rfl) (by kernel_rfl) (fun _ _ _ h => h) (Or.inl ⟨by rfl, fun w' hw' => by go_simp⟩) hS ?_
          simp only [Act.put, List.setIfInBounds_toArray, List.set_cons_zero, List.set_cons_succ]
          refine wpAnyH_done (by kernel_rfl) ?_ _
          clear hS HKP RD
          have hAS := HAS
          rw [HTK.out] at hAS
          obtain ⟨sx, esx⟩ : ∃ sx, sx = (flagS s).2 := ⟨_, rfl⟩
          rw [← esx] at R1 hAS
          have ESX : Hid _ := esx
          have HAS1 : Hid _ := hAS
          clear esx hAS HAS HTK
          have OX := HO0.out.trans q1 (fun i _ h => by omega)
          cases B with
          | true =>
            go_wp2_with fail
            go_roundw
            case rel => exact ⟨j + 1, sx, by go_num, by omega, R1, HAS1.out.1, OX⟩
            case measure => simp [intOf]; omega
          | false =>
            have hend := (HAS1.out.2).resolve_left (fun h => by have := HSB.out h; cases this)
            go_wp2_with fail
            refine (rend_any R1).mono ?_
            rintro e v9 ⟨rfl, hw⟩
            rw [hw]
            clear hw v9
            go_wp2_with fail
            go_ret2
            exact ⟨false, endS sx, rfl, fun h => by omega, fun _ => hend.1, OX.mono (fun i hi h => by omega)⟩
        have hd0 : (act == 0) = false := by rw [beq_eq_false_iff_ne]; exact h0
        have hd1 : (act == 1) = false := by rw [beq_eq_false_iff_ne]; exact h1
        have hd2 : (act == 2) = false := by rw [beq_eq_false_iff_ne]; exact h2
        have HAS := HASH.out
        obtain ⟨B, eB⟩ : ∃ B : Bool, B = ((strOf (textS 300 s).1).toList == (strOf text).toList) := ⟨_, rfl⟩
        have HSB : Hid (sameC ⟨act, num, int, flag, tt, tc, text, most⟩ s → B = true) := by
          show sameC ⟨act, num, int, flag, tt, tc, text, most⟩ s → B = true
          intro h
          have h' : (textS 300 s).1 = text := by simpa [sameC, h0, h1, h2] using h
          rw [eB, h']
          simp
        have HTK : Hid (takeC ⟨act, num, int, flag, tt, tc, text, most⟩ s = (textS 300 s).2) := by
          show takeC ⟨act, num, int, flag, tt, tc, text, most⟩ s = (textS 300 s).2
          simp [takeC, h0, h1, h2]
        have EB : Hid _ := eB
        clear eB
        go_wp2_with fail
        have RD : Hid (Rdr 65 D b s (wr.alloc (.cells #[.int .i64 act, .int .u64 (num : Int), .int .i64 int, .bool flag, .slice tt text.length tc, .int .i64 most] 32)).drew) := HR0.out.off ((Off.refl (fun _ => False) _).drew) (fun h => h) (fun _ _ _ h => h)
        have BD : (wr.alloc (.cells #[.int .i64 act, .int .u64 (num : Int), .int .i64 int, .bool flag, .slice tt text.length tc, .int .i64 most] 32)).drew.cell? ⟨wr.heap.size, 4, none⟩ = some (.slice tt text.length tc) ∧ Src (wr.alloc (.cells #[.int .i64 act, .int .u64 (num : Int), .int .i64 int, .bool flag, .slice tt text.length tc, .int .i64 most] 32)).drew tt tc text := by
          have := HB0.out.cell 4
          exact ⟨this, HTX.out _ (HO0.out.drew)⟩
        have HKP : Hid (∀ w', Off (fun c => c = b) (wr.alloc (.cells #[.int .i64 act, .int .u64 (num : Int), .int .i64 int, .bool flag, .slice tt text.length tc, .int .i64 most] 32)) w' → w'.cell? ⟨wr.heap.size, 4, none⟩ = some (.slice tt text.length tc) ∧ Src w' tt tc text) := fun w' o => by
          refine ⟨?_, HTX.out _ (HO0.out.trans o (fun i _ h => by omega))⟩
          rw [(HB0.out.off o (fun h => by omega)).cell]
          rfl
        refine wp_region_held_drew (S := fun w' => w'.cell? ⟨wr.heap.size, 4, none⟩ = some (.slice tt text.length tc) ∧ Src w' tt tc text) (by kernel_rfl) BD (fun hS => ?_)
        clear BD
        refine take_at (i := 0) 31 (v := .pointer (some ⟨b, 0, none⟩)) rfl rfl (by kernel_rfl) (by kernel_rfl) (by kernel_rfl) (fun _ _ _ h => h) (Or.inl ⟨by rfl, fun w' hw' => by go_simp⟩) hS ?_
        simp only [Act.put, List.setIfInBounds_toArray, List.set_cons_zero, List.set_cons_succ]
        refine take_at (i := 3) 34 (v := .pointer (some ⟨wr.heap.size, 4, none⟩)) rfl rfl (by kernel_rfl) (by kernel_rfl) (by kernel_rfl) (fun _ _ _ h => h) (Or.inl ⟨by rfl, fun w' hw' => by go_simp⟩) hS ?_
        simp only [Act.put, List.setIfInBounds_toArray, List.set_cons_zero, List.set_cons_succ]
        refine take_at (i := 4) 35 (v := .slice tt text.length tc) rfl rfl (by kernel_rfl) (by kernel_rfl) (by kernel_rfl) (fun _ _ _ h => h) (Or.inl ⟨by rfl, fun w' hw' => by have e : w'.cell? ⟨wr.heap.size, 4, none⟩ = some (.slice tt text.length tc) := hw'.1; go_simp⟩) hS ?_
        simp only [Act.put, List.setIfInBounds_toArray, List.set_cons_zero, List.set_cons_succ]
        refine take_at (i := 5) 36 (v := .string (strOf text)) rfl rfl (by kernel_rfl) (by kernel_rfl) (by kernel_rfl) (fun _ _ _ h => h) (Or.inl ⟨by rfl, fun w' hw' => by have e := conv_src hw'.2; go_simp⟩) hS ?_
        simp only [Act.put, List.setIfInBounds_toArray, List.set_cons_zero, List.set_cons_succ]
        refine wpAnyH_ready (rs := [1]) (by kernel_rfl) (by simp) ?_
        refine AllReadyH.cons rfl (fun K' hK' => ?_) AllReadyH.nil
        go_simp
        refine (rtext_any RD.out 300 (by decide) (by decide)).mono ?_
        rw [show Int.toNat 300 = 300 from rfl]
        rintro e v1 ⟨t1, c1, rfl, own1, hb1, R1, p1⟩
        have q1 : Off (fun c => c = b) (wr.alloc (.cells #[.int .i64 act, .int .u64 (num : Int), .int .i64 int, .bool flag, .slice tt text.length tc, .int .i64 most] 32)) v1 := ((Off.refl (fun c => c = b) _).drew).trans p1 (fun _ _ h => h)
        have OW1 : Hid (OwnR v1 t1 c1 (textS 300 s).1) := own1
        clear own1 hb1
        refine hK'.out _ _ (HKP.out v1 q1) (fun hS => ?_)
        clear hK' K' p1
        refine wpAnyH_ready (rs := [2]) (by kernel_rfl) (by simp) ?_
        refine AllReadyH.cons rfl (fun K' hK' => ?_) AllReadyH.nil
        have C := conv_src OW1.out.src
        go_simp
        clear C
        refine hK'.out _ _ hS (fun hS => ?_)
        clear hK' K' OW1
        refine take_at (i := 6) 37 (v := .bool B) rfl rfl (by kernel_rfl) (by kernel_rfl) (by kernel_rfl) (fun _ _ _ h => h) (Or.inl ⟨by rfl, fun w' hw' => by rw [EB.out]; go_simp⟩) hS ?_
        simp only [Act.put, List.setIfInBounds_toArray, List.set_cons_zero, List.set_cons_succ]
        refine take_at (i := 7) 8 (v := .bool B) rfl rfl (by kernel_rfl) (by kernel_rfl) (by kernel_rfl) (fun _ _ _ h => h) (Or.inl ⟨by rfl, fun w' hw' => by go_simp⟩) hS ?_
        simp only [Act.put, List.setIfInBounds_toArray, List.set_cons_zero, List.set_cons_succ]
        refine wpAnyH_done (by kernel_rfl) ?_ _
        clear hS HKP RD
        have hAS := HAS
        rw [HTK.out] at hAS
        obtain ⟨sx, esx⟩ : ∃ sx, sx = (textS 300 s).2 := ⟨_, rfl⟩
        rw [← esx] at R1 hAS
        have ESX : Hid _ := esx
        have HAS1 : Hid _ := hAS
        clear esx hAS HAS HTK
        have OX := HO0.out.trans q1 (fun i _ h => by omega)
        cases B with
        | true =>
          go_wp2_with fail
          go_roundw
          case rel => exact ⟨j + 1, sx, by go_num, by omega, R1, HAS1.out.1, OX⟩
          case measure => simp [intOf]; omega
        | false =>
          have hend := (HAS1.out.2).resolve_left (fun h => by have := HSB.out h; cases this)
          go_wp2_with fail
          refine (rend_any R1).mono ?_
          rintro e v9 ⟨rfl, hw⟩
          rw [hw]
          clear hw v9
          go_wp2_with fail
          go_ret2
          exact ⟨false, endS sx, rfl, fun h => by omega, fun _ => hend.1, OX.mono (fun i hi h => by omega)⟩
      · have HSK := hskip ht
        have hd5 : decide ((300 : Int) < (text.length : Int)) = true := decide_eq_true (by omega)
        have hd5' : decide (300 < text.length) = true := decide_eq_true (by omega)
        have HSKH : Hid _ := HSK
        clear hstep hskip HSK
        go_wp2_with fail
        go_roundw
        case rel => exact ⟨j + 1, s, by go_num, by omega, HR0.out, HSKH.out, HO0.out⟩
        case measure => simp [intOf]; omega
    · obtain rfl : j = N := by omega
      have HEND : Hid _ := at_end hAt
      clear hcalls hAt
      by_cases hl : j = len
      · have hd4 : decide ((j : Int) < (len : Int)) = false := decide_eq_false (by omega)
        have hd4' : decide (j < len) = false := decide_eq_false (by omega)
        have HL : Hid _ := hl
        clear hl hN3
        go_wp2_with fail
        refine (rend_any R).mono ?_
        rintro e v9 ⟨rfl, hw⟩
        rw [hw]
        clear hw v9
        go_wp2_with fail
        go_ret2
        exact ⟨true, endS s, rfl, fun h => ⟨rfl, by rw [HEND.out.1 h]; rfl⟩, HEND.out.2, O.mono (fun i hi h => by omega)⟩
      · have hj40 : j = 40 := by omega
        subst hj40
        have hd4 : decide ((40 : Int) < (len : Int)) = true := decide_eq_true (by omega)
        have hd4' : decide (40 < len) = true := decide_eq_true (by omega)
        clear hN3 hl
        go_wp2_with fail
        refine (rend_any R).mono ?_
        rintro e v9 ⟨rfl, hw⟩
        rw [hw]
        clear hw v9
        go_wp2_with fail
        go_ret2
        exact ⟨true, endS s, rfl, fun h => ⟨rfl, by rw [HEND.out.1 h]; rfl⟩, HEND.out.2, O.mono (fun i hi h => by omega)⟩
end Go.Proofs.Ytkjinhbhlcbfdaa
