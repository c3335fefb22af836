/- The walk of WireReads. -/
import Derived.Test.YtkjinhbhlcbfdaaRefR
namespace Go.Proofs.Ytkjinhbhlcbfdaa
open Go.RowKit

set_option maxRecDepth 100000 in
set_option maxHeartbeats 8000000 in
theorem reads_nat (tad : Option Addr) (cap : Nat) (bs : List Nat) (hlt : ∀ x ∈ bs, x < 256) (hbl : bs.length ≤ 140737488351232) (a : Option Addr) (len cap1 : Nat) (cs : Nat → CallD) (w : World) (hsrc : Src w tad cap bs) (hlen : len ≤ 9223372036854775807)
    (hA : ∀ w', Off (fun c => w.heap.size ≤ c) w w' → ∀ i, i < len → ∃ b off, a = some ⟨b, off, none⟩ ∧ b < w.heap.size ∧ CallOk w' b (off + i * 6) (cs i)) :
    Calls Try.prog 4 #[.slice tad bs.length cap, .slice a len cap1] w fun e w' => e = .returned (.bool true) ∧ Below w.heap.size w w' := by
  have HA : Hid _ := hA
  have HLT : Hid _ := hlt
  have HSR : Hid (Src w tad cap bs) := hsrc
  clear hA hlt hsrc
  go_enter Try.func4, Try.ntmps4
  go_wp2_with fail
  refine (newReader_any tad cap bs (by omega) HLT.out w HSR.out).mono ?_
  rintro e W ⟨rb, Dr, rfl, hrb, hDlo, R, o1⟩
  have HR : Hid (Rdr 65 Dr rb (bs, 0) W) := R
  have hrbW := R.here
  have HLR : Hid _ := R.lt
  have hDr0 := R.ne
  clear R
  go_wp2_with (at_builtin; refine wpList_app rfl (.const (.slice none 0 0)) (.tmp 11) rfl none 0 [] rfl (OwnR.nil _) tad cap bs rfl (HSR.out.off o1 (fun _ _ _ h => h)) (by simp; omega) ?_; intro t2 c2 w2 y2 hy2 own2 off2 at2; have o2 : Off (fun _ => False) W w2 := off2.mono (fun i _ h => by simp [blk] at h); have OWN2 : Hid (OwnR w2 t2 c2 y2) := own2; have hb2 : ∀ k, blk t2 = some k → W.heap.size ≤ k := (fun k hk => by rcases at2 with a | a <;> (rw [a] at hk; simp [blk] at hk; try omega)); have HB2 : Hid _ := hb2; clear own2 off2 at2 hb2)
  obtain ⟨mb, emb⟩ : ∃ mb, mb = w2.heap.size := ⟨_, rfl⟩
  obtain ⟨Dm, eDm⟩ : ∃ Dm : Nat → Prop, Dm = fun c => blk t2 = some c := ⟨_, rfl⟩
  have s2 := o2.size
  have s1 := o1.size
  have hrm : ¬ rb = mb := by omega
  have hDr : ¬ Dr mb := fun h => by have := HLR.out _ h; omega
  have hlt2 : ∀ k, blk t2 = some k → k < w2.heap.size := OWN2.out.lt
  have hDm : ¬ Dm rb := fun h => by rw [eDm] at h; have := HB2.out _ h; omega
  have ey : y2 = bs := hy2.out
  have OB := OWN2.out
  rw [ey] at OB
  have MM : Hid (Rdr 42 Dm mb (bs, 0) (w2.alloc (.cells #[.slice t2 bs.length c2, .int .i64 0] 42))) := by
    show Rdr 42 Dm mb (bs, 0) (w2.alloc (.cells #[.slice t2 bs.length c2, .int .i64 0] 42))
    refine ⟨⟨HLT.out, by simp, by simp⟩, fun c h => ?_, fun h => ?_, by simp only; omega, t2, c2, ?_, ?_⟩
    · rw [eDm] at h
      have := hlt2 c h
      simp
      omega
    · rw [eDm] at h
      have := hlt2 _ h
      omega
    · rw [emb]
      exact Cel.new w2 _ _
    · exact (OB.off ((Off.refl (fun _ => False) _).alloc _) (fun _ _ _ h => h)).lie (fun c h => by rw [eDm]; exact h)
  have RR : Hid (Rdr 65 Dr rb (bs, 0) (w2.alloc (.cells #[.slice t2 bs.length c2, .int .i64 0] 42))) := (HR.out.off o2 (fun h => h) (fun _ _ _ h => h)).off ((Off.refl (fun _ => False) _).alloc _) (fun h => h) (fun _ _ _ h => h)
  have OO : Hid (Off (fun c => w.heap.size ≤ c) w (w2.alloc (.cells #[.slice t2 bs.length c2, .int .i64 0] 42))) := ((o1.mono (fun _ _ h => h.elim)).trans o2 (fun _ _ h => h.elim)).alloc _
  have hmlo : w.heap.size ≤ mb := by omega
  have EY : Hid _ := ey
  have EMB : Hid _ := emb
  clear OB HR hDr0 hlt2 eDm HB2 OWN2 HLR ey emb o1 o2 hbl HSR s1 s2 hrbW hDlo
  rw [EY.out, ← EMB.out]
  go_wp2_with fail
  go_loopw [7] (fun y wr => ∃ (i : Nat) (s : RS), y = .int .i64 (i : Int) ∧ i ≤ len ∧ i ≤ 60 ∧ Rdr 65 Dr rb s wr ∧ Rdr 42 Dm mb s wr ∧ Off (fun c => w.heap.size ≤ c) w wr) (fun y _ => (60 - intOf y).toNat)
  case atStart => exact ⟨0, (bs, 0), rfl, by omega, by omega, RR.out, MM.out, OO.out⟩
  case round =>
    clear RR MM OO EMB EY hy2 HLT
    obtain ⟨i, s, rfl, hi1, hi2, R, M, O⟩ := hrel
    by_cases hlt : i < len ∧ i < 60
    · have l1 := hlt.1
      have l2 := hlt.2
      obtain ⟨cb, off, rfl, hcb, hc⟩ := HA.out _ O i l1
      have hcb' := Nat.lt_of_lt_of_le hcb O.size
      obtain ⟨c, ec⟩ : ∃ c, c = cs i := ⟨_, rfl⟩
      rw [← ec] at hc
      obtain ⟨k0, k1, k2, k3, k4, k5, -, -, -, m0, m1, -, -, -⟩ := hc
      obtain ⟨act, num, int, flag, tt, tc, text, most⟩ := c
      simp only at k0 k1 k2 k3 k4 k5 m0 m1
      clear ec hlt
      have hbr : rb < wr.heap.size := R.here
      have hbm : mb < wr.heap.size := M.here
      have HR0 : Hid (Rdr 65 Dr rb s (wr.alloc (.cells #[.int .i64 act, .int .u64 (num : Int), .int .i64 int, .bool flag, .slice tt text.length tc, .int .i64 most] 32))) := R.off ((Off.refl (fun _ => False) _).alloc _) (fun h => h) (fun _ _ _ h => h)
      have HM0 : Hid (Rdr 42 Dm mb s (wr.alloc (.cells #[.int .i64 act, .int .u64 (num : Int), .int .i64 int, .bool flag, .slice tt text.length tc, .int .i64 most] 32))) := M.off ((Off.refl (fun _ => False) _).alloc _) (fun h => h) (fun _ _ _ h => h)
      have HO0 : Hid (Off (fun c => w.heap.size ≤ c) w (wr.alloc (.cells #[.int .i64 act, .int .u64 (num : Int), .int .i64 int, .bool flag, .slice tt text.length tc, .int .i64 most] 32))) := O.alloc _
      have HB0 : Hid (Cel wr.heap.size 32 #[.int .i64 act, .int .u64 (num : Int), .int .i64 int, .bool flag, .slice tt text.length tc, .int .i64 most] (wr.alloc (.cells #[.int .i64 act, .int .u64 (num : Int), .int .i64 int, .bool flag, .slice tt text.length tc, .int .i64 most] 32))) := Cel.new wr _ _
      clear R M O
      by_cases h0 : act = 0
      · subst h0
        go_wp2_with fail
        refine (rnum_any HR0.out).mono ?_
        rintro e v1 ⟨rfl, R1, p1⟩
        have M1 := HM0.out.off p1 (fun h => hrm h.symm) (fun c _ h1 h2 => hDm (h2 ▸ h1))
        go_wp2_with fail
        refine (frnum_any M1).mono ?_
        rintro e v2 ⟨rfl, M2, p2⟩
        clear M1
        have RX0 := R1.off p2 (fun h => hrm h) (fun c _ h1 h2 => hDr (h2 ▸ h1))
        obtain ⟨sx, esx⟩ : ∃ sx, sx = (numS s).2 := ⟨_, rfl⟩
        rw [← esx] at RX0 M2
        have ESX : Hid _ := esx
        clear esx
        obtain ⟨vx, evx⟩ : ∃ vx, vx = v2 := ⟨_, rfl⟩
        have RX : Rdr 65 Dr rb sx vx := evx ▸ RX0
        have MX : Rdr 42 Dm mb sx vx := evx ▸ M2
        have OX : Off (fun c => w.heap.size ≤ c) w vx := evx ▸ ((HO0.out.trans p1 (fun k _ h => by omega)).trans p2 (fun k _ h => by omega))
        rw [← evx]
        clear evx RX0 M2 R1 p1 p2
        have hlx : sx.1.length ≤ 140737488355328 := RX.len
        obtain ⟨tm, cm, hcm, -⟩ := MX.is
        have m0 : vx.drew.cell? ⟨mb, 0, none⟩ = some (.slice tm sx.1.length cm) := by
          have := hcm.cell 0
          exact this
        have RXd : Hid (Rdr 65 Dr rb sx vx.drew) := RX.off ((Off.refl (fun _ => False) vx).drew) (fun h => h) (fun _ _ _ h => h)
        have MXd : Hid (Rdr 42 Dm mb sx vx.drew) := MX.off ((Off.refl (fun _ => False) vx).drew) (fun h => h) (fun _ _ _ h => h)
        clear hcm
        go_wp2_with fail
        refine wp_region_held_drew (S := fun w' => w'.cell? ⟨mb, 0, none⟩ = some (.slice tm sx.1.length cm)) (by kernel_rfl) m0 (fun hS => ?_)
        clear m0
        refine take_at (i := 0) 76 (v := .pointer (some ⟨rb, 0, none⟩)) rfl rfl (by kernel_rfl) (by kernel_rfl) (by kernel_rfl) (fun _ _ _ h => h) (Or.inl ⟨by rfl, fun w' hw' => by go_simp⟩) hS ?_
        simp only [Act.put, List.setIfInBounds_toArray, List.set_cons_zero, List.set_cons_succ]
        refine take_at (i := 2) 78 (v := .pointer (some ⟨mb, 0, none⟩)) rfl rfl (by kernel_rfl) (by kernel_rfl) (by kernel_rfl) (fun _ _ _ h => h) (Or.inl ⟨by rfl, fun w' hw' => by go_simp⟩) hS ?_
        simp only [Act.put, List.setIfInBounds_toArray, List.set_cons_zero, List.set_cons_succ]
        refine take_at (i := 3) 79 (v := .pointer (some ⟨mb, 0, none⟩)) rfl rfl (by kernel_rfl) (by kernel_rfl) (by kernel_rfl) (fun _ _ _ h => h) (Or.inl ⟨by rfl, fun w' hw' => by go_simp⟩) hS ?_
        simp only [Act.put, List.setIfInBounds_toArray, List.set_cons_zero, List.set_cons_succ]
        refine take_at (i := 4) 80 (v := .pointer (some ⟨mb, 0, none⟩)) rfl rfl (by kernel_rfl) (by kernel_rfl) (by kernel_rfl) (fun _ _ _ h => h) (Or.inl ⟨by rfl, fun w' hw' => by go_simp⟩) hS ?_
        simp only [Act.put, List.setIfInBounds_toArray, List.set_cons_zero, List.set_cons_succ]
        refine take_at (i := 5) 81 (v := .slice tm sx.1.length cm) rfl rfl (by kernel_rfl) (by kernel_rfl) (by kernel_rfl) (fun _ _ _ h => h) (Or.inl ⟨by rfl, fun w' hw' => by have e : w'.cell? ⟨mb, 0, none⟩ = some (.slice tm sx.1.length cm) := hw'; go_simp⟩) hS ?_
        simp only [Act.put, List.setIfInBounds_toArray, List.set_cons_zero, List.set_cons_succ]
        refine take_at (i := 6) 82 (v := .int .i64 ((sx.1.length : Nat) : Int)) rfl rfl (by kernel_rfl) (by kernel_rfl) (by kernel_rfl) (fun _ _ _ h => h) (Or.inl ⟨by rfl, fun w' hw' => by go_simp⟩) hS ?_
        simp only [Act.put, List.setIfInBounds_toArray, List.set_cons_zero, List.set_cons_succ]
        refine wpAnyH_ready (rs := [1]) (by kernel_rfl) (by simp) ?_
        refine AllReadyH.cons rfl (fun K' hK' => ?_) AllReadyH.nil
        go_simp
        refine (rleft_any RXd.out).mono ?_
        rintro e v1 ⟨rfl, hw⟩
        rw [hw]
        clear hw v1
        refine hK'.out _ _ hS (fun hS => ?_)
        clear hK' K'
        refine take_at (i := 7) 83 (v := .bool false) rfl rfl (by kernel_rfl) (by kernel_rfl) (by kernel_rfl) (fun _ _ _ h => h) (Or.inl ⟨by rfl, fun w' hw' => by go_simp⟩) hS ?_
        simp only [Act.put, List.setIfInBounds_toArray, List.set_cons_zero, List.set_cons_succ]
        refine take_at (i := 8) 84 (v := .bool false) rfl rfl (by kernel_rfl) (by kernel_rfl) (by kernel_rfl) (fun _ _ _ h => h) (Or.inl ⟨by rfl, fun w' hw' => by go_simp⟩) hS ?_
        simp only [Act.put, List.setIfInBounds_toArray, List.set_cons_zero, List.set_cons_succ]
        refine take_at (i := 9) 85 (v := .pointer (some ⟨rb, 0, none⟩)) rfl rfl (by kernel_rfl) (by kernel_rfl) (by kernel_rfl) (fun _ _ _ h => h) (Or.inl ⟨by rfl, fun w' hw' => by go_simp⟩) hS ?_
        simp only [Act.put, List.setIfInBounds_toArray, List.set_cons_zero, List.set_cons_succ]
        refine take_at (i := 11) 87 (v := .pointer (some ⟨mb, 0, none⟩)) rfl rfl (by kernel_rfl) (by kernel_rfl) (by kernel_rfl) (fun _ _ _ h => h) (Or.inl ⟨by rfl, fun w' hw' => by go_simp⟩) hS ?_
        simp only [Act.put, List.setIfInBounds_toArray, List.set_cons_zero, List.set_cons_succ]
        refine wpAnyH_ready (rs := [10]) (by kernel_rfl) (by simp) ?_
        refine AllReadyH.cons rfl (fun K' hK' => ?_) AllReadyH.nil
        go_simp
        refine (rend_any RXd.out).mono ?_
        rintro e v1 ⟨rfl, hw⟩
        rw [hw]
        clear hw v1
        refine hK'.out _ _ hS (fun hS => ?_)
        clear hK' K'
        refine wpAnyH_ready (rs := [12]) (by kernel_rfl) (by simp) ?_
        refine AllReadyH.cons rfl (fun K' hK' => ?_) AllReadyH.nil
        go_simp
        refine (frend_any MXd.out).mono ?_
        rintro e v1 ⟨rfl, hw⟩
        rw [hw]
        clear hw v1
        refine hK'.out _ _ hS (fun hS => ?_)
        clear hK' K'
        refine take_at (i := 13) 89 (v := .bool false) rfl rfl (by kernel_rfl) (by kernel_rfl) (by kernel_rfl) (fun _ _ _ h => h) (Or.inl ⟨by rfl, fun w' hw' => by go_simp⟩) hS ?_
        simp only [Act.put, List.setIfInBounds_toArray, List.set_cons_zero, List.set_cons_succ]
        refine take_at (i := 14) 90 (v := .bool false) rfl rfl (by kernel_rfl) (by kernel_rfl) (by kernel_rfl) (fun _ _ _ h => h) (Or.inl ⟨by rfl, fun w' hw' => by go_simp⟩) hS ?_
        simp only [Act.put, List.setIfInBounds_toArray, List.set_cons_zero, List.set_cons_succ]
        refine wpAnyH_done (by kernel_rfl) ?_ _
        go_wp2_with fail
        go_roundw
        case rel => exact ⟨i + 1, sx, by go_num, by omega, by omega, RXd.out, MXd.out, OX.drew⟩
        case measure => simp [intOf]; omega
      by_cases h1 : act = 1
      · subst h1
        clear h0
        go_wp2_with fail
        refine (rint_any HR0.out).mono ?_
        rintro e v1 ⟨rfl, R1, p1⟩
        have M1 := HM0.out.off p1 (fun h => hrm h.symm) (fun c _ h1 h2 => hDm (h2 ▸ h1))
        go_wp2_with fail
        refine (frint_any M1).mono ?_
        rintro e v2 ⟨rfl, M2, p2⟩
        clear M1
        have RX0 := R1.off p2 (fun h => hrm h) (fun c _ h1 h2 => hDr (h2 ▸ h1))
        obtain ⟨sx, esx⟩ : ∃ sx, sx = (intS s).2 := ⟨_, rfl⟩
        rw [← esx] at RX0 M2
        have ESX : Hid _ := esx
        clear esx
        obtain ⟨vx, evx⟩ : ∃ vx, vx = v2 := ⟨_, rfl⟩
        have RX : Rdr 65 Dr rb sx vx := evx ▸ RX0
        have MX : Rdr 42 Dm mb sx vx := evx ▸ M2
        have OX : Off (fun c => w.heap.size ≤ c) w vx := evx ▸ ((HO0.out.trans p1 (fun k _ h => by omega)).trans p2 (fun k _ h => by omega))
        rw [← evx]
        clear evx RX0 M2 R1 p1 p2
        have hlx : sx.1.length ≤ 140737488355328 := RX.len
        obtain ⟨tm, cm, hcm, -⟩ := MX.is
        have m0 : vx.drew.cell? ⟨mb, 0, none⟩ = some (.slice tm sx.1.length cm) := by
          have := hcm.cell 0
          exact this
        have RXd : Hid (Rdr 65 Dr rb sx vx.drew) := RX.off ((Off.refl (fun _ => False) vx).drew) (fun h => h) (fun _ _ _ h => h)
        have MXd : Hid (Rdr 42 Dm mb sx vx.drew) := MX.off ((Off.refl (fun _ => False) vx).drew) (fun h => h) (fun _ _ _ h => h)
        clear hcm
        go_wp2_with fail
        refine wp_region_held_drew (S := fun w' => w'.cell? ⟨mb, 0, none⟩ = some (.slice tm sx.1.length cm)) (by kernel_rfl) m0 (fun hS => ?_)
        clear m0
        refine take_at (i := 0) 76 (v := .pointer (some ⟨rb, 0, none⟩)) rfl rfl (by kernel_rfl) (by kernel_rfl) (by kernel_rfl) (fun _ _ _ h => h) (Or.inl ⟨by rfl, fun w' hw' => by go_simp⟩) hS ?_
        simp only [Act.put, List.setIfInBounds_toArray, List.set_cons_zero, List.set_cons_succ]
        refine take_at (i := 2) 78 (v := .pointer (some ⟨mb, 0, none⟩)) rfl rfl (by kernel_rfl) (by kernel_rfl) (by kernel_rfl) (fun _ _ _ h => h) (Or.inl ⟨by rfl, fun w' hw' => by go_simp⟩) hS ?_
        simp only [Act.put, List.setIfInBounds_toArray, List.set_cons_zero, List.set_cons_succ]
        refine take_at (i := 3) 79 (v := .pointer (some ⟨mb, 0, none⟩)) rfl rfl (by kernel_rfl) (by kernel_rfl) (by kernel_rfl) (fun _ _ _ h => h) (Or.inl ⟨by rfl, fun w' hw' => by go_simp⟩) hS ?_
        simp only [Act.put, List.setIfInBounds_toArray, List.set_cons_zero, List.set_cons_succ]
        refine take_at (i := 4) 80 (v := .pointer (some ⟨mb, 0, none⟩)) rfl rfl (by kernel_rfl) (by kernel_rfl) (by kernel_rfl) (fun _ _ _ h => h) (Or.inl ⟨by rfl, fun w' hw' => by go_simp⟩) hS ?_
        simp only [Act.put, List.setIfInBounds_toArray, List.set_cons_zero, List.set_cons_succ]
        refine take_at (i := 5) 81 (v := .slice tm sx.1.length cm) rfl rfl (by kernel_rfl) (by kernel_rfl) (by kernel_rfl) (fun _ _ _ h => h) (Or.inl ⟨by rfl, fun w' hw' => by have e : w'.cell? ⟨mb, 0, none⟩ = some (.slice tm sx.1.length cm) := hw'; go_simp⟩) hS ?_
        simp only [Act.put, List.setIfInBounds_toArray, List.set_cons_zero, List.set_cons_succ]
        refine take_at (i := 6) 82 (v := .int .i64 ((sx.1.length : Nat) : Int)) rfl rfl (by kernel_rfl) (by kernel_rfl) (by kernel_rfl) (fun _ _ _ h => h) (Or.inl ⟨by rfl, fun w' hw' => by go_simp⟩) hS ?_
        simp only [Act.put, List.setIfInBounds_toArray, List.set_cons_zero, List.set_cons_succ]
        refine wpAnyH_ready (rs := [1]) (by kernel_rfl) (by simp) ?_
        refine AllReadyH.cons rfl (fun K' hK' => ?_) AllReadyH.nil
        go_simp
        refine (rleft_any RXd.out).mono ?_
        rintro e v1 ⟨rfl, hw⟩
        rw [hw]
        clear hw v1
        refine hK'.out _ _ hS (fun hS => ?_)
        clear hK' K'
        refine take_at (i := 7) 83 (v := .bool false) rfl rfl (by kernel_rfl) (by kernel_rfl) (by kernel_rfl) (fun _ _ _ h => h) (Or.inl ⟨by rfl, fun w' hw' => by go_simp⟩) hS ?_
        simp only [Act.put, List.setIfInBounds_toArray, List.set_cons_zero, List.set_cons_succ]
        refine take_at (i := 8) 84 (v := .bool false) rfl rfl (by kernel_rfl) (by kernel_rfl) (by kernel_rfl) (fun _ _ _ h => h) (Or.inl ⟨by rfl, fun w' hw' => by go_simp⟩) hS ?_
        simp only [Act.put, List.setIfInBounds_toArray, List.set_cons_zero, List.set_cons_succ]
        refine take_at (i := 9) 85 (v := .pointer (some ⟨rb, 0, none⟩)) rfl rfl (by kernel_rfl) (by kernel_rfl) (by kernel_rfl) (fun _ _ _ h => h) (Or.inl ⟨by rfl, fun w' hw' => by go_simp⟩) hS ?_
        simp only [Act.put, List.setIfInBounds_toArray, List.set_cons_zero, List.set_cons_succ]
        refine take_at (i := 11) 87 (v := .pointer (some ⟨mb, 0, none⟩)) rfl rfl (by kernel_rfl) (by kernel_rfl) (by kernel_rfl) (fun _ _ _ h => h) (Or.inl ⟨by rfl, fun w' hw' => by go_simp⟩) hS ?_
        simp only [Act.put, List.setIfInBounds_toArray, List.set_cons_zero, List.set_cons_succ]
        refine wpAnyH_ready (rs := [10]) (by kernel_rfl) (by simp) ?_
        refine AllReadyH.cons rfl (fun K' hK' => ?_) AllReadyH.nil
        go_simp
        refine (rend_any RXd.out).mono ?_
        rintro e v1 ⟨rfl, hw⟩
        rw [hw]
        clear hw v1
        refine hK'.out _ _ hS (fun hS => ?_)
        clear hK' K'
        refine wpAnyH_ready (rs := [12]) (by kernel_rfl) (by simp) ?_
        refine AllReadyH.cons rfl (fun K' hK' => ?_) AllReadyH.nil
        go_simp
        refine (frend_any MXd.out).mono ?_
        rintro e v1 ⟨rfl, hw⟩
        rw [hw]
        clear hw v1
        refine hK'.out _ _ hS (fun hS => ?_)
        clear hK' K'
        refine take_at (i := 13) 89 (v := .bool false) rfl rfl (by kernel_rfl) (by kernel_rfl) (by kernel_rfl) (fun _ _ _ h => h) (Or.inl ⟨by rfl, fun w' hw' => by go_simp⟩) hS ?_
        simp only [Act.put, List.setIfInBounds_toArray, List.set_cons_zero, List.set_cons_succ]
        refine take_at (i := 14) 90 (v := .bool false) rfl rfl (by kernel_rfl) (by kernel_rfl) (by kernel_rfl) (fun _ _ _ h => h) (Or.inl ⟨by rfl, fun w' hw' => by go_simp⟩) hS ?_
        simp only [Act.put, List.setIfInBounds_toArray, List.set_cons_zero, List.set_cons_succ]
        refine wpAnyH_done (by kernel_rfl) ?_ _
        go_wp2_with fail
        go_roundw
        case rel => exact ⟨i + 1, sx, by go_num, by omega, by omega, RXd.out, MXd.out, OX.drew⟩
        case measure => simp [intOf]; omega
      by_cases h2 : act = 2
      · subst h2
        clear h0 h1
        go_wp2_with fail
        refine (rflag_any HR0.out).mono ?_
        rintro e v1 ⟨rfl, R1, p1⟩
        have M1 := HM0.out.off p1 (fun h => hrm h.symm) (fun c _ h1 h2 => hDm (h2 ▸ h1))
        go_wp2_with fail
        refine (frflag_any M1).mono ?_
        rintro e v2 ⟨rfl, M2, p2⟩
        clear M1
        have RX0 := R1.off p2 (fun h => hrm h) (fun c _ h1 h2 => hDr (h2 ▸ h1))
        obtain ⟨sx, esx⟩ : ∃ sx, sx = (flagS s).2 := ⟨_, rfl⟩
        rw [← esx] at RX0 M2
        have ESX : Hid _ := esx
        clear esx
        obtain ⟨vx, evx⟩ : ∃ vx, vx = v2 := ⟨_, rfl⟩
        have RX : Rdr 65 Dr rb sx vx := evx ▸ RX0
        have MX : Rdr 42 Dm mb sx vx := evx ▸ M2
        have OX : Off (fun c => w.heap.size ≤ c) w vx := evx ▸ ((HO0.out.trans p1 (fun k _ h => by omega)).trans p2 (fun k _ h => by omega))
        rw [← evx]
        clear evx RX0 M2 R1 p1 p2
        have hlx : sx.1.length ≤ 140737488355328 := RX.len
        obtain ⟨tm, cm, hcm, -⟩ := MX.is
        have m0 : vx.drew.cell? ⟨mb, 0, none⟩ = some (.slice tm sx.1.length cm) := by
          have := hcm.cell 0
          exact this
        have RXd : Hid (Rdr 65 Dr rb sx vx.drew) := RX.off ((Off.refl (fun _ => False) vx).drew) (fun h => h) (fun _ _ _ h => h)
        have MXd : Hid (Rdr 42 Dm mb sx vx.drew) := MX.off ((Off.refl (fun _ => False) vx).drew) (fun h => h) (fun _ _ _ h => h)
        clear hcm
        go_wp2_with fail
        refine wp_region_held_drew (S := fun w' => w'.cell? ⟨mb, 0, none⟩ = some (.slice tm sx.1.length cm)) (by kernel_rfl) m0 (fun hS => ?_)
        clear m0
        refine take_at (i := 0) 76 (v := .pointer (some ⟨rb, 0, none⟩)) rfl rfl (by kernel_rfl) (by kernel_rfl) (by kernel_rfl) (fun _ _ _ h => h) (Or.inl ⟨by rfl, fun w' hw' => by go_simp⟩) hS ?_
        simp only [Act.put, List.setIfInBounds_toArray, List.set_cons_zero, List.set_cons_succ]
        refine take_at (i := 2) 78 (v := .pointer (some ⟨mb, 0, none⟩)) rfl rfl (by kernel_rfl) (by kernel_rfl) (by kernel_rfl) (fun _ _ _ h => h) (Or.inl ⟨by rfl, fun w' hw' => by go_simp⟩) hS ?_
        simp only [Act.put, List.setIfInBounds_toArray, List.set_cons_zero, List.set_cons_succ]
        refine take_at (i := 3) 79 (v := .pointer (some ⟨mb, 0, none⟩)) rfl rfl (by kernel_rfl) (by kernel_rfl) (by kernel_rfl) (fun _ _ _ h => h) (Or.inl ⟨by rfl, fun w' hw' => by go_simp⟩) hS ?_
        simp only [Act.put, List.setIfInBounds_toArray, List.set_cons_zero, List.set_cons_succ]
        refine take_at (i := 4) 80 (v := .pointer (some ⟨mb, 0, none⟩)) rfl rfl (by kernel_rfl) (by kernel_rfl) (by kernel_rfl) (fun _ _ _ h => h) (Or.inl ⟨by rfl, fun w' hw' => by go_simp⟩) hS ?_
        simp only [Act.put, List.setIfInBounds_toArray, List.set_cons_zero, List.set_cons_succ]
        refine take_at (i := 5) 81 (v := .slice tm sx.1.length cm) rfl rfl (by kernel_rfl) (by kernel_rfl) (by kernel_rfl) (fun _ _ _ h => h) (Or.inl ⟨by rfl, fun w' hw' => by have e : w'.cell? ⟨mb, 0, none⟩ = some (.slice tm sx.1.length cm) := hw'; go_simp⟩) hS ?_
        simp only [Act.put, List.setIfInBounds_toArray, List.set_cons_zero, List.set_cons_succ]
        refine take_at (i := 6) 82 (v := .int .i64 ((sx.1.length : Nat) : Int)) rfl rfl (by kernel_rfl) (by kernel_rfl) (by kernel_rfl) (fun _ _ _ h => h) (Or.inl ⟨by rfl, fun w' hw' => by go_simp⟩) hS ?_
        simp only [Act.put, List.setIfInBounds_toArray, List.set_cons_zero, List.set_cons_succ]
        refine wpAnyH_ready (rs := [1]) (by kernel_rfl) (by simp) ?_
        refine AllReadyH.cons rfl (fun K' hK' => ?_) AllReadyH.nil
        go_simp
        refine (rleft_any RXd.out).mono ?_
        rintro e v1 ⟨rfl, hw⟩
        rw [hw]
        clear hw v1
        refine hK'.out _ _ hS (fun hS => ?_)
        clear hK' K'
        refine take_at (i := 7) 83 (v := .bool false) rfl rfl (by kernel_rfl) (by kernel_rfl) (by kernel_rfl) (fun _ _ _ h => h) (Or.inl ⟨by rfl, fun w' hw' => by go_simp⟩) hS ?_
        simp only [Act.put, List.setIfInBounds_toArray, List.set_cons_zero, List.set_cons_succ]
        refine take_at (i := 8) 84 (v := .bool false) rfl rfl (by kernel_rfl) (by kernel_rfl) (by kernel_rfl) (fun _ _ _ h => h) (Or.inl ⟨by rfl, fun w' hw' => by go_simp⟩) hS ?_
        simp only [Act.put, List.setIfInBounds_toArray, List.set_cons_zero, List.set_cons_succ]
        refine take_at (i := 9) 85 (v := .pointer (some ⟨rb, 0, none⟩)) rfl rfl (by kernel_rfl) (by kernel_rfl) (by kernel_rfl) (fun _ _ _ h => h) (Or.inl ⟨by rfl, fun w' hw' => by go_simp⟩) hS ?_
        simp only [Act.put, List.setIfInBounds_toArray, List.set_cons_zero, List.set_cons_succ]
        refine take_at (i := 11) 87 (v := .pointer (some ⟨mb, 0, none⟩)) rfl rfl (by kernel_rfl) (by kernel_rfl) (by kernel_rfl) (fun _ _ _ h => h) (Or.inl ⟨by rfl, fun w' hw' => by go_simp⟩) hS ?_
        simp only [Act.put, List.setIfInBounds_toArray, List.set_cons_zero, List.set_cons_succ]
        refine wpAnyH_ready (rs := [10]) (by kernel_rfl) (by simp) ?_
        refine AllReadyH.cons rfl (fun K' hK' => ?_) AllReadyH.nil
        go_simp
        refine (rend_any RXd.out).mono ?_
        rintro e v1 ⟨rfl, hw⟩
        rw [hw]
        clear hw v1
        refine hK'.out _ _ hS (fun hS => ?_)
        clear hK' K'
        refine wpAnyH_ready (rs := [12]) (by kernel_rfl) (by simp) ?_
        refine AllReadyH.cons rfl (fun K' hK' => ?_) AllReadyH.nil
        go_simp
        refine (frend_any MXd.out).mono ?_
        rintro e v1 ⟨rfl, hw⟩
        rw [hw]
        clear hw v1
        refine hK'.out _ _ hS (fun hS => ?_)
        clear hK' K'
        refine take_at (i := 13) 89 (v := .bool false) rfl rfl (by kernel_rfl) (by kernel_rfl) (by kernel_rfl) (fun _ _ _ h => h) (Or.inl ⟨by rfl, fun w' hw' => by go_simp⟩) hS ?_
        simp only [Act.put, List.setIfInBounds_toArray, List.set_cons_zero, List.set_cons_succ]
        refine take_at (i := 14) 90 (v := .bool false) rfl rfl (by kernel_rfl) (by kernel_rfl) (by kernel_rfl) (fun _ _ _ h => h) (Or.inl ⟨by rfl, fun w' hw' => by go_simp⟩) hS ?_
        simp only [Act.put, List.setIfInBounds_toArray, List.set_cons_zero, List.set_cons_succ]
        refine wpAnyH_done (by kernel_rfl) ?_ _
        go_wp2_with fail
        go_roundw
        case rel => exact ⟨i + 1, sx, by go_num, by omega, by omega, RXd.out, MXd.out, OX.drew⟩
        case measure => simp [intOf]; omega
      have hd0 : (act == 0) = false := by rw [beq_eq_false_iff_ne]; exact h0
      have hd1 : (act == 1) = false := by rw [beq_eq_false_iff_ne]; exact h1
      have hd2 : (act == 2) = false := by rw [beq_eq_false_iff_ne]; exact h2
      by_cases h3 : act = 3
      · subst h3
        clear h0 h1 h2 hd0 hd1 hd2
        go_wp2_with fail
        have RD : Hid (Rdr 65 Dr rb s (wr.alloc (.cells #[.int .i64 3, .int .u64 (num : Int), .int .i64 int, .bool flag, .slice tt text.length tc, .int .i64 most] 32)).drew) := HR0.out.off ((Off.refl (fun _ => False) _).drew) (fun h => h) (fun _ _ _ h => h)
        have MD : Hid (Rdr 42 Dm mb s (wr.alloc (.cells #[.int .i64 3, .int .u64 (num : Int), .int .i64 int, .bool flag, .slice tt text.length tc, .int .i64 most] 32)).drew) := HM0.out.off ((Off.refl (fun _ => False) _).drew) (fun h => h) (fun _ _ _ h => h)
        have BD : (wr.alloc (.cells #[.int .i64 3, .int .u64 (num : Int), .int .i64 int, .bool flag, .slice tt text.length tc, .int .i64 most] 32)).drew.cell? ⟨wr.heap.size, 5, none⟩ = some (.int .i64 most) := by
          have := HB0.out.cell 5
          exact this
        have hkeep : ∀ w', Off (fun c => c = rb ∨ c = mb) (wr.alloc (.cells #[.int .i64 3, .int .u64 (num : Int), .int .i64 int, .bool flag, .slice tt text.length tc, .int .i64 most] 32)) w' → w'.cell? ⟨wr.heap.size, 5, none⟩ = some (.int .i64 most) := fun w' o => by
          rw [(HB0.out.off o (fun h => by omega)).cell]
          rfl
        have HKP : Hid _ := hkeep
        clear hkeep
        refine wp_region_held_drew (S := fun w' => w'.cell? ⟨wr.heap.size, 5, none⟩ = some (.int .i64 most)) (by kernel_rfl) BD (fun hS => ?_)
        clear BD
        refine take_at (i := 0) 65 (v := .pointer (some ⟨rb, 0, none⟩)) rfl rfl (by kernel_rfl) (by kernel_rfl) (by kernel_rfl) (fun _ _ _ h => h) (Or.inl ⟨by rfl, fun w' hw' => by go_simp⟩) hS ?_
        simp only [Act.put, List.setIfInBounds_toArray, List.set_cons_zero, List.set_cons_succ]
        refine take_at (i := 1) 66 (v := .pointer (some ⟨wr.heap.size, 5, none⟩)) rfl rfl (by kernel_rfl) (by kernel_rfl) (by kernel_rfl) (fun _ _ _ h => h) (Or.inl ⟨by rfl, fun w' hw' => by go_simp⟩) hS ?_
        simp only [Act.put, List.setIfInBounds_toArray, List.set_cons_zero, List.set_cons_succ]
        refine take_at (i := 2) 67 (v := .int .i64 most) rfl rfl (by kernel_rfl) (by kernel_rfl) (by kernel_rfl) (fun _ _ _ h => h) (Or.inl ⟨by rfl, fun w' hw' => by have e : w'.cell? ⟨wr.heap.size, 5, none⟩ = some (.int .i64 most) := hw'; go_simp⟩) hS ?_
        simp only [Act.put, List.setIfInBounds_toArray, List.set_cons_zero, List.set_cons_succ]
        refine take_at (i := 5) 70 (v := .pointer (some ⟨mb, 0, none⟩)) rfl rfl (by kernel_rfl) (by kernel_rfl) (by kernel_rfl) (fun _ _ _ h => h) (Or.inl ⟨by rfl, fun w' hw' => by go_simp⟩) hS ?_
        simp only [Act.put, List.setIfInBounds_toArray, List.set_cons_zero, List.set_cons_succ]
        refine take_at (i := 6) 71 (v := .pointer (some ⟨wr.heap.size, 5, none⟩)) rfl rfl (by kernel_rfl) (by kernel_rfl) (by kernel_rfl) (fun _ _ _ h => h) (Or.inl ⟨by rfl, fun w' hw' => by go_simp⟩) hS ?_
        simp only [Act.put, List.setIfInBounds_toArray, List.set_cons_zero, List.set_cons_succ]
        refine take_at (i := 7) 72 (v := .int .i64 most) rfl rfl (by kernel_rfl) (by kernel_rfl) (by kernel_rfl) (fun _ _ _ h => h) (Or.inl ⟨by rfl, fun w' hw' => by have e : w'.cell? ⟨wr.heap.size, 5, none⟩ = some (.int .i64 most) := hw'; go_simp⟩) hS ?_
        simp only [Act.put, List.setIfInBounds_toArray, List.set_cons_zero, List.set_cons_succ]
        refine wpAnyH_ready (rs := [3]) (by kernel_rfl) (by simp) ?_
        refine AllReadyH.cons rfl (fun K' hK' => ?_) AllReadyH.nil
        go_simp
        refine (rtext_any RD.out most m0 m1).mono ?_
        rintro e v1 ⟨t1, c1, rfl, own1, hb1, R1, p1⟩
        have q1 : Off (fun c => c = rb ∨ c = mb) (wr.alloc (.cells #[.int .i64 3, .int .u64 (num : Int), .int .i64 int, .bool flag, .slice tt text.length tc, .int .i64 most] 32)) v1 := (((Off.refl (fun c => c = rb ∨ c = mb) _).drew)).trans p1 (fun _ _ h => .inl h)
        have M1 := MD.out.off p1 (fun h => hrm h.symm) (fun c _ h1 h2 => hDm (h2 ▸ h1))
        replace p1 : Off (fun c => c = rb) (wr.alloc (.cells #[.int .i64 3, .int .u64 (num : Int), .int .i64 int, .bool flag, .slice tt text.length tc, .int .i64 most] 32)) v1 := ((Off.refl (fun c => c = rb) _).drew).trans p1 (fun _ _ h => h)
        have OW1 : Hid (OwnR v1 t1 c1 (textS most.toNat s).1) := own1
        have HB1 : Hid (∀ k, blk t1 = some k → wr.heap.size + 1 ≤ k) := fun k hk => by have := hb1 k hk; simpa using this
        clear own1 hb1
        refine hK'.out _ _ (HKP.out v1 q1) (fun hS => ?_)
        clear hK' K'
        refine wpAnyH_ready (rs := [4, 8]) (by kernel_rfl) (by simp) ?_
        refine AllReadyH.cons rfl (fun K' hK' => ?_) (AllReadyH.cons rfl (fun K' hK' => ?_) AllReadyH.nil)
        · have C := conv_src OW1.out.src
          go_simp
          clear C
          refine hK'.out _ _ hS (fun hS => ?_)
          clear hK' K'
          refine wpAnyH_ready (rs := [8]) (by kernel_rfl) (by simp) ?_
          refine AllReadyH.cons rfl (fun K' hK' => ?_) AllReadyH.nil
          go_simp
          refine (frtext_any M1 most m0 m1).mono ?_
          rintro e v2 ⟨t2, c2, rfl, own2, hb2, M2, p2⟩
          have q2 : Off (fun c => c = rb ∨ c = mb) (wr.alloc (.cells #[.int .i64 3, .int .u64 (num : Int), .int .i64 int, .bool flag, .slice tt text.length tc, .int .i64 most] 32)) v2 := q1.trans p2 (fun _ _ h => .inr h)
          have OW1' := OW1.out.off p2 (fun c _ h1 h2 => by have := HB1.out c h1; omega)
          have OW2 : Hid (OwnR v2 t2 c2 (textS most.toNat s).1) := own2
          clear own2 hb2
          refine hK'.out _ _ (HKP.out v2 q2) (fun hS => ?_)
          clear hK' K'
          refine wpAnyH_ready (rs := [9]) (by kernel_rfl) (by simp) ?_
          refine AllReadyH.cons rfl (fun K' hK' => ?_) AllReadyH.nil
          have C := conv_src OW2.out.src
          go_simp
          clear C
          refine hK'.out _ _ hS (fun hS => ?_)
          clear hK' K'
          refine take_at (i := 10) 75 (v := .bool false) rfl rfl (by kernel_rfl) (by kernel_rfl) (by kernel_rfl) (fun _ _ _ h => h) (Or.inl ⟨by rfl, fun w' hw' => by go_simp⟩) hS ?_
          simp only [Act.put, List.setIfInBounds_toArray, List.set_cons_zero, List.set_cons_succ]
          refine wpAnyH_done (by kernel_rfl) ?_ _
          clear M1 RD MD hS q1 q2 HKP OW1 HB1 OW1' OW2
          have RX0 := R1.off p2 (fun h => hrm h) (fun c _ h1 h2 => hDr (h2 ▸ h1))
          obtain ⟨sx, esx⟩ : ∃ sx, sx = (textS most.toNat s).2 := ⟨_, rfl⟩
          rw [← esx] at RX0 M2
          have ESX : Hid _ := esx
          clear esx
          obtain ⟨vx, evx⟩ : ∃ vx, vx = v2 := ⟨_, rfl⟩
          have RX : Rdr 65 Dr rb sx vx := evx ▸ RX0
          have MX : Rdr 42 Dm mb sx vx := evx ▸ M2
          have OX : Off (fun c => w.heap.size ≤ c) w vx := evx ▸ ((HO0.out.trans p1 (fun k _ h => by omega)).trans p2 (fun k _ h => by omega))
          rw [← evx]
          clear evx RX0 M2 R1 p1 p2
          have hlx : sx.1.length ≤ 140737488355328 := RX.len
          obtain ⟨tm, cm, hcm, -⟩ := MX.is
          have m0 : vx.drew.cell? ⟨mb, 0, none⟩ = some (.slice tm sx.1.length cm) := by
            have := hcm.cell 0
            exact this
          have RXd : Hid (Rdr 65 Dr rb sx vx.drew) := RX.off ((Off.refl (fun _ => False) vx).drew) (fun h => h) (fun _ _ _ h => h)
          have MXd : Hid (Rdr 42 Dm mb sx vx.drew) := MX.off ((Off.refl (fun _ => False) vx).drew) (fun h => h) (fun _ _ _ h => h)
          clear hcm
          go_wp2_with fail
          refine wp_region_held_drew (S := fun w' => w'.cell? ⟨mb, 0, none⟩ = some (.slice tm sx.1.length cm)) (by kernel_rfl) m0 (fun hS => ?_)
          clear m0
          refine take_at (i := 0) 76 (v := .pointer (some ⟨rb, 0, none⟩)) rfl rfl (by kernel_rfl) (by kernel_rfl) (by kernel_rfl) (fun _ _ _ h => h) (Or.inl ⟨by rfl, fun w' hw' => by go_simp⟩) hS ?_
          simp only [Act.put, List.setIfInBounds_toArray, List.set_cons_zero, List.set_cons_succ]
          refine take_at (i := 2) 78 (v := .pointer (some ⟨mb, 0, none⟩)) rfl rfl (by kernel_rfl) (by kernel_rfl) (by kernel_rfl) (fun _ _ _ h => h) (Or.inl ⟨by rfl, fun w' hw' => by go_simp⟩) hS ?_
          simp only [Act.put, List.setIfInBounds_toArray, List.set_cons_zero, List.set_cons_succ]
          refine take_at (i := 3) 79 (v := .pointer (some ⟨mb, 0, none⟩)) rfl rfl (by kernel_rfl) (by kernel_rfl) (by kernel_rfl) (fun _ _ _ h => h) (Or.inl ⟨by rfl, fun w' hw' => by go_simp⟩) hS ?_
          simp only [Act.put, List.setIfInBounds_toArray, List.set_cons_zero, List.set_cons_succ]
          refine take_at (i := 4) 80 (v := .pointer (some ⟨mb, 0, none⟩)) rfl rfl (by kernel_rfl) (by kernel_rfl) (by kernel_rfl) (fun _ _ _ h => h) (Or.inl ⟨by rfl, fun w' hw' => by go_simp⟩) hS ?_
          simp only [Act.put, List.setIfInBounds_toArray, List.set_cons_zero, List.set_cons_succ]
          refine take_at (i := 5) 81 (v := .slice tm sx.1.length cm) rfl rfl (by kernel_rfl) (by kernel_rfl) (by kernel_rfl) (fun _ _ _ h => h) (Or.inl ⟨by rfl, fun w' hw' => by have e : w'.cell? ⟨mb, 0, none⟩ = some (.slice tm sx.1.length cm) := hw'; go_simp⟩) hS ?_
          simp only [Act.put, List.setIfInBounds_toArray, List.set_cons_zero, List.set_cons_succ]
          refine take_at (i := 6) 82 (v := .int .i64 ((sx.1.length : Nat) : Int)) rfl rfl (by kernel_rfl) (by kernel_rfl) (by kernel_rfl) (fun _ _ _ h => h) (Or.inl ⟨by rfl, fun w' hw' => by go_simp⟩) hS ?_
          simp only [Act.put, List.setIfInBounds_toArray, List.set_cons_zero, List.set_cons_succ]
          refine wpAnyH_ready (rs := [1]) (by kernel_rfl) (by simp) ?_
          refine AllReadyH.cons rfl (fun K' hK' => ?_) AllReadyH.nil
          go_simp
          refine (rleft_any RXd.out).mono ?_
          rintro e v1 ⟨rfl, hw⟩
          rw [hw]
          clear hw v1
          refine hK'.out _ _ hS (fun hS => ?_)
          clear hK' K'
          refine take_at (i := 7) 83 (v := .bool false) rfl rfl (by kernel_rfl) (by kernel_rfl) (by kernel_rfl) (fun _ _ _ h => h) (Or.inl ⟨by rfl, fun w' hw' => by go_simp⟩) hS ?_
          simp only [Act.put, List.setIfInBounds_toArray, List.set_cons_zero, List.set_cons_succ]
          refine take_at (i := 8) 84 (v := .bool false) rfl rfl (by kernel_rfl) (by kernel_rfl) (by kernel_rfl) (fun _ _ _ h => h) (Or.inl ⟨by rfl, fun w' hw' => by go_simp⟩) hS ?_
          simp only [Act.put, List.setIfInBounds_toArray, List.set_cons_zero, List.set_cons_succ]
          refine take_at (i := 9) 85 (v := .pointer (some ⟨rb, 0, none⟩)) rfl rfl (by kernel_rfl) (by kernel_rfl) (by kernel_rfl) (fun _ _ _ h => h) (Or.inl ⟨by rfl, fun w' hw' => by go_simp⟩) hS ?_
          simp only [Act.put, List.setIfInBounds_toArray, List.set_cons_zero, List.set_cons_succ]
          refine take_at (i := 11) 87 (v := .pointer (some ⟨mb, 0, none⟩)) rfl rfl (by kernel_rfl) (by kernel_rfl) (by kernel_rfl) (fun _ _ _ h => h) (Or.inl ⟨by rfl, fun w' hw' => by go_simp⟩) hS ?_
          simp only [Act.put, List.setIfInBounds_toArray, List.set_cons_zero, List.set_cons_succ]
          refine wpAnyH_ready (rs := [10]) (by kernel_rfl) (by simp) ?_
          refine AllReadyH.cons rfl (fun K' hK' => ?_) AllReadyH.nil
          go_simp
          refine (rend_any RXd.out).mono ?_
          rintro e v1 ⟨rfl, hw⟩
          rw [hw]
          clear hw v1
          refine hK'.out _ _ hS (fun hS => ?_)
          clear hK' K'
          refine wpAnyH_ready (rs := [12]) (by kernel_rfl) (by simp) ?_
          refine AllReadyH.cons rfl (fun K' hK' => ?_) AllReadyH.nil
          go_simp
          refine (frend_any MXd.out).mono ?_
          rintro e v1 ⟨rfl, hw⟩
          rw [hw]
          clear hw v1
          refine hK'.out _ _ hS (fun hS => ?_)
          clear hK' K'
          refine take_at (i := 13) 89 (v := .bool false) rfl rfl (by kernel_rfl) (by kernel_rfl) (by kernel_rfl) (fun _ _ _ h => h) (Or.inl ⟨by rfl, fun w' hw' => by go_simp⟩) hS ?_
          simp only [Act.put, List.setIfInBounds_toArray, List.set_cons_zero, List.set_cons_succ]
          refine take_at (i := 14) 90 (v := .bool false) rfl rfl (by kernel_rfl) (by kernel_rfl) (by kernel_rfl) (fun _ _ _ h => h) (Or.inl ⟨by rfl, fun w' hw' => by go_simp⟩) hS ?_
          simp only [Act.put, List.setIfInBounds_toArray, List.set_cons_zero, List.set_cons_succ]
          refine wpAnyH_done (by kernel_rfl) ?_ _
          go_wp2_with fail
          go_roundw
          case rel => exact ⟨i + 1, sx, by go_num, by omega, by omega, RXd.out, MXd.out, OX.drew⟩
          case measure => simp [intOf]; omega
        · go_simp
          refine (frtext_any M1 most m0 m1).mono ?_
          rintro e v2 ⟨t2, c2, rfl, own2, hb2, M2, p2⟩
          have q2 : Off (fun c => c = rb ∨ c = mb) (wr.alloc (.cells #[.int .i64 3, .int .u64 (num : Int), .int .i64 int, .bool flag, .slice tt text.length tc, .int .i64 most] 32)) v2 := q1.trans p2 (fun _ _ h => .inr h)
          have OW1' := OW1.out.off p2 (fun c _ h1 h2 => by have := HB1.out c h1; omega)
          have OW2 : Hid (OwnR v2 t2 c2 (textS most.toNat s).1) := own2
          clear own2 hb2
          refine hK'.out _ _ (HKP.out v2 q2) (fun hS => ?_)
          clear hK' K'
          refine wpAnyH_ready (rs := [4, 9]) (by kernel_rfl) (by simp) ?_
          refine AllReadyH.cons rfl (fun K' hK' => ?_) (AllReadyH.cons rfl (fun K' hK' => ?_) AllReadyH.nil)
          · have C := conv_src OW1'.src
            go_simp
            clear C
            refine hK'.out _ _ hS (fun hS => ?_)
            clear hK' K'
            refine wpAnyH_ready (rs := [9]) (by kernel_rfl) (by simp) ?_
            refine AllReadyH.cons rfl (fun K' hK' => ?_) AllReadyH.nil
            have C := conv_src OW2.out.src
            go_simp
            clear C
            refine hK'.out _ _ hS (fun hS => ?_)
            clear hK' K'
            refine take_at (i := 10) 75 (v := .bool false) rfl rfl (by kernel_rfl) (by kernel_rfl) (by kernel_rfl) (fun _ _ _ h => h) (Or.inl ⟨by rfl, fun w' hw' => by go_simp⟩) hS ?_
            simp only [Act.put, List.setIfInBounds_toArray, List.set_cons_zero, List.set_cons_succ]
            refine wpAnyH_done (by kernel_rfl) ?_ _
            clear M1 RD MD hS q1 q2 HKP OW1 HB1 OW1' OW2
            have RX0 := R1.off p2 (fun h => hrm h) (fun c _ h1 h2 => hDr (h2 ▸ h1))
            obtain ⟨sx, esx⟩ : ∃ sx, sx = (textS most.toNat s).2 := ⟨_, rfl⟩
            rw [← esx] at RX0 M2
            have ESX : Hid _ := esx
            clear esx
            obtain ⟨vx, evx⟩ : ∃ vx, vx = v2 := ⟨_, rfl⟩
            have RX : Rdr 65 Dr rb sx vx := evx ▸ RX0
            have MX : Rdr 42 Dm mb sx vx := evx ▸ M2
            have OX : Off (fun c => w.heap.size ≤ c) w vx := evx ▸ ((HO0.out.trans p1 (fun k _ h => by omega)).trans p2 (fun k _ h => by omega))
            rw [← evx]
            clear evx RX0 M2 R1 p1 p2
            have hlx : sx.1.length ≤ 140737488355328 := RX.len
            obtain ⟨tm, cm, hcm, -⟩ := MX.is
            have m0 : vx.drew.cell? ⟨mb, 0, none⟩ = some (.slice tm sx.1.length cm) := by
              have := hcm.cell 0
              exact this
            have RXd : Hid (Rdr 65 Dr rb sx vx.drew) := RX.off ((Off.refl (fun _ => False) vx).drew) (fun h => h) (fun _ _ _ h => h)
            have MXd : Hid (Rdr 42 Dm mb sx vx.drew) := MX.off ((Off.refl (fun _ => False) vx).drew) (fun h => h) (fun _ _ _ h => h)
            clear hcm
            go_wp2_with fail
            refine wp_region_held_drew (S := fun w' => w'.cell? ⟨mb, 0, none⟩ = some (.slice tm sx.1.length cm)) (by kernel_rfl) m0 (fun hS => ?_)
            clear m0
            refine take_at (i := 0) 76 (v := .pointer (some ⟨rb, 0, none⟩)) rfl rfl (by kernel_rfl) (by kernel_rfl) (by kernel_rfl) (fun _ _ _ h => h) (Or.inl ⟨by rfl, fun w' hw' => by go_simp⟩) hS ?_
            simp only [Act.put, List.setIfInBounds_toArray, List.set_cons_zero, List.set_cons_succ]
            refine take_at (i := 2) 78 (v := .pointer (some ⟨mb, 0, none⟩)) rfl rfl (by kernel_rfl) (by kernel_rfl) (by kernel_rfl) (fun _ _ _ h => h) (Or.inl ⟨by rfl, fun w' hw' => by go_simp⟩) hS ?_
            simp only [Act.put, List.setIfInBounds_toArray, List.set_cons_zero, List.set_cons_succ]
            refine take_at (i := 3) 79 (v := .pointer (some ⟨mb, 0, none⟩)) rfl rfl (by kernel_rfl) (by kernel_rfl) (by kernel_rfl) (fun _ _ _ h => h) (Or.inl ⟨by rfl, fun w' hw' => by go_simp⟩) hS ?_
            simp only [Act.put, List.setIfInBounds_toArray, List.set_cons_zero, List.set_cons_succ]
            refine take_at (i := 4) 80 (v := .pointer (some ⟨mb, 0, none⟩)) rfl rfl (by kernel_rfl) (by kernel_rfl) (by kernel_rfl) (fun _ _ _ h => h) (Or.inl ⟨by rfl, fun w' hw' => by go_simp⟩) hS ?_
            simp only [Act.put, List.setIfInBounds_toArray, List.set_cons_zero, List.set_cons_succ]
            refine take_at (i := 5) 81 (v := .slice tm sx.1.length cm) rfl rfl (by kernel_rfl) (by kernel_rfl) (by kernel_rfl) (fun _ _ _ h => h) (Or.inl ⟨by rfl, fun w' hw' => by have e : w'.cell? ⟨mb, 0, none⟩ = some (.slice tm sx.1.length cm) := hw'; go_simp⟩) hS ?_
            simp only [Act.put, List.setIfInBounds_toArray, List.set_cons_zero, List.set_cons_succ]
            refine take_at (i := 6) 82 (v := .int .i64 ((sx.1.length : Nat) : Int)) rfl rfl (by kernel_rfl) (by kernel_rfl) (by kernel_rfl) (fun _ _ _ h => h) (Or.inl ⟨by rfl, fun w' hw' => by go_simp⟩) hS ?_
            simp only [Act.put, List.setIfInBounds_toArray, List.set_cons_zero, List.set_cons_succ]
            refine wpAnyH_ready (rs := [1]) (by kernel_rfl) (by simp) ?_
            refine AllReadyH.cons rfl (fun K' hK' => ?_) AllReadyH.nil
            go_simp
            refine (rleft_any RXd.out).mono ?_
            rintro e v1 ⟨rfl, hw⟩
            rw [hw]
            clear hw v1
            refine hK'.out _ _ hS (fun hS => ?_)
            clear hK' K'
            refine take_at (i := 7) 83 (v := .bool false) rfl rfl (by kernel_rfl) (by kernel_rfl) (by kernel_rfl) (fun _ _ _ h => h) (Or.inl ⟨by rfl, fun w' hw' => by go_simp⟩) hS ?_
            simp only [Act.put, List.setIfInBounds_toArray, List.set_cons_zero, List.set_cons_succ]
            refine take_at (i := 8) 84 (v := .bool false) rfl rfl (by kernel_rfl) (by kernel_rfl) (by kernel_rfl) (fun _ _ _ h => h) (Or.inl ⟨by rfl, fun w' hw' => by go_simp⟩) hS ?_
            simp only [Act.put, List.setIfInBounds_toArray, List.set_cons_zero, List.set_cons_succ]
            refine take_at (i := 9) 85 (v := .pointer (some ⟨rb, 0, none⟩)) rfl rfl (by kernel_rfl) (by kernel_rfl) (by kernel_rfl) (fun _ _ _ h => h) (Or.inl ⟨by rfl, fun w' hw' => by go_simp⟩) hS ?_
            simp only [Act.put, List.setIfInBounds_toArray, List.set_cons_zero, List.set_cons_succ]
            refine take_at (i := 11) 87 (v := .pointer (some ⟨mb, 0, none⟩)) rfl rfl (by kernel_rfl) (by kernel_rfl) (by kernel_rfl) (fun _ _ _ h => h) (Or.inl ⟨by rfl, fun w' hw' => by go_simp⟩) hS ?_
            simp only [Act.put, List.setIfInBounds_toArray, List.set_cons_zero, List.set_cons_succ]
            refine wpAnyH_ready (rs := [10]) (by kernel_rfl) (by simp) ?_
            refine AllReadyH.cons rfl (fun K' hK' => ?_) AllReadyH.nil
            go_simp
            refine (rend_any RXd.out).mono ?_
            rintro e v1 ⟨rfl, hw⟩
            rw [hw]
            clear hw v1
            refine hK'.out _ _ hS (fun hS => ?_)
            clear hK' K'
            refine wpAnyH_ready (rs := [12]) (by kernel_rfl) (by simp) ?_
            refine AllReadyH.cons rfl (fun K' hK' => ?_) AllReadyH.nil
            go_simp
            refine (frend_any MXd.out).mono ?_
            rintro e v1 ⟨rfl, hw⟩
            rw [hw]
            clear hw v1
            refine hK'.out _ _ hS (fun hS => ?_)
            clear hK' K'
            refine take_at (i := 13) 89 (v := .bool false) rfl rfl (by kernel_rfl) (by kernel_rfl) (by kernel_rfl) (fun _ _ _ h => h) (Or.inl ⟨by rfl, fun w' hw' => by go_simp⟩) hS ?_
            simp only [Act.put, List.setIfInBounds_toArray, List.set_cons_zero, List.set_cons_succ]
            refine take_at (i := 14) 90 (v := .bool false) rfl rfl (by kernel_rfl) (by kernel_rfl) (by kernel_rfl) (fun _ _ _ h => h) (Or.inl ⟨by rfl, fun w' hw' => by go_simp⟩) hS ?_
            simp only [Act.put, List.setIfInBounds_toArray, List.set_cons_zero, List.set_cons_succ]
            refine wpAnyH_done (by kernel_rfl) ?_ _
            go_wp2_with fail
            go_roundw
            case rel => exact ⟨i + 1, sx, by go_num, by omega, by omega, RXd.out, MXd.out, OX.drew⟩
            case measure => simp [intOf]; omega
          · have C := conv_src OW2.out.src
            go_simp
            clear C
            refine hK'.out _ _ hS (fun hS => ?_)
            clear hK' K'
            refine wpAnyH_ready (rs := [4]) (by kernel_rfl) (by simp) ?_
            refine AllReadyH.cons rfl (fun K' hK' => ?_) AllReadyH.nil
            have C := conv_src OW1'.src
            go_simp
            clear C
            refine hK'.out _ _ hS (fun hS => ?_)
            clear hK' K'
            refine take_at (i := 10) 75 (v := .bool false) rfl rfl (by kernel_rfl) (by kernel_rfl) (by kernel_rfl) (fun _ _ _ h => h) (Or.inl ⟨by rfl, fun w' hw' => by go_simp⟩) hS ?_
            simp only [Act.put, List.setIfInBounds_toArray, List.set_cons_zero, List.set_cons_succ]
            refine wpAnyH_done (by kernel_rfl) ?_ _
            clear M1 RD MD hS q1 q2 HKP OW1 HB1 OW1' OW2
            have RX0 := R1.off p2 (fun h => hrm h) (fun c _ h1 h2 => hDr (h2 ▸ h1))
            obtain ⟨sx, esx⟩ : ∃ sx, sx = (textS most.toNat s).2 := ⟨_, rfl⟩
            rw [← esx] at RX0 M2
            have ESX : Hid _ := esx
            clear esx
            obtain ⟨vx, evx⟩ : ∃ vx, vx = v2 := ⟨_, rfl⟩
            have RX : Rdr 65 Dr rb sx vx := evx ▸ RX0
            have MX : Rdr 42 Dm mb sx vx := evx ▸ M2
            have OX : Off (fun c => w.heap.size ≤ c) w vx := evx ▸ ((HO0.out.trans p1 (fun k _ h => by omega)).trans p2 (fun k _ h => by omega))
            rw [← evx]
            clear evx RX0 M2 R1 p1 p2
            have hlx : sx.1.length ≤ 140737488355328 := RX.len
            obtain ⟨tm, cm, hcm, -⟩ := MX.is
            have m0 : vx.drew.cell? ⟨mb, 0, none⟩ = some (.slice tm sx.1.length cm) := by
              have := hcm.cell 0
              exact this
            have RXd : Hid (Rdr 65 Dr rb sx vx.drew) := RX.off ((Off.refl (fun _ => False) vx).drew) (fun h => h) (fun _ _ _ h => h)
            have MXd : Hid (Rdr 42 Dm mb sx vx.drew) := MX.off ((Off.refl (fun _ => False) vx).drew) (fun h => h) (fun _ _ _ h => h)
            clear hcm
            go_wp2_with fail
            refine wp_region_held_drew (S := fun w' => w'.cell? ⟨mb, 0, none⟩ = some (.slice tm sx.1.length cm)) (by kernel_rfl) m0 (fun hS => ?_)
            clear m0
            refine take_at (i := 0) 76 (v := .pointer (some ⟨rb, 0, none⟩)) rfl rfl (by kernel_rfl) (by kernel_rfl) (by kernel_rfl) (fun _ _ _ h => h) (Or.inl ⟨by rfl, fun w' hw' => by go_simp⟩) hS ?_
            simp only [Act.put, List.setIfInBounds_toArray, List.set_cons_zero, List.set_cons_succ]
            refine take_at (i := 2) 78 (v := .pointer (some ⟨mb, 0, none⟩)) rfl rfl (by kernel_rfl) (by kernel_rfl) (by kernel_rfl) (fun _ _ _ h => h) (Or.inl ⟨by rfl, fun w' hw' => by go_simp⟩) hS ?_
            simp only [Act.put, List.setIfInBounds_toArray, List.set_cons_zero, List.set_cons_succ]
            refine take_at (i := 3) 79 (v := .pointer (some ⟨mb, 0, none⟩)) rfl rfl (by kernel_rfl) (by kernel_rfl) (by kernel_rfl) (fun _ _ _ h => h) (Or.inl ⟨by rfl, fun w' hw' => by go_simp⟩) hS ?_
            simp only [Act.put, List.setIfInBounds_toArray, List.set_cons_zero, List.set_cons_succ]
            refine take_at (i := 4) 80 (v := .pointer (some ⟨mb, 0, none⟩)) rfl rfl (by kernel_rfl) (by kernel_rfl) (by kernel_rfl) (fun _ _ _ h => h) (Or.inl ⟨by rfl, fun w' hw' => by go_simp⟩) hS ?_
            simp only [Act.put, List.setIfInBounds_toArray, List.set_cons_zero, List.set_cons_succ]
            refine take_at (i := 5) 81 (v := .slice tm sx.1.length cm) rfl rfl (by kernel_rfl) (by kernel_rfl) (by kernel_rfl) (fun _ _ _ h => h) (Or.inl ⟨by rfl, fun w' hw' => by have e : w'.cell? ⟨mb, 0, none⟩ = some (.slice tm sx.1.length cm) := hw'; go_simp⟩) hS ?_
            simp only [Act.put, List.setIfInBounds_toArray, List.set_cons_zero, List.set_cons_succ]
            refine take_at (i := 6) 82 (v := .int .i64 ((sx.1.length : Nat) : Int)) rfl rfl (by kernel_rfl) (by kernel_rfl) (by kernel_rfl) (fun _ _ _ h => h) (Or.inl ⟨by rfl, fun w' hw' => by go_simp⟩) hS ?_
            simp only [Act.put, List.setIfInBounds_toArray, List.set_cons_zero, List.set_cons_succ]
            refine wpAnyH_ready (rs := [1]) (by kernel_rfl) (by simp) ?_
            refine AllReadyH.cons rfl (fun K' hK' => ?_) AllReadyH.nil
            go_simp
            refine (rleft_any RXd.out).mono ?_
            rintro e v1 ⟨rfl, hw⟩
            rw [hw]
            clear hw v1
            refine hK'.out _ _ hS (fun hS => ?_)
            clear hK' K'
            refine take_at (i := 7) 83 (v := .bool false) rfl rfl (by kernel_rfl) (by kernel_rfl) (by kernel_rfl) (fun _ _ _ h => h) (Or.inl ⟨by rfl, fun w' hw' => by go_simp⟩) hS ?_
            simp only [Act.put, List.setIfInBounds_toArray, List.set_cons_zero, List.set_cons_succ]
            refine take_at (i := 8) 84 (v := .bool false) rfl rfl (by kernel_rfl) (by kernel_rfl) (by kernel_rfl) (fun _ _ _ h => h) (Or.inl ⟨by rfl, fun w' hw' => by go_simp⟩) hS ?_
            simp only [Act.put, List.setIfInBounds_toArray, List.set_cons_zero, List.set_cons_succ]
            refine take_at (i := 9) 85 (v := .pointer (some ⟨rb, 0, none⟩)) rfl rfl (by kernel_rfl) (by kernel_rfl) (by kernel_rfl) (fun _ _ _ h => h) (Or.inl ⟨by rfl, fun w' hw' => by go_simp⟩) hS ?_
            simp only [Act.put, List.setIfInBounds_toArray, List.set_cons_zero, List.set_cons_succ]
            refine take_at (i := 11) 87 (v := .pointer (some ⟨mb, 0, none⟩)) rfl rfl (by kernel_rfl) (by kernel_rfl) (by kernel_rfl) (fun _ _ _ h => h) (Or.inl ⟨by rfl, fun w' hw' => by go_simp⟩) hS ?_
            simp only [Act.put, List.setIfInBounds_toArray, List.set_cons_zero, List.set_cons_succ]
            refine wpAnyH_ready (rs := [10]) (by kernel_rfl) (by simp) ?_
            refine AllReadyH.cons rfl (fun K' hK' => ?_) AllReadyH.nil
            go_simp
            refine (rend_any RXd.out).mono ?_
            rintro e v1 ⟨rfl, hw⟩
            rw [hw]
            clear hw v1
            refine hK'.out _ _ hS (fun hS => ?_)
            clear hK' K'
            refine wpAnyH_ready (rs := [12]) (by kernel_rfl) (by simp) ?_
            refine AllReadyH.cons rfl (fun K' hK' => ?_) AllReadyH.nil
            go_simp
            refine (frend_any MXd.out).mono ?_
            rintro e v1 ⟨rfl, hw⟩
            rw [hw]
            clear hw v1
            refine hK'.out _ _ hS (fun hS => ?_)
            clear hK' K'
            refine take_at (i := 13) 89 (v := .bool false) rfl rfl (by kernel_rfl) (by kernel_rfl) (by kernel_rfl) (fun _ _ _ h => h) (Or.inl ⟨by rfl, fun w' hw' => by go_simp⟩) hS ?_
            simp only [Act.put, List.setIfInBounds_toArray, List.set_cons_zero, List.set_cons_succ]
            refine take_at (i := 14) 90 (v := .bool false) rfl rfl (by kernel_rfl) (by kernel_rfl) (by kernel_rfl) (fun _ _ _ h => h) (Or.inl ⟨by rfl, fun w' hw' => by go_simp⟩) hS ?_
            simp only [Act.put, List.setIfInBounds_toArray, List.set_cons_zero, List.set_cons_succ]
            refine wpAnyH_done (by kernel_rfl) ?_ _
            go_wp2_with fail
            go_roundw
            case rel => exact ⟨i + 1, sx, by go_num, by omega, by omega, RXd.out, MXd.out, OX.drew⟩
            case measure => simp [intOf]; omega
      have hd3 : (act == 3) = false := by rw [beq_eq_false_iff_ne]; exact h3
      go_wp2_with fail
      have RD : Hid (Rdr 65 Dr rb s (wr.alloc (.cells #[.int .i64 act, .int .u64 (num : Int), .int .i64 int, .bool flag, .slice tt text.length tc, .int .i64 most] 32)).drew) := HR0.out.off ((Off.refl (fun _ => False) _).drew) (fun h => h) (fun _ _ _ h => h)
      have MD : Hid (Rdr 42 Dm mb s (wr.alloc (.cells #[.int .i64 act, .int .u64 (num : Int), .int .i64 int, .bool flag, .slice tt text.length tc, .int .i64 most] 32)).drew) := HM0.out.off ((Off.refl (fun _ => False) _).drew) (fun h => h) (fun _ _ _ h => h)
      have BD : (wr.alloc (.cells #[.int .i64 act, .int .u64 (num : Int), .int .i64 int, .bool flag, .slice tt text.length tc, .int .i64 most] 32)).drew.cell? ⟨wr.heap.size, 5, none⟩ = some (.int .i64 most) := by
        have := HB0.out.cell 5
        exact this
      have hkeep : ∀ w', Off (fun c => c = rb ∨ c = mb) (wr.alloc (.cells #[.int .i64 act, .int .u64 (num : Int), .int .i64 int, .bool flag, .slice tt text.length tc, .int .i64 most] 32)) w' → w'.cell? ⟨wr.heap.size, 5, none⟩ = some (.int .i64 most) := fun w' o => by
        rw [(HB0.out.off o (fun h => by omega)).cell]
        rfl
      have HKP : Hid _ := hkeep
      clear hkeep
      refine wp_region_held_drew (S := fun w' => w'.cell? ⟨wr.heap.size, 5, none⟩ = some (.int .i64 most)) (by kernel_rfl) BD (fun hS => ?_)
      clear BD
      refine take_at (i := 0) 33 (v := .pointer (some ⟨rb, 0, none⟩)) rfl rfl (by kernel_rfl) (by kernel_rfl) (by kernel_rfl) (fun _ _ _ h => h) (Or.inl ⟨by rfl, fun w' hw' => by go_simp⟩) hS ?_
      simp only [Act.put, List.setIfInBounds_toArray, List.set_cons_zero, List.set_cons_succ]
      refine take_at (i := 1) 34 (v := .pointer (some ⟨wr.heap.size, 5, none⟩)) rfl rfl (by kernel_rfl) (by kernel_rfl) (by kernel_rfl) (fun _ _ _ h => h) (Or.inl ⟨by rfl, fun w' hw' => by go_simp⟩) hS ?_
      simp only [Act.put, List.setIfInBounds_toArray, List.set_cons_zero, List.set_cons_succ]
      refine take_at (i := 2) 35 (v := .int .i64 most) rfl rfl (by kernel_rfl) (by kernel_rfl) (by kernel_rfl) (fun _ _ _ h => h) (Or.inl ⟨by rfl, fun w' hw' => by have e : w'.cell? ⟨wr.heap.size, 5, none⟩ = some (.int .i64 most) := hw'; go_simp⟩) hS ?_
      simp only [Act.put, List.setIfInBounds_toArray, List.set_cons_zero, List.set_cons_succ]
      refine take_at (i := 4) 37 (v := .pointer (some ⟨mb, 0, none⟩)) rfl rfl (by kernel_rfl) (by kernel_rfl) (by kernel_rfl) (fun _ _ _ h => h) (Or.inl ⟨by rfl, fun w' hw' => by go_simp⟩) hS ?_
      simp only [Act.put, List.setIfInBounds_toArray, List.set_cons_zero, List.set_cons_succ]
      refine take_at (i := 5) 38 (v := .pointer (some ⟨wr.heap.size, 5, none⟩)) rfl rfl (by kernel_rfl) (by kernel_rfl) (by kernel_rfl) (fun _ _ _ h => h) (Or.inl ⟨by rfl, fun w' hw' => by go_simp⟩) hS ?_
      simp only [Act.put, List.setIfInBounds_toArray, List.set_cons_zero, List.set_cons_succ]
      refine take_at (i := 6) 39 (v := .int .i64 most) rfl rfl (by kernel_rfl) (by kernel_rfl) (by kernel_rfl) (fun _ _ _ h => h) (Or.inl ⟨by rfl, fun w' hw' => by have e : w'.cell? ⟨wr.heap.size, 5, none⟩ = some (.int .i64 most) := hw'; go_simp⟩) hS ?_
      simp only [Act.put, List.setIfInBounds_toArray, List.set_cons_zero, List.set_cons_succ]
      refine wpAnyH_ready (rs := [3]) (by kernel_rfl) (by simp) ?_
      refine AllReadyH.cons rfl (fun K' hK' => ?_) AllReadyH.nil
      go_simp
      refine (rcount_any RD.out most m0 m1).mono ?_
      rintro e v1 ⟨rfl, R1, p1⟩
      have q1 : Off (fun c => c = rb ∨ c = mb) (wr.alloc (.cells #[.int .i64 act, .int .u64 (num : Int), .int .i64 int, .bool flag, .slice tt text.length tc, .int .i64 most] 32)) v1 := (((Off.refl (fun c => c = rb ∨ c = mb) _).drew)).trans p1 (fun _ _ h => .inl h)
      have M1 := MD.out.off p1 (fun h => hrm h.symm) (fun c _ h1 h2 => hDm (h2 ▸ h1))
      replace p1 : Off (fun c => c = rb) (wr.alloc (.cells #[.int .i64 act, .int .u64 (num : Int), .int .i64 int, .bool flag, .slice tt text.length tc, .int .i64 most] 32)) v1 := ((Off.refl (fun c => c = rb) _).drew).trans p1 (fun _ _ h => h)
      refine hK'.out _ _ (HKP.out v1 q1) (fun hS => ?_)
      clear hK' K'
      refine wpAnyH_ready (rs := [7]) (by kernel_rfl) (by simp) ?_
      refine AllReadyH.cons rfl (fun K' hK' => ?_) AllReadyH.nil
      go_simp
      refine (frcount_any M1 most m0 m1).mono ?_
      rintro e v2 ⟨rfl, M2, p2⟩
      have q2 : Off (fun c => c = rb ∨ c = mb) (wr.alloc (.cells #[.int .i64 act, .int .u64 (num : Int), .int .i64 int, .bool flag, .slice tt text.length tc, .int .i64 most] 32)) v2 := q1.trans p2 (fun _ _ h => .inr h)
      refine hK'.out _ _ (HKP.out v2 q2) (fun hS => ?_)
      clear hK' K'
      refine take_at (i := 8) 41 (v := .bool false) rfl rfl (by kernel_rfl) (by kernel_rfl) (by kernel_rfl) (fun _ _ _ h => h) (Or.inl ⟨by rfl, fun w' hw' => by go_simp⟩) hS ?_
      simp only [Act.put, List.setIfInBounds_toArray, List.set_cons_zero, List.set_cons_succ]
      refine wpAnyH_done (by kernel_rfl) ?_ _
      clear M1 RD MD hS q1 q2 HKP
      have RX0 := R1.off p2 (fun h => hrm h) (fun c _ h1 h2 => hDr (h2 ▸ h1))
      obtain ⟨sx, esx⟩ : ∃ sx, sx = (countS most.toNat s).2 := ⟨_, rfl⟩
      rw [← esx] at RX0 M2
      have ESX : Hid _ := esx
      clear esx
      obtain ⟨vx, evx⟩ : ∃ vx, vx = v2 := ⟨_, rfl⟩
      have RX : Rdr 65 Dr rb sx vx := evx ▸ RX0
      have MX : Rdr 42 Dm mb sx vx := evx ▸ M2
      have OX : Off (fun c => w.heap.size ≤ c) w vx := evx ▸ ((HO0.out.trans p1 (fun k _ h => by omega)).trans p2 (fun k _ h => by omega))
      rw [← evx]
      clear evx RX0 M2 R1 p1 p2
      have hlx : sx.1.length ≤ 140737488355328 := RX.len
      obtain ⟨tm, cm, hcm, -⟩ := MX.is
      have m0 : vx.drew.cell? ⟨mb, 0, none⟩ = some (.slice tm sx.1.length cm) := by
        have := hcm.cell 0
        exact this
      have RXd : Hid (Rdr 65 Dr rb sx vx.drew) := RX.off ((Off.refl (fun _ => False) vx).drew) (fun h => h) (fun _ _ _ h => h)
      have MXd : Hid (Rdr 42 Dm mb sx vx.drew) := MX.off ((Off.refl (fun _ => False) vx).drew) (fun h => h) (fun _ _ _ h => h)
      clear hcm
      go_wp2_with fail
      refine wp_region_held_drew (S := fun w' => w'.cell? ⟨mb, 0, none⟩ = some (.slice tm sx.1.length cm)) (by kernel_rfl) m0 (fun hS => ?_)
      clear m0
      refine take_at (i := 0) 76 (v := .pointer (some ⟨rb, 0, none⟩)) rfl rfl (by kernel_rfl) (by kernel_rfl) (by kernel_rfl) (fun _ _ _ h => h) (Or.inl ⟨by rfl, fun w' hw' => by go_simp⟩) hS ?_
      simp only [Act.put, List.setIfInBounds_toArray, List.set_cons_zero, List.set_cons_succ]
      refine take_at (i := 2) 78 (v := .pointer (some ⟨mb, 0, none⟩)) rfl rfl (by kernel_rfl) (by kernel_rfl) (by kernel_rfl) (fun _ _ _ h => h) (Or.inl ⟨by rfl, fun w' hw' => by go_simp⟩) hS ?_
      simp only [Act.put, List.setIfInBounds_toArray, List.set_cons_zero, List.set_cons_succ]
      refine take_at (i := 3) 79 (v := .pointer (some ⟨mb, 0, none⟩)) rfl rfl (by kernel_rfl) (by kernel_rfl) (by kernel_rfl) (fun _ _ _ h => h) (Or.inl ⟨by rfl, fun w' hw' => by go_simp⟩) hS ?_
      simp only [Act.put, List.setIfInBounds_toArray, List.set_cons_zero, List.set_cons_succ]
      refine take_at (i := 4) 80 (v := .pointer (some ⟨mb, 0, none⟩)) rfl rfl (by kernel_rfl) (by kernel_rfl) (by kernel_rfl) (fun _ _ _ h => h) (Or.inl ⟨by rfl, fun w' hw' => by go_simp⟩) hS ?_
      simp only [Act.put, List.setIfInBounds_toArray, List.set_cons_zero, List.set_cons_succ]
      refine take_at (i := 5) 81 (v := .slice tm sx.1.length cm) rfl rfl (by kernel_rfl) (by kernel_rfl) (by kernel_rfl) (fun _ _ _ h => h) (Or.inl ⟨by rfl, fun w' hw' => by have e : w'.cell? ⟨mb, 0, none⟩ = some (.slice tm sx.1.length cm) := hw'; go_simp⟩) hS ?_
      simp only [Act.put, List.setIfInBounds_toArray, List.set_cons_zero, List.set_cons_succ]
      refine take_at (i := 6) 82 (v := .int .i64 ((sx.1.length : Nat) : Int)) rfl rfl (by kernel_rfl) (by kernel_rfl) (by kernel_rfl) (fun _ _ _ h => h) (Or.inl ⟨by rfl, fun w' hw' => by go_simp⟩) hS ?_
      simp only [Act.put, List.setIfInBounds_toArray, List.set_cons_zero, List.set_cons_succ]
      refine wpAnyH_ready (rs := [1]) (by kernel_rfl) (by simp) ?_
      refine AllReadyH.cons rfl (fun K' hK' => ?_) AllReadyH.nil
      go_simp
      refine (rleft_any RXd.out).mono ?_
      rintro e v1 ⟨rfl, hw⟩
      rw [hw]
      clear hw v1
      refine hK'.out _ _ hS (fun hS => ?_)
      clear hK' K'
      refine take_at (i := 7) 83 (v := .bool false) rfl rfl (by kernel_rfl) (by kernel_rfl) (by kernel_rfl) (fun _ _ _ h => h) (Or.inl ⟨by rfl, fun w' hw' => by go_simp⟩) hS ?_
      simp only [Act.put, List.setIfInBounds_toArray, List.set_cons_zero, List.set_cons_succ]
      refine take_at (i := 8) 84 (v := .bool false) rfl rfl (by kernel_rfl) (by kernel_rfl) (by kernel_rfl) (fun _ _ _ h => h) (Or.inl ⟨by rfl, fun w' hw' => by go_simp⟩) hS ?_
      simp only [Act.put, List.setIfInBounds_toArray, List.set_cons_zero, List.set_cons_succ]
      refine take_at (i := 9) 85 (v := .pointer (some ⟨rb, 0, none⟩)) rfl rfl (by kernel_rfl) (by kernel_rfl) (by kernel_rfl) (fun _ _ _ h => h) (Or.inl ⟨by rfl, fun w' hw' => by go_simp⟩) hS ?_
      simp only [Act.put, List.setIfInBounds_toArray, List.set_cons_zero, List.set_cons_succ]
      refine take_at (i := 11) 87 (v := .pointer (some ⟨mb, 0, none⟩)) rfl rfl (by kernel_rfl) (by kernel_rfl) (by kernel_rfl) (fun _ _ _ h => h) (Or.inl ⟨by rfl, fun w' hw' => by go_simp⟩) hS ?_
      simp only [Act.put, List.setIfInBounds_toArray, List.set_cons_zero, List.set_cons_succ]
      refine wpAnyH_ready (rs := [10]) (by kernel_rfl) (by simp) ?_
      refine AllReadyH.cons rfl (fun K' hK' => ?_) AllReadyH.nil
      go_simp
      refine (rend_any RXd.out).mono ?_
      rintro e v1 ⟨rfl, hw⟩
      rw [hw]
      clear hw v1
      refine hK'.out _ _ hS (fun hS => ?_)
      clear hK' K'
      refine wpAnyH_ready (rs := [12]) (by kernel_rfl) (by simp) ?_
      refine AllReadyH.cons rfl (fun K' hK' => ?_) AllReadyH.nil
      go_simp
      refine (frend_any MXd.out).mono ?_
      rintro e v1 ⟨rfl, hw⟩
      rw [hw]
      clear hw v1
      refine hK'.out _ _ hS (fun hS => ?_)
      clear hK' K'
      refine take_at (i := 13) 89 (v := .bool false) rfl rfl (by kernel_rfl) (by kernel_rfl) (by kernel_rfl) (fun _ _ _ h => h) (Or.inl ⟨by rfl, fun w' hw' => by go_simp⟩) hS ?_
      simp only [Act.put, List.setIfInBounds_toArray, List.set_cons_zero, List.set_cons_succ]
      refine take_at (i := 14) 90 (v := .bool false) rfl rfl (by kernel_rfl) (by kernel_rfl) (by kernel_rfl) (fun _ _ _ h => h) (Or.inl ⟨by rfl, fun w' hw' => by go_simp⟩) hS ?_
      simp only [Act.put, List.setIfInBounds_toArray, List.set_cons_zero, List.set_cons_succ]
      refine wpAnyH_done (by kernel_rfl) ?_ _
      go_wp2_with fail
      go_roundw
      case rel => exact ⟨i + 1, sx, by go_num, by omega, by omega, RXd.out, MXd.out, OX.drew⟩
      case measure => simp [intOf]; omega
    · have hend : i = len ∨ (i < len ∧ i = 60) := by omega
      clear hlt
      rcases hend with hend | ⟨l1, l2⟩
      · have hd4 : decide ((i : Int) < (len : Int)) = false := decide_eq_false (by omega)
        have hd4' : decide (i < len) = false := decide_eq_false (by omega)
        have HEN : Hid _ := hend
        clear hend
        go_wp2_with fail
        refine (rend_any R).mono ?_
        rintro e v1 ⟨rfl, hw⟩
        rw [hw]
        clear hw v1
        go_wp2_with fail
        refine (frend_any M).mono ?_
        rintro e v1 ⟨rfl, hw⟩
        rw [hw]
        clear hw v1
        go_wp2_with fail
        refine (awake_any _).mono ?_
        rintro e w9 ⟨rfl, o9⟩
        go_wp2_with fail
        go_ret
        exact ⟨rfl, (O.trans o9 (fun _ _ h => h.elim)).below (Nat.le_refl _) (fun _ h => h)⟩
      · subst l2
        have hd4 : decide ((60 : Int) < (len : Int)) = true := decide_eq_true (by omega)
        have hd4' : decide (60 < len) = true := decide_eq_true (by omega)
        go_wp2_with fail
        refine (rend_any R).mono ?_
        rintro e v1 ⟨rfl, hw⟩
        rw [hw]
        clear hw v1
        go_wp2_with fail
        refine (frend_any M).mono ?_
        rintro e v1 ⟨rfl, hw⟩
        rw [hw]
        clear hw v1
        go_wp2_with fail
        refine (awake_any _).mono ?_
        rintro e w9 ⟨rfl, o9⟩
        go_wp2_with fail
        go_ret
        exact ⟨rfl, (O.trans o9 (fun _ _ h => h.elim)).below (Nat.le_refl _) (fun _ h => h)⟩

theorem reads_walk (tad : Option Addr) (len0 cap0 : Nat) (bs : List Nat) (a : Option Addr) (len cap1 : Nat) (cs : Nat → CallD) (w : World) (w0 : ArgB w tad len0 cap0 bs) (w1 : ArgC w a len cs) :
    Calls Try.prog 4 #[.slice tad len0 cap0, .slice a len cap1] w fun e w' => e = .returned (.bool true) ∧ Below w.heap.size w w' := by
  obtain ⟨rfl, hlt, hsrc, hb⟩ := w0
  refine reads_nat tad cap0 bs hlt hb a len cap1 cs w hsrc w1.bound (fun w' o i hi => ?_)
  obtain ⟨b, off, e, hb, hc⟩ := w1.at_ i hi
  exact ⟨b, off, e, hb, hc.off o (fun k hk h => by omega)⟩
end Go.Proofs.Ytkjinhbhlcbfdaa
