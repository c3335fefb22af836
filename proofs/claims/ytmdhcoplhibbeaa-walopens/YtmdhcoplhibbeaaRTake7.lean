/- The reference's Take. -/
import Derived.Test.YtmdhcoplhibbeaaRRef7
namespace Go.Proofs.Ytmdhcoplhibbeaa
open Go.RowKit

/-- What the reference's Take leaves. -/
structure RTook (w : World) (bs : List Nat) (e : Ending) (w' : World) : Prop where
  is : ∃ t c, e = .returned (.tuple #[.slice t (tkR bs).length c, .int .i64 ((tkN bs : Nat) : Int), .int .i64 (tkE bs)]) ∧ OwnR w' t c (tkR bs) ∧ (∀ k, blk t = some k → w.heap.size ≤ k) ∧ Off (fun _ => False) w w'
theorem rtook_no {w : World} {bs : List Nat} (k : Int) (hk : k ≠ 0) (h : tkE bs = k) {w' : World} (o : Off (fun _ => False) w w') : RTook w bs (.returned (.tuple #[.slice none 0 0, .int .i64 0, .int .i64 k])) w' := by
  obtain ⟨h1, h2⟩ := tkR_no (l := bs) (by rw [h]; exact hk)
  exact ⟨none, 0, by rw [h1, h2, h]; rfl, by rw [h1]; exact OwnR.nil _, fun k hk => by simp [blk] at hk, o⟩

set_option maxRecDepth 100000 in
set_option maxHeartbeats 1000000 in
theorem rtake_any {w : World} {tad : Option Addr} {cap : Nat} {bs : List Nat} (h : Inp w tad cap bs) (hl : bs.length ≤ 9223372036854775807) :
    Calls Try.prog 30 #[.slice tad bs.length cap] w fun e w' => RTook w bs e w' := by
  by_cases h8 : bs.length < 8
  · have d8 : decide ((bs.length : Int) < 8) = true := decide_eq_true (by omega)
    have e8 : tkE bs = 2 := by rw [tkE, if_pos h8]
    go_enter Try.func30, Try.ntmps30
    go_wp2_with fail
    go_ret3
    exact rtook_no 2 (by decide) e8 (Off.refl _ w)
  have d8 : decide ((bs.length : Int) < 8) = false := decide_eq_false (by omega)
  obtain ⟨t4, s4, i4, b4⟩ := h.drop (k := 4) (by omega)
  replace s4 : ∀ W, (Instr.slice 23 (.slice tad bs.length cap) (some (.int .i64 4)) none none).run Try.prog W = .ok (.slice t4 (bs.drop 4).length (cap - 4)) W := s4
  have l4 : 4 ≤ (bs.drop 4).length := by rw [List.length_drop]; omega
  have hn : num4 bs < 4294967296 := num4_lt h.lt
  have HI : Hid _ := h
  have H4 : Hid (∀ W, Off (fun _ => False) w W → Calls Try.prog 40 #[.slice t4 (bs.drop 4).length (cap - 4)] W fun e w' => e = .returned (.int .u32 ((num4 (bs.drop 4) : Nat) : Int)) ∧ Off (fun _ => False) W w') := fun W o => rnum_any (i4.free o) l4
  have HEn : Hid (tkE bs = if 60000 < num4 bs then 4 else if bs.length - 8 < num4 bs then 2 else if crcL ((bs.drop 8).take (num4 bs)) = num4 (bs.drop 4) then 0 else 3) := by
    show tkE bs = _
    rw [tkE, if_neg h8]
  have HRn : Hid (tkE bs = 0 → tkR bs = (bs.drop 8).take (num4 bs) ∧ tkN bs = num4 bs + 8) := by
    intro e
    rw [tkR, tkN, if_pos e, if_pos e]
    exact ⟨rfl, rfl⟩
  generalize hx4 : num4 (bs.drop 4) = x4 at *
  have l4' : (bs.drop 4).length ≤ bs.length := by rw [List.length_drop]; omega
  generalize bs.drop 4 = d4 at *
  generalize hnn : num4 bs = n at *
  have HNN : Hid _ := hnn
  clear hnn hx4 i4 l4 h b4
  by_cases hbig : 60000 < n
  · have d1 : decide ((60000 : Int) < (n : Int)) = true := decide_eq_true (by omega)
    have HE1 : Hid (tkE bs = 4) := by
      show tkE bs = 4
      rw [HEn.out, if_pos hbig]
    go_enter Try.func30, Try.ntmps30
    go_wp2_with fail
    refine (rnum_any HI.out (by omega)).mono ?_
    rintro e W ⟨rfl, O⟩
    rw [HNN.out]
    have HW : Hid _ := O
    clear O
    go_wp2_with fail
    go_ret3
    exact rtook_no 4 (by decide) HE1.out HW.out
  have d1 : decide ((60000 : Int) < (n : Int)) = false := decide_eq_false (by omega)
  by_cases hsh : bs.length - 8 < n
  · have d2 : decide ((bs.length : Int) - 8 < (n : Int)) = true := decide_eq_true (by omega)
    have HE1 : Hid (tkE bs = 2) := by
      show tkE bs = 2
      rw [HEn.out, if_neg hbig, if_pos hsh]
    go_enter Try.func30, Try.ntmps30
    go_wp2_with fail
    refine (rnum_any HI.out (by omega)).mono ?_
    rintro e W ⟨rfl, O⟩
    rw [HNN.out]
    have HW : Hid _ := O
    clear O
    go_wp2_with fail
    go_ret3
    exact rtook_no 2 (by decide) HE1.out HW.out
  have d2 : decide ((bs.length : Int) - 8 < (n : Int)) = false := decide_eq_false (by omega)
  obtain ⟨t8, s8, ir, b8⟩ := HI.out.mid (k := 8) (n := n) (by omega) .i64 .u32
  obtain ⟨m, hm⟩ : ∃ m : Nat, m = 8 + n := ⟨_, rfl⟩
  rw [← hm] at s8
  have ew : IntKind.u32.wrap (8 + (n : Int)) = (m : Int) := by rw [IntKind.wrap_u32, hm]; omega
  have hm' : m ≤ 60008 := by omega
  clear hm
  replace s8 : ∀ W, (Instr.slice 23 (.slice tad bs.length cap) (some (.int .i64 8)) (some (.int .u32 (m : Int))) none).run Try.prog W = .ok (.slice t8 ((bs.drop 8).take n).length (cap - 8)) W := s8
  have lr : ((bs.drop 8).take n).length = n := by rw [List.length_take, List.length_drop]; omega
  have HEr : Hid (tkE bs = if crcL ((bs.drop 8).take n) = x4 then 0 else 3) := by
    show tkE bs = _
    rw [HEn.out, if_neg hbig, if_neg hsh]
  have HRr : Hid (tkE bs = 0 → tkR bs = (bs.drop 8).take n ∧ tkN bs = n + 8) := HRn.out
  have lr' : ((bs.drop 8).take n).length ≤ 60000 := by omega
  clear lr HEn HRn b8
  generalize (bs.drop 8).take n = rs at *
  have HIR : Hid _ := ir
  clear ir
  generalize hcr : crcL rs = cr at *
  have HC : Hid _ := hcr
  clear hcr
  go_enter Try.func30, Try.ntmps30
  go_wp2_with fail
  refine (rnum_any HI.out (by omega)).mono ?_
  rintro e W ⟨rfl, O⟩
  rw [HNN.out]
  have HW : Hid _ := O
  clear O
  go_upto_region 8 with fail
  refine wp_region_held_drew (S := fun w' => Off (fun _ => False) w w') (by kernel_rfl) HW.out.drew (fun hS => ?_)
  generalize W.drew = W2 at *
  clear HW
  refine take_at (i := 0) 22 (v := .slice tad bs.length cap) rfl rfl (by kernel_rfl) (by kernel_rfl) (by kernel_rfl) (fun _ _ _ h => h) (Or.inl ⟨by rfl, fun w' hw' => by go_simp⟩) hS ?_
  simp only [Act.put, List.setIfInBounds_toArray, List.set_cons_zero, List.set_cons_succ]
  refine take_at (i := 1) 23 (v := .int .u32 (n : Int)) rfl rfl (by kernel_rfl) (by kernel_rfl) (by kernel_rfl) (fun _ _ _ h => h) (Or.inl ⟨by rfl, fun w' hw' => by go_simp⟩) hS ?_
  simp only [Act.put, List.setIfInBounds_toArray, List.set_cons_zero, List.set_cons_succ]
  refine take_at (i := 2) 24 (v := .int .u32 (m : Int)) rfl rfl (by kernel_rfl) (by kernel_rfl) (by kernel_rfl) (fun _ _ _ h => h) (Or.inl ⟨by rfl, fun w' hw' => by go_simp⟩) hS ?_
  simp only [Act.put, List.setIfInBounds_toArray, List.set_cons_zero, List.set_cons_succ]
  refine take_at (i := 3) 25 (v := .slice t8 rs.length (cap - 8)) rfl rfl (by kernel_rfl) (by kernel_rfl) (by kernel_rfl) (fun _ _ _ h => h) (Or.inl ⟨by rfl, fun w' hw' => by go_simp⟩) hS ?_
  simp only [Act.put, List.setIfInBounds_toArray, List.set_cons_zero, List.set_cons_succ]
  refine take_at (i := 5) 27 (v := .slice tad bs.length cap) rfl rfl (by kernel_rfl) (by kernel_rfl) (by kernel_rfl) (fun _ _ _ h => h) (Or.inl ⟨by rfl, fun w' hw' => by go_simp⟩) hS ?_
  simp only [Act.put, List.setIfInBounds_toArray, List.set_cons_zero, List.set_cons_succ]
  refine take_at (i := 6) 28 (v := .slice t4 d4.length (cap - 4)) rfl rfl (by kernel_rfl) (by kernel_rfl) (by kernel_rfl) (fun _ _ _ h => h) (Or.inl ⟨by rfl, fun w' hw' => by go_simp⟩) hS ?_
  simp only [Act.put, List.setIfInBounds_toArray, List.set_cons_zero, List.set_cons_succ]
  refine wpAnyH_ready (rs := [4]) (by kernel_rfl) (by simp) ?_
  refine AllReadyH.cons rfl (fun K' hK' => ?_) AllReadyH.nil
  go_simp
  refine (rcrc_any (HIR.out.free hS) (by omega)).mono ?_
  rintro e W3 ⟨rfl, O3⟩
  refine hK'.out _ _ (hS.trans O3 (fun _ _ h => h)) (fun hS3 => ?_)
  clear hK' K'
  refine wpAnyH_ready (rs := [7]) (by kernel_rfl) (by simp) ?_
  refine AllReadyH.cons rfl (fun K' hK' => ?_) AllReadyH.nil
  go_simp
  refine (H4.out W3 hS3).mono ?_
  rintro e W4 ⟨rfl, O4⟩
  refine hK'.out _ _ (hS3.trans O4 (fun _ _ h => h)) (fun hS4 => ?_)
  clear hK' K'
  have HS4 : Hid _ := hS4
  rw [HC.out]
  clear O3 O4
  by_cases hce : cr = x4
  · have q : ((cr : Int) != (x4 : Int)) = false := by rw [hce]; simp
    have e1 : tkE bs = 0 := by rw [HEr.out, if_pos hce]
    obtain ⟨eR, eN⟩ := HRr.out e1
    have HE1 : Hid _ := e1
    have HER : Hid _ := eR
    have HEN : Hid _ := eN
    clear e1 eR eN
    refine take_at (i := 8) 30 (v := .bool false) rfl rfl (by kernel_rfl) (by kernel_rfl) (by kernel_rfl) (fun _ _ _ h => h) (Or.inl ⟨by rfl, fun w' hw' => by go_simp⟩) hS4 ?_
    simp only [Act.put, List.setIfInBounds_toArray, List.set_cons_zero, List.set_cons_succ]
    refine take_at (i := 9) 21 (v := .bool false) rfl rfl (by kernel_rfl) (by kernel_rfl) (by kernel_rfl) (fun _ _ _ h => h) (Or.inl ⟨by rfl, fun w' hw' => by go_simp⟩) hS4 ?_
    simp only [Act.put, List.setIfInBounds_toArray, List.set_cons_zero, List.set_cons_succ]
    refine wpAnyH_done (by kernel_rfl) ?_ _
    clear q hce
    go_wp2_with (at_builtin; refine wpList_app rfl (.const (.slice none 0 0)) (.tmp 34) rfl none 0 [] rfl (OwnR.nil _) t8 (cap - 8) rs rfl (HIR.out.free HS4.out).src (by simp; omega) ?_; intro t5 c5 W5 y5 hy5 own5 off5 at5)
    go_ret3
    have e5 : y5 = rs := by rw [hy5.out, List.nil_append]
    rw [e5] at own5
    have s4 := HS4.out.size
    have O5 : Off (fun _ => False) W4 W5 := off5.mono (fun _ _ h => by simp [blk] at h)
    have lo5 : ∀ k, blk t5 = some k → w.heap.size ≤ k := fun k hk => by
      rcases at5 with a | a
      · rw [a] at hk
        simp [blk] at hk
      · rw [a] at hk
        simp at hk
        omega
    refine ⟨t5, c5, ?_, by rw [HER.out]; exact own5, lo5, HS4.out.trans O5 (fun _ _ h => h)⟩
    rw [HER.out, HEN.out, HE1.out, e5]
    rfl
  · have q : ((cr : Int) != (x4 : Int)) = true := by simp; omega
    have e1 : tkE bs = 3 := by rw [HEr.out, if_neg hce]
    have HE1 : Hid _ := e1
    clear e1
    refine take_at (i := 8) 30 (v := .bool true) rfl rfl (by kernel_rfl) (by kernel_rfl) (by kernel_rfl) (fun _ _ _ h => h) (Or.inl ⟨by rfl, fun w' hw' => by go_simp⟩) hS4 ?_
    simp only [Act.put, List.setIfInBounds_toArray, List.set_cons_zero, List.set_cons_succ]
    refine take_at (i := 9) 21 (v := .bool true) rfl rfl (by kernel_rfl) (by kernel_rfl) (by kernel_rfl) (fun _ _ _ h => h) (Or.inl ⟨by rfl, fun w' hw' => by go_simp⟩) hS4 ?_
    simp only [Act.put, List.setIfInBounds_toArray, List.set_cons_zero, List.set_cons_succ]
    refine wpAnyH_done (by kernel_rfl) ?_ _
    clear q hce
    go_wp2_with fail
    go_ret3
    exact rtook_no 3 (by decide) HE1.out HS4.out
end Go.Proofs.Ytmdhcoplhibbeaa
