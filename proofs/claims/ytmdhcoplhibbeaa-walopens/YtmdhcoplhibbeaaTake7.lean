/- frame.take, frame.Take. -/
import Derived.Test.YtmdhcoplhibbeaaPut7
namespace Go.Proofs.Ytmdhcoplhibbeaa
open Go.RowKit

/-- What take leaves. -/
structure Took (E : Nat → Prop) (b : Nat) (w : World) (bs : List Nat) (e : Ending) (w' : World) : Prop where
  is : ∃ t c, e = .returned (.tuple #[.slice t (tkR bs).length c, .int .i64 ((tkN bs : Nat) : Int), .int .i64 (tkE bs)]) ∧ OwnR w' t c (tkR bs) ∧ (∀ k, blk t = some k → w.heap.size ≤ k) ∧ ∃ E', Tbl E' b w' ∧ (∀ c, E' c → E c ∨ w.heap.size ≤ c) ∧ Off (fun c => c = b) w w'
theorem Took.no {E : Nat → Prop} {b : Nat} {w : World} {bs : List Nat} (k : Int) (hk : k ≠ 0) (h : tkE bs = k) {w' : World} {E' : Nat → Prop} (T : Tbl E' b w') (hE : ∀ c, E' c → E c ∨ w.heap.size ≤ c) (o : Off (fun c => c = b) w w') :
    Took E b w bs (.returned (.tuple #[.slice none 0 0, .int .i64 0, .int .i64 k])) w' := by
  obtain ⟨h1, h2⟩ := tkR_no (l := bs) (by rw [h]; exact hk)
  exact ⟨none, 0, by rw [h1, h2, h]; rfl, by rw [h1]; exact OwnR.nil _, fun k hk => by simp [blk] at hk, E', T, hE, o⟩

set_option maxRecDepth 100000 in
set_option maxHeartbeats 1000000 in
theorem take_any {E : Nat → Prop} {b : Nat} {w : World} (ht : Tbl E b w) {tad : Option Addr} {cap : Nat} {bs : List Nat} (h : Inp w tad cap bs) (hb : blk tad ≠ some b ∨ bs = []) (hl : bs.length ≤ 9223372036854775807) :
    Calls Try.prog 42 #[.pointer (some ⟨b, 0, none⟩), .slice tad bs.length cap] w fun e w' => Took E b w bs e w' := by
  by_cases h8 : bs.length < 8
  · have d8 : decide ((bs.length : Int) < 8) = true := decide_eq_true (by omega)
    have e8 : tkE bs = 2 := by rw [tkE, if_pos h8]
    go_enter Try.func42, Try.ntmps42
    go_wp2_with fail
    go_ret3
    exact .no 2 (by decide) e8 ht (fun _ h => .inl h) (Off.refl _ w)
  have d8 : decide ((bs.length : Int) < 8) = false := decide_eq_false (by omega)
  have hnb : blk tad ≠ some b := by
    rcases hb with h | rfl
    · exact h
    · simp at h8
  obtain ⟨t8, s8, i8, b8⟩ := h.drop (k := 8) (by omega)
  replace s8 : ∀ W, (Instr.slice 23 (.slice tad bs.length cap) (some (.int .i64 8)) none none).run Try.prog W = .ok (.slice t8 (bs.drop 8).length (cap - 8)) W := s8
  obtain ⟨t4, s4, i4, b4⟩ := h.drop (k := 4) (by omega)
  replace s4 : ∀ W, (Instr.slice 23 (.slice tad bs.length cap) (some (.int .i64 4)) none none).run Try.prog W = .ok (.slice t4 (bs.drop 4).length (cap - 4)) W := s4
  have l8 : (bs.drop 8).length + 8 = bs.length := by rw [List.length_drop]; omega
  have l4 : 4 ≤ (bs.drop 4).length := by rw [List.length_drop]; omega
  have hn : num4 bs < 4294967296 := num4_lt h.lt
  have HEn : Hid (tkE bs = if 60000 < num4 bs then 4 else if (bs.drop 8).length < num4 bs then 2 else if crcL ((bs.drop 8).take (num4 bs)) = num4 (bs.drop 4) then 0 else 3) := by
    show tkE bs = _
    rw [tkE, if_neg h8, show bs.length - 8 = (bs.drop 8).length by omega]
  have HRn : Hid (tkE bs = 0 → tkR bs = (bs.drop 8).take (num4 bs) ∧ tkN bs = num4 bs + 8) := by
    intro e
    rw [tkR, tkN, if_pos e, if_pos e]
    exact ⟨rfl, rfl⟩
  have HQ : Hid (∀ m, Calls Try.prog 47 #[.slice tad bs.length cap] (w.drewN m) fun e w' => e = .returned (.int .u32 ((num4 bs : Nat) : Int)) ∧ ∃ k, w' = (w.drewN m).drewN k) := fun m => number_q (h.free ((Off.refl _ w).drewN m)) (by omega)
  have H4 : Hid (∀ W, Off (fun c => c = b) w W → Calls Try.prog 47 #[.slice t4 (bs.drop 4).length (cap - 4)] W fun e w' => e = .returned (.int .u32 ((num4 (bs.drop 4) : Nat) : Int)) ∧ Off (fun _ => False) W w') := fun W o => number_any (i4.off o (fun c _ e h => hnb (by rw [← b4, e, h]))) l4
  generalize bs.drop 8 = ds at *
  generalize hx4 : num4 (bs.drop 4) = x4 at *
  have l4' : (bs.drop 4).length ≤ bs.length := by rw [List.length_drop]; omega
  generalize bs.drop 4 = d4 at *
  generalize num4 bs = n at *
  clear hx4 i4 l4 h hb
  have l8' : ds.length ≤ bs.length := by omega
  have HL8 : Hid _ := l8
  clear l8
  have HT : Hid _ := ht
  have HI8 : Hid _ := i8
  have HB8 : Hid _ := b8
  clear ht i8 b8 b4
  by_cases hbig : 60000 < n
  · have d1 : decide ((60000 : Int) < (n : Int)) = true := decide_eq_true (by omega)
    have e1 : tkE bs = 4 := by rw [HEn.out, if_pos hbig]
    have HE1 : Hid _ := e1
    clear e1
    go_enter Try.func42, Try.ntmps42
    go_wp2_with fail
    go_quiet (first | (go_at_call 47; refine Calls.quiet_of (HQ.out _)))
    go_wp2_with fail
    go_ret3
    exact .no 4 (by decide) HE1.out (HT.out.free ((Off.refl _ w).drewN _)) (fun _ h => .inl h) ((Off.refl _ w).drewN _)
  have d1 : decide ((60000 : Int) < (n : Int)) = false := decide_eq_false (by omega)
  by_cases hsh : ds.length < n
  · have d2 : decide ((ds.length : Int) < (n : Int)) = true := decide_eq_true (by omega)
    have e1 : tkE bs = 2 := by rw [HEn.out, if_neg hbig, if_pos hsh]
    have HE1 : Hid _ := e1
    clear e1
    go_enter Try.func42, Try.ntmps42
    go_wp2_with fail
    go_quiet (first | (go_at_call 47; refine Calls.quiet_of (HQ.out _)))
    go_wp2_with fail
    go_ret3
    exact .no 2 (by decide) HE1.out (HT.out.free ((Off.refl _ w).drewN _)) (fun _ h => .inl h) ((Off.refl _ w).drewN _)
  have d2 : decide ((ds.length : Int) < (n : Int)) = false := decide_eq_false (by omega)
  obtain ⟨sr, ir⟩ := HI8.out.take (k := n) (by omega) .u32
  have lr : (ds.take n).length = n := by rw [List.length_take]; omega
  have HEr : Hid (tkE bs = if crcL (ds.take n) = x4 then 0 else 3) := by
    show tkE bs = _
    rw [HEn.out, if_neg hbig, if_neg hsh]
  have HRr : Hid (tkE bs = 0 → tkR bs = ds.take n ∧ tkN bs = (ds.take n).length + 8) := by
    intro e
    rw [lr]
    exact HRn.out e
  have lr' : (ds.take n).length ≤ 60000 := by omega
  clear lr HEn HRn
  generalize ds.take n = rs at *
  have HIR : Hid _ := ir
  clear ir
  generalize hcr : crcL rs = cr at *
  have HC : Hid _ := hcr
  clear hcr
  go_enter Try.func42, Try.ntmps42
  go_wp2_with fail
  go_quiet (first | (go_at_call 47; refine Calls.quiet_of (HQ.out _)))
  have HW : Hid (Off (fun c => c = b) w (w.drewN nq)) := (Off.refl _ w).drewN nq
  have HT1 : Hid _ := HT.out.free ((Off.refl _ w).drewN nq)
  generalize w.drewN nq = W at *
  go_upto_region 9 with fail
  refine wp_region_held_drew (S := fun w' => Off (fun c => c = b) w w') (by kernel_rfl) HW.out.drew (fun hS => ?_)
  have HT2 : Hid _ := HT1.out.free ((Off.refl _ W).drew)
  generalize W.drew = W2 at *
  clear HW HT1
  refine take_at (i := 0) 27 (v := .pointer (some ⟨b, 0, none⟩)) rfl rfl (by kernel_rfl) (by kernel_rfl) (by kernel_rfl) (fun _ _ _ h => h) (Or.inl ⟨by rfl, fun w' hw' => by go_simp⟩) hS ?_
  simp only [Act.put, List.setIfInBounds_toArray, List.set_cons_zero, List.set_cons_succ]
  refine take_at (i := 1) 28 (v := .slice t8 rs.length (cap - 8)) rfl rfl (by kernel_rfl) (by kernel_rfl) (by kernel_rfl) (fun _ _ _ h => h) (Or.inl ⟨by rfl, fun w' hw' => by go_simp⟩) hS ?_
  simp only [Act.put, List.setIfInBounds_toArray, List.set_cons_zero, List.set_cons_succ]
  refine take_at (i := 3) 30 (v := .slice tad bs.length cap) rfl rfl (by kernel_rfl) (by kernel_rfl) (by kernel_rfl) (fun _ _ _ h => h) (Or.inl ⟨by rfl, fun w' hw' => by go_simp⟩) hS ?_
  simp only [Act.put, List.setIfInBounds_toArray, List.set_cons_zero, List.set_cons_succ]
  refine take_at (i := 4) 31 (v := .slice t4 d4.length (cap - 4)) rfl rfl (by kernel_rfl) (by kernel_rfl) (by kernel_rfl) (fun _ _ _ h => h) (Or.inl ⟨by rfl, fun w' hw' => by go_simp⟩) hS ?_
  simp only [Act.put, List.setIfInBounds_toArray, List.set_cons_zero, List.set_cons_succ]
  refine wpAnyH_ready (rs := [2]) (by kernel_rfl) (by simp) ?_
  refine AllReadyH.cons rfl (fun K' hK' => ?_) AllReadyH.nil
  go_simp
  refine (sum_tbl HT2.out (HIR.out.off hS (fun c _ e h => hnb (by rw [← HB8.out, e, h]))) (fun _ => .inl (by rw [HB8.out]; exact hnb)) (by omega)).mono ?_
  rintro e W3 ⟨rfl, E3, T3, hE3, O3⟩
  refine hK'.out _ _ (hS.trans O3 (fun _ _ h => h)) (fun hS3 => ?_)
  clear hK' K'
  refine wpAnyH_ready (rs := [5]) (by kernel_rfl) (by simp) ?_
  refine AllReadyH.cons rfl (fun K' hK' => ?_) AllReadyH.nil
  go_simp
  refine (H4.out W3 hS3).mono ?_
  rintro e W4 ⟨rfl, O4⟩
  refine hK'.out _ _ (hS3.trans O4 (fun _ _ h => h.elim)) (fun hS4 => ?_)
  clear hK' K'
  have T4 : Hid _ := T3.free O4
  have hE4 : Hid (∀ c, E3 c → E c ∨ w.heap.size ≤ c) := fun c hc => by
    have := hS.size
    rcases hE3 c hc with h | h
    · exact .inl h
    · exact .inr (by omega)
  have HS4 : Hid _ := hS4
  rw [HC.out]
  clear O3 O4 T3 hE3
  by_cases hce : cr = x4
  · have q : ((cr : Int) != (x4 : Int)) = false := by rw [hce]; simp
    have e1 : tkE bs = 0 := by rw [HEr.out, if_pos hce]
    obtain ⟨eR, eN⟩ := HRr.out e1
    have HE1 : Hid _ := e1
    have HER : Hid _ := eR
    have HEN : Hid _ := eN
    clear e1 eR eN
    refine take_at (i := 6) 33 (v := .bool false) rfl rfl (by kernel_rfl) (by kernel_rfl) (by kernel_rfl) (fun _ _ _ h => h) (Or.inl ⟨by rfl, fun w' hw' => by go_simp⟩) hS4 ?_
    simp only [Act.put, List.setIfInBounds_toArray, List.set_cons_zero, List.set_cons_succ]
    refine wpAnyH_done (by kernel_rfl) ?_ _
    clear q hce
    go_wp2_with fail
    refine (bclone_any t8 (cap - 8) rs (by omega) W4 (HIR.out.off HS4.out (fun c _ e h => hnb (by rw [← HB8.out, e, h]))).src).mono ?_
    rintro e W5 ⟨t, c, rfl, own, fr, O5⟩
    go_wp2_with fail
    go_ret3
    have s4 := HS4.out.size
    refine ⟨t, c, ?_, by rw [HER.out]; exact own, fun k hk => by have := fr k hk; omega, E3, T4.out.free O5, hE4.out, HS4.out.trans O5 (fun _ _ h => h.elim)⟩
    rw [HER.out, HEN.out, HE1.out]
    simp [Int.add_comm]
  · have q : ((cr : Int) != (x4 : Int)) = true := by simp; omega
    have e1 : tkE bs = 3 := by rw [HEr.out, if_neg hce]
    have HE1 : Hid _ := e1
    clear e1
    refine take_at (i := 6) 33 (v := .bool true) rfl rfl (by kernel_rfl) (by kernel_rfl) (by kernel_rfl) (fun _ _ _ h => h) (Or.inl ⟨by rfl, fun w' hw' => by go_simp⟩) hS4 ?_
    simp only [Act.put, List.setIfInBounds_toArray, List.set_cons_zero, List.set_cons_succ]
    refine wpAnyH_done (by kernel_rfl) ?_ _
    clear q hce
    go_wp2_with fail
    go_ret3
    exact .no 3 (by decide) HE1.out T4.out hE4.out HS4.out
end Go.Proofs.Ytmdhcoplhibbeaa
