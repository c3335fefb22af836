/- Items of several texts. -/
import Derived.Test.YtmjmgdbhmbjmaabACn22
namespace Go.Proofs.Ytmjmgdbhmbjmaab
set_option maxRecDepth 100000
open Go.RowKit
theorem Off.drewN {D : Nat → Prop} {a w : World} (h : Off D a w) (n : Nat) : Off D a (w.drewN n) := ⟨h.os, h.tape, h.output, h.size, h.block⟩
theorem Cnt.drewN {b : Nat} {m : Int} {f : Nat → Bool} {w : World} (h : Cnt b m f w) (n : Nat) : Cnt b m f (w.drewN n) := ⟨⟨h.cel.is⟩⟩
set_option maxHeartbeats 1000000 in
theorem has_no {x : Int} (hx : okN x = false) (b : Nat) (w : World) : Calls Try.prog 21 #[.pointer (some ⟨b, 0, none⟩), .int .i64 x] w fun e w' => e = .returned (.bool false) ∧ w' = w := by
 have HN : Hid _ := named_any x w
 rw [hx] at HN
 clear hx
 go_enter Try.func21, Try.ntmps21
 go_wp2_with fail
 refine Calls.mono HN.out ?_
 rintro e w1 ⟨rfl, hw⟩
 rw [hw]
 clear hw w1 HN
 go_wp2_with fail
 go_ret
 exact ⟨rfl, rfl⟩
set_option maxHeartbeats 1000000 in
theorem has_at {b : Nat} {m : Int} {f : Nat → Bool} {w : World} (h : Cnt b m f w) {n : Nat} (hn : n < 8) : Calls Try.prog 21 #[.pointer (some ⟨b, 0, none⟩), .int .i64 (n : Int)] w fun e w' => e = .returned (.bool (f n)) ∧ w' = w := by
 have HN : Hid _ := named_any (n : Int) w
 rw [okN_of hn] at HN
 have ha := at9 b hn
 have hc := h.at_ hn
 clear h hn
 go_enter Try.func21, Try.ntmps21
 go_wp2_with fail
 refine Calls.mono HN.out ?_
 rintro e w1 ⟨rfl, hw⟩
 rw [hw]
 clear hw w1 HN
 go_wp2_with fail
 go_ret
 exact ⟨rfl, rfl⟩
set_option maxHeartbeats 1000000 in
theorem add_none {x : Int} (hx : okN x = false) (b : Nat) (w : World) : Calls Try.prog 22 #[.pointer (some ⟨b, 0, none⟩), .int .i64 x] w fun e w' => e = .returned (.bool false) ∧ w' = w := by
 have HN : Hid _ := named_any x w
 rw [hx] at HN
 clear hx
 go_enter Try.func22, Try.ntmps22
 go_wp2_with fail
 refine Calls.mono HN.out ?_
 rintro e w1 ⟨rfl, hw⟩
 rw [hw]
 clear hw w1 HN
 go_wp2_with fail
 go_ret
 exact ⟨rfl, rfl⟩
set_option maxHeartbeats 1000000 in
theorem add_twice {b : Nat} {m : Int} {f : Nat → Bool} {w : World} (h : Cnt b m f w) {n : Nat} (hn : n < 8) (hf : f n = true) : Calls Try.prog 22 #[.pointer (some ⟨b, 0, none⟩), .int .i64 (n : Int)] w fun e w' => e = .returned (.bool false) ∧ w' = w := by
 have HN : Hid _ := named_any (n : Int) w
 rw [okN_of hn] at HN
 have ha := at9 b hn
 have hc := h.at_ hn
 rw [hf] at hc
 clear h hn hf
 go_enter Try.func22, Try.ntmps22
 go_wp2_with fail
 refine Calls.mono HN.out ?_
 rintro e w1 ⟨rfl, hw⟩
 rw [hw]
 clear hw w1 HN
 go_wp2_with fail
 go_ret
 exact ⟨rfl, rfl⟩
set_option maxHeartbeats 1000000 in
theorem add_new {b : Nat} {m : Int} {f : Nat → Bool} {w : World} (h : Cnt b m f w) {n : Nat} (hn : n < 8) (hf : f n = false) : Calls Try.prog 22 #[.pointer (some ⟨b, 0, none⟩), .int .i64 (n : Int)] w fun e w' => e = .returned (.bool (decide ((cnt f 8 : Int) + 1 = m))) ∧ Cnt b m (ans f n) w' ∧ Off (fun c => c = b) w w' := by
 have HN : Hid _ := named_any (n : Int) w
 rw [okN_of hn] at HN
 have ha := at9 b hn
 have hc := h.at_ hn
 have fr := h.cel.free (n + 1)
 rw [hf] at hc
 have HC : Hid (Cnt b m (ans f n) (w.setCell ⟨b, n + 1, none⟩ (.bool true))) := h.set hn
 have HO : Hid (Off (fun c => c = b) w (w.setCell ⟨b, n + 1, none⟩ (.bool true))) := (Off.refl (fun c => c = b) w).setCell (p := ⟨b, n + 1, none⟩) (.inl rfl) _
 have HP : Hid (cnt (ans f n) 8 = cnt f 8 + 1) := cnt_ans hf hn
 clear h hn hf
 go_enter Try.func22, Try.ntmps22
 go_wp2_with fail
 refine Calls.mono HN.out ?_
 rintro e w1 ⟨rfl, hw⟩
 rw [hw]
 clear hw w1 HN
 go_wp2_with fail
 generalize w.setCell ⟨b, n + 1, none⟩ (.bool true) = v at *
 clear fr hc ha
 have hm := HC.out.need
 go_quiet ((go_at_call 30; refine Calls.quiet_of_same (len_any (HC.out.drewN _))))
 go_wp2_with fail
 go_ret
 rw [HP.out]
 exact ⟨rfl, HC.out.drewN _, HO.out.drewN _⟩
theorem has_any {b : Nat} {m : Int} {f : Nat → Bool} {w : World} (h : Cnt b m f w) (x : Int) : Calls Try.prog 21 #[.pointer (some ⟨b, 0, none⟩), .int .i64 x] w fun e w' => e = .returned (.bool (okN x && f x.toNat)) ∧ w' = w := by
 by_cases h1 : okN x = true
 ·obtain ⟨n, hn, rfl⟩ := okN_nat h1
  rw [h1, Int.toNat_natCast]
  exact has_at h hn
 ·simp only [Bool.not_eq_true] at h1
  rw [h1]
  exact has_no h1 b w
def adds (f : Nat → Bool) (x : Int) : Nat → Bool := if okN x then ans f x.toNat else f
def addB (m : Int) (f : Nat → Bool) (x : Int) : Bool := okN x && (!f x.toNat && decide ((cnt f 8 : Int) + 1 = m))
theorem ans_old {f : Nat → Bool} {n : Nat} (h : f n = true) : ans f n = f := funext fun j => by
 by_cases e : j = n
 ·subst e; rw [ans_same, h]
 ·exact ans_ne _ e
theorem add_any {b : Nat} {m : Int} {f : Nat → Bool} {w : World} (h : Cnt b m f w) (x : Int) : Calls Try.prog 22 #[.pointer (some ⟨b, 0, none⟩), .int .i64 x] w fun e w' => e = .returned (.bool (addB m f x)) ∧ Cnt b m (adds f x) w' ∧ Off (fun c => c = b) w w' := by
 unfold addB adds
 split
 ·rename_i h1
  obtain ⟨n, hn, e⟩ := okN_nat h1
  rw [h1, e, Int.toNat_natCast]
  cases hf : f n
  ·exact (add_new h hn hf).mono fun e w' h => h
  ·rw [ans_old hf]
   exact (add_twice h hn hf).mono fun e w' h2 => ⟨h2.1, by rw [h2.2]; exact h, by rw [h2.2]; exact Off.refl _ _⟩
 ·rename_i h1
  simp only [Bool.not_eq_true] at h1
  rw [h1]
  exact (add_none h1 b w).mono fun e w' h2 => ⟨h2.1, by rw [h2.2]; exact h, by rw [h2.2]; exact Off.refl _ _⟩
end Go.Proofs.Ytmjmgdbhmbjmaab
