/- The contracts of parts and Clone. -/
import Derived.Test.YtgnchloclkjalaaWBit
namespace Go.Proofs.Ytgnchloclkjalaa
open Go.RowKit

set_option maxRecDepth 100000 in
set_option maxHeartbeats 1000000 in
theorem parts_any (n : Nat) (hn : n < 18446744073709551616) (w : World) :
    Calls Try.prog 31 #[.int .u64 (n : Int)] w fun e w' => ∃ t c, e = .returned (.slice t (numB n).length c) ∧ OwnR w' t c (numB n) ∧ (∀ k, blk t = some k → w.heap.size ≤ k) ∧ Off (fun _ => False) w w' := by
  have hten := numB_ten hn
  go_enter Try.func31, Try.ntmps31
  go_wp2_with fail
  go_loopw [0, 3] (fun x o wr => ∃ (m : Nat) (bs : List Nat) (t : Option Addr) (c : Nat), x = .int .u64 (m : Int) ∧ o = .slice t bs.length c ∧ m < 18446744073709551616 ∧ bs ++ numB m = numB n ∧ OwnR wr t c bs ∧ (∀ k, blk t = some k → w.heap.size ≤ k) ∧ Off (fun _ => False) w wr) (fun x _ _ => (intOf x).toNat)
  case atStart => exact ⟨n, [], none, 0, rfl, rfl, hn, rfl, OwnR.nil w, fun k hk => by simp [blk] at hk, Off.refl _ w⟩
  case round =>
    obtain ⟨m, bs, t, c, rfl, rfl, hm, heq, own, hblk, O⟩ := hrel
    have hlen : bs.length + 1 ≤ 10 := by
      have := congrArg List.length heq
      have h1 := numB_pos m
      simp at this
      omega
    have OW : Hid _ := own
    have HB : Hid _ := hblk
    have HE : Hid _ := heq
    clear own hblk heq
    by_cases h : m < 128
    · have hd : decide ((128 : Int) ≤ (m : Int)) = false := by simp; omega
      have e2 : (m : Int) % 256 = (m : Int) := by omega
      go_wp2_with (at_builtin; refine wpList_app rfl (.tmp 14) (.tmp 17) rfl t c bs rfl (OW.out.off ((Off.refl (fun _ => False) _).alloc _) (fun _ _ _ h => h)) _ 1 [m] rfl (src_new _ _) (by simp; omega) ?_; intro t' c' w' ys hys own' off' at')
      go_ret
      rw [numB_small h] at HE
      refine ⟨t', c', by rw [← HE.out, ← hys.out]; rfl, by rw [← HE.out, ← hys.out]; exact own', fun k hk => ?_, (O.alloc _).trans off' (fun i hi hb => ?_)⟩
      · rcases at' with a | a
        · exact HB.out k (a ▸ hk)
        · rw [a] at hk
          have := O.size
          simp at hk
          omega
      · have := HB.out i hb
        omega
    · have hd : decide ((128 : Int) ≤ (m : Int)) = true := by simp; omega
      obtain ⟨y, hy⟩ : ∃ y, y = m % 128 + 128 := ⟨_, rfl⟩
      have e2 : bits .or .u8 ((m : Int) % 256) 128 = (y : Int) := by rw [hy]; exact or128 m
      have HY : Hid _ := hy
      clear hy
      go_wp2_with (at_builtin; refine wpList_app rfl (.tmp 6) (.tmp 10) rfl t c bs rfl (OW.out.off ((Off.refl (fun _ => False) _).alloc _) (fun _ _ _ h => h)) _ 1 [y] rfl (src_new _ _) (by simp; omega) ?_; intro t' c' w' ys hys own' off' at')
      go_roundw
      case rel =>
        refine ⟨m / 128, ys, t', c', by go_num, rfl, by omega, ?_, own', fun k hk => ?_, (O.alloc _).trans off' (fun i hi hb => ?_)⟩
        · rw [← HE.out, hys.out, numB_big h, HY.out]
          simp
        · rcases at' with a | a
          · exact HB.out k (a ▸ hk)
          · rw [a] at hk
            have := O.size
            simp at hk
            omega
        · have := HB.out i hb
          omega
      case measure => simp [intOf]; omega

theorem clone_any (t : Option Addr) (c : Nat) (bs : List Nat) (hb : bs.length ≤ 140737488355328) (w : World) (hs : Src w t c bs) :
    Calls Try.prog 26 #[.slice t bs.length c] w fun e w' => ∃ t' c', e = .returned (.slice t' bs.length c') ∧ OwnR w' t' c' bs ∧ (∀ k, blk t' = some k → w.heap.size ≤ k) ∧ Off (fun _ => False) w w' := by
  have hq := eql_nil
  rcases hs.is with ⟨rfl, rfl, rfl⟩ | ⟨ad, rfl, -⟩
  · go_enter Try.func26, Try.ntmps26
    go_wp2
    go_ret
    exact ⟨none, 0, rfl, OwnR.nil w, fun k hk => by simp [blk] at hk, Off.refl _ w⟩
  · have HS : Hid (Src w (some ad) c bs) := hs
    clear hs
    have L0 : OwnR (w.alloc (.cells #[] 5)) (some ⟨w.heap.size, 0, none⟩) 0 [] := ⟨World.ownsRow_lit w #[] 0 (Nat.zero_le _) (by decide) rfl⟩
    have O0 : Off (fun _ => False) w (w.alloc (.cells #[] 5)) := (Off.refl _ w).alloc _
    go_enter Try.func26, Try.ntmps26
    go_wp2_with (at_builtin; refine wpList_app rfl (.tmp 5) (.tmp 6) rfl _ 0 [] rfl L0 _ c bs rfl (HS.out.off O0 (fun _ _ _ h => h)) (by simpa using hb) ?_; intro t' c' w' ys hys own' off' at')
    go_ret
    obtain rfl : ys = bs := hys.out
    refine ⟨t', c', rfl, own', fun k hk => ?_, O0.trans off' (fun i hi hb => ?_)⟩
    · rcases at' with a | a
      · rw [a] at hk
        simp [blk] at hk
        omega
      · rw [a] at hk
        simp at hk
        omega
    · simp [blk] at hb
      omega
end Go.Proofs.Ytgnchloclkjalaa
