/- Items of several texts. -/
import Derived.Lib.Bytealg
import Derived.Lib.BytesEntry
import Derived.Laws.Externs
import Derived.Test.YtmeclfgehpbjlaaYMay
namespace Go.Proofs.Ytmeclfgehpbjlaa
open Go.RowKit
theorem bclone_any (t : Option Addr) (c : Nat) (bs : List Nat) (hb : bs.length ≤ 140737488355328) (w : World) (hs : Src w t c bs) :
  Calls Try.prog 52 #[.slice t bs.length c] w fun e w' => ∃ t' c', e = .returned (.slice t' bs.length c') ∧ OwnR w' t' c' bs ∧ (∀ k, blk t' = some k → w.heap.size ≤ k) ∧ Off (fun _ => False) w w' := by
 have hq := eql_nil
 rcases hs.is with ⟨rfl, rfl, rfl⟩ | ⟨ad, rfl, -⟩
 ·go_enter Try.func52, Try.ntmps52
  go_wp2
  go_ret
  exact ⟨none, 0, rfl, OwnR.nil w, fun k hk => by simp [blk] at hk, Off.refl _ w⟩
 ·have HS : Hid (Src w (some ad) c bs) := hs
  clear hs
  have L0 : OwnR (w.alloc (.cells #[] 5)) (some ⟨w.heap.size, 0, none⟩) 0 [] := ⟨World.ownsRow_lit w #[] 0 (Nat.zero_le _) (by decide) rfl⟩
  have O0 : Off (fun _ => False) w (w.alloc (.cells #[] 5)) := (Off.refl _ w).alloc _
  go_enter Try.func52, Try.ntmps52
  go_wp2_with (at_builtin; refine wpList_app rfl (.tmp 5) (.tmp 6) rfl _ 0 [] rfl L0 _ c bs rfl (HS.out.off O0 (fun _ _ _ h => h)) (by simpa using hb) ?_; intro t' c' w' ys hys own' off' at')
  go_ret
  obtain rfl : ys = bs := hys.out
  refine ⟨t', c', rfl, own', fun k hk => ?_, O0.trans off' (fun i hi hb => ?_)⟩
  ·rcases at' with a | a
   ·rw [a] at hk
    simp [blk] at hk
    omega
   ·rw [a] at hk
    simp at hk
    omega
  ·simp [blk] at hb
   omega
def zeroV : V := ⟨0, 0, none, 0, [], false⟩
end Go.Proofs.Ytmeclfgehpbjlaa
