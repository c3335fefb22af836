/- The walk of TallyParts. -/
import Derived.Test.YtahjkndbjobcjaaRefuses
namespace Go.Proofs.Ytahjkndbjobcjaa
open Go.RowKit

theorem mask40 (a : Int) : 0 ≤ bits .and .i64 a 1099511627775 ∧ bits .and .i64 a 1099511627775 ≤ 1099511627775 := by
  have hx : (BitVec.ofInt 64 a).toNat &&& (BitVec.ofInt 64 1099511627775).toNat ≤ 1099511627775 := by
    refine Nat.le_trans Nat.and_le_right ?_
    decide
  have e : bits .and .i64 a 1099511627775 = IntKind.i64.wrap ((BitVec.ofInt 64 a &&& BitVec.ofInt 64 1099511627775).toNat : Int) := rfl
  rw [e, BitVec.toNat_and]
  generalize (BitVec.ofInt 64 a).toNat &&& (BitVec.ofInt 64 1099511627775).toNat = z at *
  simp [IntKind.wrap, IntKind.bits, IntKind.signed]
  omega

/-- All counters but that at block b are as they were. -/
def Kept (b : Nat) (w w' : World) : Prop := ∀ c k l, c ≠ b → Tal c k l w → Tal c k l w'

theorem new_some {W w : World} (hx : Ext W w) (x : Int) (h1 : x ≤ 9223372036854775807) :
    Calls Try.prog 9 #[.int .i64 x] w fun e w' => ∃ c : Nat, e = .returned (.pointer (some ⟨c, 0, none⟩)) ∧ w.heap.size ≤ c ∧ Tal c 0 (max 0 x) w' ∧ Ext W w' ∧ Kept c w w' := by
  refine (new_any x w).mono ?_
  rintro e w' ⟨rfl, rfl⟩
  exact ⟨_, rfl, Nat.le_refl _, made_tal _ w (by omega) (by omega), hx.made _, fun _ _ _ _ h => made_other h⟩

theorem add_some {W w : World} (hx : Ext W w) (b : Nat) (n m x : Int) (hb : W.heap.size ≤ b) (h : Tal b n m w) :
    Calls Try.prog 10 #[.pointer (some ⟨b, 0, none⟩), .int .i64 x] w fun e w' => ∃ (v : Int) (r : Bool), e = .returned (.tuple #[.int .i64 v, .bool r]) ∧ Tal b v m w' ∧ Ext W w' ∧ Kept b w w' ∧
      ((r = true ∧ 0 ≤ x ∧ x ≤ m - n ∧ v ≤ n + x ∧ n + x ≤ v) ∨ (r = false ∧ (x < 0 ∨ m - n < x) ∧ v ≤ n ∧ n ≤ v)) := by
  have l1 := h.low
  have l2 := h.le
  by_cases hc : 0 ≤ x ∧ x ≤ m - n
  · refine (add_yes b n m x w h hc.1 hc.2).mono ?_
    rintro e w' ⟨rfl, rfl⟩
    exact ⟨n + x, true, rfl, h.put _ (by omega) (by omega), hx.put hb _, fun _ _ _ hne t => t.other _ hne.symm, .inl ⟨rfl, hc.1, hc.2, Int.le_refl _, Int.le_refl _⟩⟩
  · refine (add_no b n m x w h (by omega)).mono ?_
    rintro e w' ⟨rfl, rfl⟩
    exact ⟨n, false, rfl, h, hx, fun _ _ _ _ t => t, .inr ⟨rfl, by omega, Int.le_refl _, Int.le_refl _⟩⟩

theorem take_some {W w : World} (hx : Ext W w) (b : Nat) (n m x : Int) (hb : W.heap.size ≤ b) (h : Tal b n m w) (h0 : 0 ≤ x) (h1 : x ≤ n) :
    Calls Try.prog 11 #[.pointer (some ⟨b, 0, none⟩), .int .i64 x] w fun e w' => ∃ v : Int, e = .returned (.bool true) ∧ Tal b v m w' ∧ Ext W w' ∧ Kept b w w' ∧ v ≤ n - x ∧ n - x ≤ v := by
  have l1 := h.low
  have l2 := h.le
  refine (take_yes b n m x w h h0 h1).mono ?_
  rintro e w' ⟨rfl, rfl⟩
  exact ⟨n - x, rfl, h.put _ (by omega) (by omega), hx.put hb _, fun _ _ _ hne t => t.other _ hne.symm, Int.le_refl _, Int.le_refl _⟩

set_option maxHeartbeats 4000000 in
theorem parts_any (a0 a1 a2 : Int) (h0 : a0 ≤ 9223372036854775807) (w : World) :
    Calls Try.prog 5 #[.int .i64 a0, .int .i64 a1, .int .i64 a2] w fun e w' => e = .returned (.bool true) ∧ Ext w w' := by
  have ma := mask40 a1
  have mb := mask40 a2
  obtain ⟨ma1, ma2⟩ := ma
  obtain ⟨mb1, mb2⟩ := mb
  go_enter Try.func5, Try.ntmps5
  go_wp2_with fail
  generalize bits .and .i64 a1 1099511627775 = a at *
  generalize bits .and .i64 a2 1099511627775 = b at *
  refine (new_some (Ext.refl w) a0 h0).mono ?_
  rintro e w1 ⟨c1, rfl, s1, t1, x1, -⟩
  go_wp2_with fail
  refine (new_some x1 a0 h0).mono ?_
  rintro e w2 ⟨c2, rfl, s2, t2, x2, k2⟩
  have n12 : c1 ≠ c2 := by have := t1.old; omega
  have t1 := k2 _ _ _ n12 t1
  have z2 : w.heap.size ≤ c2 := by have := x1.size; omega
  clear k2 x1
  go_wp2_with fail
  refine (new_some x2 a0 h0).mono ?_
  rintro e w3 ⟨c3, rfl, s3, t3, x3, k3⟩
  have n13 : c1 ≠ c3 := by have := t1.old; omega
  have n23 : c2 ≠ c3 := by have := t2.old; omega
  have t1 := k3 _ _ _ n13 t1
  have t2 := k3 _ _ _ n23 t2
  have z1 : w.heap.size ≤ c1 := s1
  clear k3 x2
  have M0 : 0 ≤ max 0 a0 := by omega
  have M1 : max 0 a0 ≤ 9223372036854775807 := by omega
  generalize max 0 a0 = m at *
  clear s1 s2 s3
  go_wp2_with fail
  refine (add_some x3 c1 0 m a z1 t1).mono ?_
  rintro e w4 ⟨v, r, rfl, t4, x4, k4, d4⟩
  have t2 := k4 _ _ _ n12.symm t2
  have t3 := k4 _ _ _ n13.symm t3
  clear k4 t1 x3
  rcases d4 with ⟨rfl, _, _, _, _⟩ | ⟨rfl, _, _, _⟩
  all_goals
    go_wp2_with fail
    refine (add_some x4 c1 v m b z1 t4).mono ?_
    rintro e w5 ⟨v', r', rfl, t5, x5, k5, d5⟩
    have t2 := k5 _ _ _ n12.symm t2
    have t3 := k5 _ _ _ n13.symm t3
    clear k5 t4 x4
    rcases d5 with ⟨rfl, _, _, _, _⟩ | ⟨rfl, _, _, _⟩
  all_goals
    go_wp2_with fail
    refine (add_some x5 c2 0 m (a + b) z2 t2).mono ?_
    rintro e w6 ⟨v6, r6, rfl, t6, x6, k6, d6⟩
    have t5 := k6 _ _ _ n12 t5
    have t3 := k6 _ _ _ n23.symm t3
    clear k6 t2 x5
    rcases d6 with ⟨rfl, _, _, _, _⟩ | ⟨rfl, _, _, _⟩
  all_goals first | (exfalso; omega) | skip
  all_goals
    have l1 := t5.low
    have l2 := t5.le
    go_wp2_with fail
    refine (now_any c1 v' m _ t5).mono ?_
    rintro e w7 ⟨rfl, rfl⟩
    go_wp2_with fail
    refine (add_some x6 c1 v' m 5 z1 t5).mono ?_
    rintro e w8 ⟨v8, r8, rfl, t8, x8, k8, d8⟩
    have t3 := k8 _ _ _ n13.symm t3
    clear k8 t5 x6 t6
    rcases d8 with ⟨rfl, _, _, _, _⟩ | ⟨rfl, _, _, _⟩
    · go_wp2_with fail
      refine (take_some x8 c1 _ m 5 z1 t8 (by omega) (by omega)).mono ?_
      rintro e w9 ⟨v9, rfl, t9, x9, k9, _, _⟩
      have t3 := k9 _ _ _ n13.symm t3
      clear k9 t8 x8
      go_wp2_with fail
      refine (now_any c1 v9 m _ t9).mono ?_
      rintro e w9 ⟨rfl, rfl⟩
      go_wp2_with fail
      refine (now_any c3 0 m _ t3).mono ?_
      rintro e w9 ⟨rfl, rfl⟩
      go_wp2_with fail
      refine (awake_any _).mono ?_
      rintro e w1 ⟨rfl, hx⟩
      go_wp2_with fail
      go_ret
      exact ⟨rfl, x9.trans hx⟩
    · go_wp2_with fail
      refine (now_any c1 v8 m _ t8).mono ?_
      rintro e w9 ⟨rfl, rfl⟩
      go_wp2_with fail
      refine (now_any c3 0 m _ t3).mono ?_
      rintro e w9 ⟨rfl, rfl⟩
      go_wp2_with fail
      refine (awake_any _).mono ?_
      rintro e w1 ⟨rfl, hx⟩
      go_wp2_with fail
      go_ret
      exact ⟨rfl, x8.trans hx⟩
end Go.Proofs.Ytahjkndbjobcjaa
