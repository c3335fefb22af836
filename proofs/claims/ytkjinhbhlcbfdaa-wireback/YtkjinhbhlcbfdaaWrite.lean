/- Both writers, call by call. -/
import Derived.Test.YtkjinhbhlcbfdaaRefW
namespace Go.Proofs.Ytkjinhbhlcbfdaa
open Go.RowKit

/-- A call's bytes. -/
def encB (c : CallD) : List Nat := if c.act = 0 then numB c.num else if c.act = 1 then numB (zig c.int) else if c.act = 2 then [if c.flag then 1 else 0] else numB c.text.length ++ c.text

/-- Both writers went on alike. -/
def Both (D E : Nat → Prop) (b m most : Nat) (st : Option (List Nat)) (x : List Nat) (w w' : World) : Prop := ∃ D' E', Wtr D' b most (putS most st x) w' ∧ FW E' m most (putS most st x) w' ∧ (∀ c, D' c → ¬ E' c) ∧ Off (fun c => D c ∨ E c) w w' ∧ (∀ c, D' c → D c ∨ w.heap.size ≤ c) ∧ ∀ c, E' c → E c ∨ w.heap.size ≤ c

theorem both_of {D E : Nat → Prop} {b m most : Nat} {st : Option (List Nat)} {x : List Nat} {w w1 w2 w3 : World} (o : Off (fun _ => False) w w1) {D' : Nat → Prop} (hD : Wtr D' b most (putS most st x) w2) (oD : Off D w1 w2) (gD : ∀ c, D' c → D c ∨ w1.heap.size ≤ c) (ltE : ∀ c, E c → c < w.heap.size) (dj : ∀ c, D c → ¬ E c) (F : FPut E m most st x w2 w3) : Both D E b m most st x w w3 := by
  obtain ⟨E', hE, oE, gE⟩ := F
  have s1 := o.size
  have s2 := oD.size
  have dj1 : ∀ c, D' c → ¬ E c := dj_step dj gD (fun c h => Nat.lt_of_lt_of_le (ltE c h) s1)
  refine ⟨D', E', hD.off oE (fun c _ h1 h2 => dj1 c h1 h2), hE, fun c h1 h2 => ?_, ?_, fun c h => (gD c h).imp id (fun h => by omega), fun c h => (gE c h).imp id (fun h => by omega)⟩
  · rcases gE c h2 with h | h
    · exact dj1 c h1 h
    · have := hD.lt c h1
      omega
  · exact (((o.mono (fun _ _ h => h.elim)).trans oD (fun _ _ h => .inl h))).trans oE (fun _ _ h => .inr h)

set_option maxRecDepth 100000 in
set_option maxHeartbeats 1000000 in
theorem write_any {D E : Nat → Prop} {b m most : Nat} {st : Option (List Nat)} {w : World} (hW : Wtr D b most st w) (hM : FW E m most st w) (dj : ∀ c, D c → ¬ E c) (c : CallD) (hn : c.num < 18446744073709551616) (i0 : -9223372036854775808 ≤ c.int) (i1 : c.int ≤ 9223372036854775807)
    (hs : ∀ w', Off (fun c => D c ∨ E c) w w' → Src w' c.tt c.tc c.text) (hsz : (st.getD []).length + 10 + c.text.length ≤ 140737488355328) :
    Calls Try.prog 10 #[.pointer (some ⟨b, 0, none⟩), .pointer (some ⟨m, 0, none⟩), .agg #[.int .i64 c.act, .int .u64 (c.num : Int), .int .i64 c.int, .bool c.flag, .slice c.tt c.text.length c.tc, .int .i64 c.most]] w fun e w' => e = .returned (.tuple #[]) ∧ Both D E b m most st (encB c) w w' := by
  obtain ⟨act, num, int, flag, tt, tc, text, mst⟩ := c
  simp only at hn i0 i1 hs hsz ⊢
  have HS : Hid _ := hs
  clear hs
  obtain ⟨w1, hw1⟩ : ∃ w1, w1 = w.alloc (.cells #[.int .i64 act, .int .u64 (num : Int), .int .i64 int, .bool flag, .slice tt text.length tc, .int .i64 mst] 32) := ⟨_, rfl⟩
  have o1 : Off (fun _ => False) w w1 := by rw [hw1]; exact (Off.refl _ w).alloc _
  have B1 : Cel w.heap.size 32 #[.int .i64 act, .int .u64 (num : Int), .int .i64 int, .bool flag, .slice tt text.length tc, .int .i64 mst] w1 := by rw [hw1]; exact Cel.new w _ _
  have W1 := hW.off o1 (fun _ _ _ h => h)
  have M1 := hM.off o1 (fun _ _ _ h => h)
  have hbx : ¬ D w.heap.size := fun h => by have := hW.lt _ h; omega
  have HW1 : Hid _ := hw1
  clear hw1
  by_cases h0 : act = 0
  · subst h0
    have HEN : Hid (encB ⟨0, num, int, flag, tt, tc, text, mst⟩ = numB num) := by
      show encB ⟨0, num, int, flag, tt, tc, text, mst⟩ = numB num
      simp [encB]
    go_enter Try.func10, Try.ntmps10
    go_wp2_with fail
    rw [← HW1.out]
    refine (wnum_any W1 num hn (by omega)).mono ?_
    rintro e w2 ⟨rfl, D', W2, o2, g2⟩
    have B2 := B1.off o2 hbx
    have b2 : w2.cell? ⟨w.heap.size, 1, none⟩ = some (.int .u64 (num : Int)) := by rw [B2.cell]; rfl
    have M2 := M1.off o2 (fun c _ h1 h2 => dj c h2 h1)
    go_wp2_with fail
    refine (fwnum_any M2 num hn (by omega)).mono ?_
    rintro e w3 ⟨rfl, F⟩
    go_wp2_with fail
    go_end0
    rw [HEN.out]
    exact ⟨rfl, both_of o1 W2 o2 g2 hM.lt dj F⟩
  by_cases h1 : act = 1
  · subst h1
    clear h0
    have HEN : Hid (encB ⟨1, num, int, flag, tt, tc, text, mst⟩ = numB (zig int)) := by
      show encB ⟨1, num, int, flag, tt, tc, text, mst⟩ = numB (zig int)
      simp [encB]
    go_enter Try.func10, Try.ntmps10
    go_wp2_with fail
    rw [← HW1.out]
    refine (wint_any W1 int i0 i1 (by omega)).mono ?_
    rintro e w2 ⟨rfl, D', W2, o2, g2⟩
    have B2 := B1.off o2 hbx
    have b2 : w2.cell? ⟨w.heap.size, 2, none⟩ = some (.int .i64 int) := by rw [B2.cell]; rfl
    have M2 := M1.off o2 (fun c _ h1 h2 => dj c h2 h1)
    go_wp2_with fail
    refine (fwint_any M2 int i0 i1 (by omega)).mono ?_
    rintro e w3 ⟨rfl, F⟩
    go_wp2_with fail
    go_end0
    rw [HEN.out]
    exact ⟨rfl, both_of o1 W2 o2 g2 hM.lt dj F⟩
  by_cases h2 : act = 2
  · subst h2
    clear h0 h1
    have HEN : Hid (encB ⟨2, num, int, flag, tt, tc, text, mst⟩ = [if flag then 1 else 0]) := by
      show encB ⟨2, num, int, flag, tt, tc, text, mst⟩ = [if flag then 1 else 0]
      simp [encB]
    go_enter Try.func10, Try.ntmps10
    go_wp2_with fail
    rw [← HW1.out]
    refine (wflag_any W1 flag (by omega)).mono ?_
    rintro e w2 ⟨rfl, D', W2, o2, g2⟩
    have B2 := B1.off o2 hbx
    have b2 : w2.cell? ⟨w.heap.size, 3, none⟩ = some (.bool flag) := by rw [B2.cell]; rfl
    have M2 := M1.off o2 (fun c _ h1 h2 => dj c h2 h1)
    go_wp2_with fail
    refine (fwflag_any M2 flag (by omega)).mono ?_
    rintro e w3 ⟨rfl, F⟩
    go_wp2_with fail
    go_end0
    rw [HEN.out]
    exact ⟨rfl, both_of o1 W2 o2 g2 hM.lt dj F⟩
  have hd0 : (act == 0) = false := by rw [beq_eq_false_iff_ne]; exact h0
  have hd1 : (act == 1) = false := by rw [beq_eq_false_iff_ne]; exact h1
  have hd2 : (act == 2) = false := by rw [beq_eq_false_iff_ne]; exact h2
  have HEN : Hid (encB ⟨act, num, int, flag, tt, tc, text, mst⟩ = numB text.length ++ text) := by
    show encB ⟨act, num, int, flag, tt, tc, text, mst⟩ = numB text.length ++ text
    simp [encB, h0, h1, h2]
  go_enter Try.func10, Try.ntmps10
  go_wp2_with fail
  rw [← HW1.out]
  refine (wtext_any W1 tt tc text (fun w' o => HS.out w' ((o1.mono (fun _ _ h => h.elim)).trans o (fun _ _ h => .inl h))) (by omega)).mono ?_
  rintro e w2 ⟨rfl, D', W2, o2, g2⟩
  have B2 := B1.off o2 hbx
  have b2 : w2.cell? ⟨w.heap.size, 4, none⟩ = some (.slice tt text.length tc) := by rw [B2.cell]; rfl
  have M2 := M1.off o2 (fun c _ h1 h2 => dj c h2 h1)
  go_wp2_with fail
  refine (fwtext_any M2 tt tc text (HS.out w2 ((o1.mono (fun _ _ h => h.elim)).trans o2 (fun _ _ h => .inl h))) (by omega)).mono ?_
  rintro e w3 ⟨rfl, F⟩
  go_wp2_with fail
  go_end0
  rw [HEN.out]
  exact ⟨rfl, both_of o1 W2 o2 g2 hM.lt dj F⟩
end Go.Proofs.Ytkjinhbhlcbfdaa
