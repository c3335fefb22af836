/- The reference's records: its numbers, Frame, Take. -/
import Derived.Test.YtmdhcoplhibbeaaTake7
import Derived.Test.YtmdhcoplhibbeaaLRef
namespace Go.Proofs.Ytmdhcoplhibbeaa
open Go.RowKit

set_option maxRecDepth 100000 in
set_option maxHeartbeats 1000000 in
theorem rnum_q {w : World} {tad : Option Addr} {cap : Nat} {bs : List Nat} (h : Inp w tad cap bs) (hl : 4 ≤ bs.length) :
    Calls Try.prog 40 #[.slice tad bs.length cap] w fun e w' => e = .returned (.int .u32 ((num4 bs : Nat) : Int)) ∧ ∃ m, w' = w.drewN m := by
  obtain ⟨l0, b, off, rfl, c0⟩ := h.at_ (i := 0) (by omega)
  obtain ⟨l1, b1, off1, e1, c1⟩ := h.at_ (i := 1) (by omega)
  obtain ⟨l2, b2, off2, e2, c2⟩ := h.at_ (i := 2) (by omega)
  obtain ⟨l3, b3, off3, e3, c3⟩ := h.at_ (i := 3) (by omega)
  simp only [Option.some.injEq, Addr.mk.injEq, and_true] at e1 e2 e3
  obtain ⟨rfl, rfl⟩ := e1
  obtain ⟨rfl, rfl⟩ := e2
  obtain ⟨rfl, rfl⟩ := e3
  have i0 : (0 : Int) < (bs.length : Int) := by omega
  have i1 : (1 : Int) < (bs.length : Int) := by omega
  have i2 : (2 : Int) < (bs.length : Int) := by omega
  have i3 : (3 : Int) < (bs.length : Int) := by omega
  rw [Nat.add_zero] at c0
  clear h
  have hn : num4 bs = bs.getD 0 0 * 16777216 + bs.getD 1 0 * 65536 + bs.getD 2 0 * 256 + bs.getD 3 0 := rfl
  rw [hn]
  clear hn
  generalize bs.getD 0 0 = x0 at *
  generalize bs.getD 1 0 = x1 at *
  generalize bs.getD 2 0 = x2 at *
  generalize bs.getD 3 0 = x3 at *
  go_enter Try.func40, Try.ntmps40
  go_wp2_with fail
  go_quiet (fail)
  go_wp2_with fail
  go_ret
  refine ⟨?_, _, rfl⟩
  rw [← or4 l0 l1 l2 l3]
  rfl

theorem rnum_any {w : World} {tad : Option Addr} {cap : Nat} {bs : List Nat} (h : Inp w tad cap bs) (hl : 4 ≤ bs.length) :
    Calls Try.prog 40 #[.slice tad bs.length cap] w fun e w' => e = .returned (.int .u32 ((num4 bs : Nat) : Int)) ∧ Off (fun _ => False) w w' := by
  refine (rnum_q h hl).mono ?_
  rintro e w' ⟨rfl, m, rfl⟩
  exact ⟨rfl, (Off.refl _ w).drewN m⟩

theorem Src.empty {w w' : World} {t : Option Addr} {c : Nat} (h : Src w t c []) : Src w' t c [] := by
  rcases h.is with h | ⟨ad, rfl, -⟩
  · exact ⟨.inl h⟩
  · exact ⟨.inr ⟨ad, rfl, fun j u hj => by simp [vl] at hj⟩⟩
theorem Off.of_below {D : Nat → Prop} {a w : World} (h : Below a.heap.size a w) : Off D a w := ⟨h.os, h.tape, h.output, h.size, fun k hk _ => h.block k hk⟩
theorem rcrc_any {w : World} {tad : Option Addr} {cap : Nat} {bs : List Nat} (h : Inp w tad cap bs) (hl : bs.length ≤ 9223372036854775807) :
    Calls Try.prog 29 #[.slice tad bs.length cap] w fun e w' => e = .returned (.int .u32 ((crcL bs : Nat) : Int)) ∧ Off (fun _ => False) w w' := by
  refine (refcrc_any tad bs.length cap hl (fun i => bs.getD i 0) w (fun i hi => h.at_ hi)).mono ?_
  rintro e w' ⟨rfl, b⟩
  exact ⟨rfl, Off.of_below b⟩
theorem u32_any {n : Nat} (hn : n < 4294967296) (w : World) :
    Calls Try.prog 28 #[.int .u32 (n : Int)] w fun e w' => e = .returned (.slice (some ⟨w.heap.size, 0, none⟩) 4 4) ∧ OwnR w' (some ⟨w.heap.size, 0, none⟩) 4 (be4 n) ∧ Off (fun _ => False) w w' := by
  have e1 : n / 16777216 % 256 = n / 16777216 := by omega
  have R : OwnR (w.alloc (.cells #[.int .u8 ((n : Int) / 16777216), .int .u8 ((n : Int) / 65536 % 256), .int .u8 ((n : Int) / 256 % 256), .int .u8 ((n : Int) % 256)] 5)) (some ⟨w.heap.size, 0, none⟩) 4 (be4 n) := by
    have := World.ownsRow_lit (base := 0) (e := 5) (size := 1) w #[.int .u8 ((n : Int) / 16777216), .int .u8 ((n : Int) / 65536 % 256), .int .u8 ((n : Int) / 256 % 256), .int .u8 ((n : Int) % 256)] 4 (Nat.zero_le _) (by decide) rfl
    refine ⟨?_⟩
    rw [be4, e1]
    exact this
  have O : Off (fun _ => False) w (w.alloc (.cells #[.int .u8 ((n : Int) / 16777216), .int .u8 ((n : Int) / 65536 % 256), .int .u8 ((n : Int) / 256 % 256), .int .u8 ((n : Int) % 256)] 5)) := (Off.refl _ w).alloc _
  clear e1
  go_enter Try.func28, Try.ntmps28
  go_wp2_with fail
  go_ret
  exact ⟨rfl, R, O⟩

set_option maxRecDepth 100000 in
set_option maxHeartbeats 1000000 in
theorem rframe_any {w : World} {tr : Option Addr} {cr : Nat} {rs : List Nat} (hr : Inp w tr cr rs) (hl : rs.length ≤ 100000) :
    Calls Try.prog 10 #[.slice tr rs.length cr] w fun e w' => ∃ t c, e = .returned (.slice t (frm rs).length c) ∧ OwnR w' t c (frm rs) ∧ (∀ k, blk t = some k → w.heap.size ≤ k) ∧ Off (fun _ => False) w w' := by
  have HR : Hid _ := hr
  have HCL : Hid (crcL rs < 4294967296) := crcL_lt hr.lt
  clear hr
  go_enter Try.func10, Try.ntmps10
  go_wp2_with fail
  refine (u32_any (n := rs.length) (by omega) w).mono ?_
  rintro e w1 ⟨rfl, R1, O1⟩
  go_wp2_with fail
  refine (rcrc_any (HR.out.free O1) (by omega)).mono ?_
  rintro e w2 ⟨rfl, O2⟩
  have R2 := R1.off O2 (fun _ _ _ h => h)
  have F2 := O1.trans O2 (fun _ _ h => h)
  clear R1 O1 O2
  go_wp2_with fail
  refine (u32_any HCL.out w2).mono ?_
  rintro e w3 ⟨rfl, S3, O3⟩
  have R3 := R2.off O3 (fun _ _ _ h => h)
  have F3 := F2.trans O3 (fun _ _ h => h)
  have s2 : w.heap.size < w2.heap.size := R2.lt _ rfl
  clear R2 F2 O3
  have b4l : (be4 rs.length).length ≤ 4 := by simp [be4]
  have b4c : (be4 (crcL rs)).length ≤ 4 := by simp [be4]
  have HSR : Hid (∀ w4, Off (fun c => c = w.heap.size) w3 w4 → Src w4 tr cr rs) := fun w4 o => by
    rcases HR.out.old with h0 | h0
    · rw [h0]
      have := HR.out.src
      rw [h0] at this
      exact this.empty
    · exact (HR.out.free F3).src.off o (fun c hc e h => by have := h0 c e; omega)
  go_wp2_with (at_builtin; first | (refine wpList_app rfl (.tmp 6) (.tmp 9) rfl _ 4 (be4 rs.length) rfl R3 _ 4 (be4 (crcL rs)) rfl S3.src (by omega) ?_; intro t4 c4 w4 y4 hy4 R4 O4 at4; have l4 : y4.length ≤ 8 := (by rw [hy4.out, List.length_append]; omega)) | (refine wpList_app rfl (.tmp 10) (.tmp 11) rfl t4 c4 y4 rfl R4 tr cr rs rfl (HSR.out w4 (O4.mono (fun _ _ h => by simp [blk] at h; exact h.symm))) (by omega) ?_; intro t5 c5 w5 y5 hy5 R5 O5 at5))
  go_ret
  have e5 : y5 = frm rs := by rw [hy5.out, hy4.out, frm]; simp
  rw [← e5]
  have lo4 : ∀ k, blk t4 = some k → w.heap.size ≤ k := fun k hk => by
    have := F3.size
    rcases at4 with a | a
    · rw [a] at hk
      simp [blk] at hk
      omega
    · rw [a] at hk
      simp at hk
      omega
  have F4 : Off (fun _ => False) w w4 := ((F3.mono (fun _ _ h => h.elim)).trans O4 (fun _ _ h => h)).mono (fun i hi h => by simp [blk] at h; omega)
  refine ⟨t5, c5, rfl, R5, fun k hk => ?_, ((F4.mono (fun _ _ h => h.elim)).trans O5 (fun _ _ h => h)).mono (fun i hi h => by have := lo4 i h; omega)⟩
  have := F4.size
  rcases at5 with a | a
  · exact lo4 k (a ▸ hk)
  · rw [a] at hk
    simp at hk
    omega

end Go.Proofs.Ytmdhcoplhibbeaa
