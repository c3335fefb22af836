/- A reader of package wire. -/
import Derived.Test.YtgnchloclkjalaaWWops
namespace Go.Proofs.Ytgnchloclkjalaa
open Go.RowKit

/-- A reader at block b; D: its row's block. -/
structure Rdr (T : TypeId) (D : Nat → Prop) (b : Nat) (s : RS) (w : World) : Prop where
  ok : Ok s
  lt : ∀ c, D c → c < w.heap.size
  ne : ¬ D b
  len : s.1.length ≤ 140737488355328
  is : ∃ tad cap, Cel b T #[.slice tad s.1.length cap, .int .i64 ((s.2 : Nat) : Int)] w ∧ Lie D w tad cap s.1

theorem Rdr.here {T : TypeId} {D : Nat → Prop} {b : Nat} {s : RS} {w : World} (h : Rdr T D b s w) : b < w.heap.size := by
  obtain ⟨_, _, h, -⟩ := h.is
  exact h.lt
theorem Rdr.off {T : TypeId} {D E : Nat → Prop} {b : Nat} {s : RS} {w w' : World} (h : Rdr T D b s w) (o : Off E w w') (hb : ¬ E b) (hD : ∀ c, c < w.heap.size → D c → ¬ E c) : Rdr T D b s w' := by
  refine ⟨h.ok, fun c hc => Nat.lt_of_lt_of_le (h.lt c hc) o.size, h.ne, h.len, ?_⟩
  obtain ⟨tad, cap, h1, h2⟩ := h.is
  exact ⟨tad, cap, h1.off o hb, h2.off o hD⟩

theorem newReader_any (t : Option Addr) (c : Nat) (bs : List Nat) (hb : bs.length ≤ 140737488355328) (hlt : ∀ b ∈ bs, b < 256) (w : World) (hs : Src w t c bs) :
    Calls Try.prog 19 #[.slice t bs.length c] w fun e w' => ∃ b D, e = .returned (.pointer (some ⟨b, 0, none⟩)) ∧ w.heap.size ≤ b ∧ (∀ c, D c → w.heap.size ≤ c) ∧ Rdr 53 D b (bs, 0) w' ∧ Off (fun _ => False) w w' := by
  have hlt' : Hid _ := hlt
  clear hlt
  go_enter Try.func19, Try.ntmps19
  go_wp2_with fail
  refine (clone_any t c bs hb w hs).mono ?_
  rintro e w1 ⟨t', c', rfl, own, hblk, off⟩
  go_wp2_with fail
  go_ret
  have hlt1 : ∀ k, blk t' = some k → k < w1.heap.size := own.lt
  refine ⟨w1.heap.size, fun c => blk t' = some c, rfl, off.size, fun c h => hblk c h, ⟨⟨hlt'.out, by simp, by simp⟩, fun c h => ?_, fun h => ?_, hb, t', c', Cel.new w1 _ _, ?_⟩, off.alloc _⟩
  · have := hlt1 c h
    simp
    omega
  · have := hlt1 _ h
    omega
  · exact (own.off ((Off.refl (fun _ => False) _).alloc _) (fun _ _ _ h => h)).lie (fun c h => h)

theorem failed_any {D : Nat → Prop} {b : Nat} {s : RS} {w : World} (hR : Rdr 53 D b s w) :
    Calls Try.prog 33 #[.pointer (some ⟨b, 0, none⟩)] w fun e w' => e = .returned (.bool (!(((s.2 : Nat) : Int) == 0))) ∧ w' = w := by
  obtain ⟨tad, cap, h1, -⟩ := hR.is
  have c1 : w.cell? ⟨b, 1, none⟩ = some (.int .i64 ((s.2 : Nat) : Int)) := by rw [h1.cell]; rfl
  clear h1 hR
  go_enter Try.func33, Try.ntmps33
  go_wp2_with fail
  go_ret
  exact ⟨rfl, rfl⟩

theorem fail_any {D : Nat → Prop} {b : Nat} {s : RS} {w : World} (hR : Rdr 53 D b s w) (er : Nat) (her : er ≤ 4) :
    Calls Try.prog 34 #[.pointer (some ⟨b, 0, none⟩), .int .i64 (er : Int)] w fun e w' => e = .returned (.tuple #[]) ∧ Rdr 53 D b ([], er) w' ∧ Off (fun c => c = b) w w' := by
  obtain ⟨tad, cap, h1, -⟩ := hR.is
  have c0 : w.cell? ⟨b, 0, none⟩ = some (.slice tad s.1.length cap) := by rw [h1.cell]; rfl
  have c1 : w.cell? ⟨b, 1, none⟩ = some (.int .i64 ((s.2 : Nat) : Int)) := by rw [h1.cell]; rfl
  have f0 := h1.free 0
  have f1 := h1.free 1
  go_enter Try.func34, Try.ntmps34
  go_wp2_with fail
  go_end0
  refine ⟨rfl, ⟨Ok.err her, fun c h => by simpa using hR.lt c h, hR.ne, by simp, none, 0, (h1.set 1 _).set 0 _, Lie.nil _ _⟩, ((Off.refl (fun c => c = b) w).setCell (.inl rfl) _).setCell (.inl rfl) _⟩

/-- The next byte. -/
def nextS (s : RS) : Nat × RS := if s.2 ≠ 0 then (0, s) else match s.1 with
  | [] => (0, ([], 2))
  | c :: l => (c, (l, 0))

theorem rnext_any {D : Nat → Prop} {b : Nat} {s : RS} {w : World} (hR : Rdr 53 D b s w) :
    Calls Try.prog 32 #[.pointer (some ⟨b, 0, none⟩)] w fun e w' => e = .returned (.int .u8 (((nextS s).1 : Nat) : Int)) ∧ Rdr 53 D b (nextS s).2 w' ∧ Off (fun c => c = b) w w' := by
  obtain ⟨l, er⟩ := s
  by_cases her : er = 0
  · subst her
    match l with
    | [] =>
      have R : Hid _ := hR
      obtain ⟨tad, cap, h1, h2⟩ := hR.is
      have c0 : w.cell? ⟨b, 0, none⟩ = some (.slice tad 0 cap) := by rw [h1.cell]; rfl
      clear h1 h2 hR
      go_enter Try.func32, Try.ntmps32
      go_wp2_with fail
      refine (failed_any R.out).mono ?_
      rintro e w1 ⟨rfl, hw⟩
      rw [hw]
      clear hw w1
      go_wp2_with fail
      refine (fail_any R.out 2 (by omega)).mono ?_
      rintro e w1 ⟨rfl, R1, o1⟩
      go_wp2_with fail
      go_ret
      exact ⟨rfl, R1, o1⟩
    | c :: l =>
      have R : Hid _ := hR
      obtain ⟨tad, cap, h1, h2⟩ := hR.is
      have c0 : w.cell? ⟨b, 0, none⟩ = some (.slice tad (l.length + 1) cap) := by rw [h1.cell]; rfl
      have f0 := h1.free 0
      obtain ⟨t', hs, hL⟩ := h2.drop (k := 1) (by simp)
      obtain ⟨g, off, rfl, hc⟩ : ∃ g off, tad = some ⟨g, off, none⟩ ∧ w.cell? ⟨g, off, none⟩ = some (.int .u8 (c : Int)) := by
        rcases h2.is with ⟨-, h, -⟩ | ⟨g, off, h, -, -, hcell⟩
        · simp at h
        · exact ⟨g, off, h, hcell 0 _ rfl⟩
      have hlen : l.length < 140737488355328 := by have := hR.len; simp at this; omega
      simp only [List.drop_succ_cons, List.drop_zero, List.length_cons] at hs hL
      replace hs : ∀ W, (Instr.slice 30 (.slice (some ⟨g, off, none⟩) (l.length + 1) cap) (some (.int .i64 1)) none none).run Try.prog W = .ok (.slice t' l.length (cap - 1)) W := hs
      have HL : Hid _ := hL
      have H1 : Hid _ := h1
      clear h1 h2 hR hL
      go_enter Try.func32, Try.ntmps32
      go_wp2_with fail
      refine (failed_any R.out).mono ?_
      rintro e w1 ⟨rfl, hw⟩
      rw [hw]
      clear hw w1
      go_wp2_with fail
      go_ret
      have O : Off (fun c => c = b) w (w.setCell ⟨b, 0, none⟩ (.slice t' l.length (cap - 1))) := (Off.refl (fun c => c = b) w).setCell (.inl rfl) _
      refine ⟨rfl, ⟨⟨fun x hx => R.out.ok.1 x (by simp [nextS] at hx; simp [hx]), by simp [nextS], by simp [nextS]⟩, fun x hx => by simpa using R.out.lt x hx, R.out.ne, by simp [nextS]; omega, t', cap - 1, H1.out.set 0 _, HL.out.off O (fun x _ hx e => R.out.ne (e ▸ hx))⟩, O⟩
  · have hne : nextS (l, er) = (0, (l, er)) := by simp [nextS, her]
    rw [hne]
    have hd : (((er : Nat) : Int) == 0) = false := by rw [beq_eq_false_iff_ne]; omega
    have R : Hid _ := hR
    go_enter Try.func32, Try.ntmps32
    go_wp2_with fail
    refine (failed_any R.out).mono ?_
    rintro e w1 ⟨rfl, hw⟩
    rw [hw]
    clear hw w1
    go_wp2_with fail
    go_ret
    exact ⟨rfl, R.out, Off.refl _ _⟩
end Go.Proofs.Ytgnchloclkjalaa
