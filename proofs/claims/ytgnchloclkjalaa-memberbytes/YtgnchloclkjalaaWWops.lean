/- The calls of a writer; what every program must know. -/
import Derived.Test.YtgnchloclkjalaaWWtr
namespace Go.Proofs.Ytgnchloclkjalaa
open Go.RowKit

/-- A call that wrote x, or did not. -/
def Put (D : Nat → Prop) (b most : Nat) (st : Option (List Nat)) (x : List Nat) (w w' : World) : Prop := ∃ D', Wtr D' b most (putS most st x) w' ∧ Off D w w' ∧ ∀ c, D' c → D c ∨ w.heap.size ≤ c

theorem Put.after {D : Nat → Prop} {b most : Nat} {st : Option (List Nat)} {x : List Nat} {w w1 w' : World} (o : Off (fun _ => False) w w1) (h : Put D b most st x w1 w') : Put D b most st x w w' := by
  obtain ⟨D', h1, h2, h3⟩ := h
  exact ⟨D', h1, (o.mono (fun _ _ h => h.elim)).trans h2 (fun _ _ h => h), fun c hc => (h3 c hc).imp id (fun h => Nat.le_trans o.size h)⟩

theorem wnum_any {D : Nat → Prop} {b most : Nat} {st : Option (List Nat)} {w : World} (hW : Wtr D b most st w) (n : Nat) (hn : n < 18446744073709551616) (hsz : (st.getD []).length + 10 ≤ 140737488355328 ∨ most ≤ 140737488355328 ∧ (st.getD []).length ≤ most) :
    Calls Try.prog 24 #[.pointer (some ⟨b, 0, none⟩), .int .u64 (n : Int)] w fun e w' => e = .returned (.tuple #[]) ∧ Put D b most st (numB n) w w' := by
  have hten := numB_ten hn
  go_enter Try.func24, Try.ntmps24
  go_wp2_with fail
  refine (parts_any n hn w).mono ?_
  rintro e w1 ⟨t, c, rfl, own, hblk, off⟩
  go_wp2_with fail
  refine (add_any (hW.off off (fun _ _ _ h => h)) t c (numB n) own.src none 0 [] (fun w' _ => Src.nil w') (by simp only [List.length_nil]; omega)).mono ?_
  rintro e w2 ⟨rfl, P⟩
  go_wp2_with fail
  go_end0
  rw [List.append_nil] at P
  exact ⟨rfl, Put.after off P⟩

theorem wint_any {D : Nat → Prop} {b most : Nat} {st : Option (List Nat)} {w : World} (hW : Wtr D b most st w) (i : Int) (h0 : -9223372036854775808 ≤ i) (h1 : i ≤ 9223372036854775807) (hsz : (st.getD []).length + 10 ≤ 140737488355328 ∨ most ≤ 140737488355328 ∧ (st.getD []).length ≤ most) :
    Calls Try.prog 25 #[.pointer (some ⟨b, 0, none⟩), .int .i64 i] w fun e w' => e = .returned (.tuple #[]) ∧ Put D b most st (numB (zig i)) w w' := by
  obtain ⟨z, hz⟩ : ∃ z, z = zig i := ⟨_, rfl⟩
  have hlt : z < 18446744073709551616 := hz ▸ zig_lt h0 h1
  have hb := zig_bits h0 h1
  rw [← hz] at hb ⊢
  clear hz
  go_enter Try.func25, Try.ntmps25
  go_wp2_with fail
  refine (wnum_any hW z hlt hsz).mono ?_
  rintro e w1 ⟨rfl, P⟩
  go_wp2_with fail
  go_end0
  exact ⟨rfl, P⟩

/-- What Done says. -/
def errW : Option (List Nat) → Nat
  | none => 4
  | some _ => 0

theorem done_any {D : Nat → Prop} {b most : Nat} {st : Option (List Nat)} {w : World} (hW : Wtr D b most st w) (hsz : (st.getD []).length ≤ 140737488355328) :
    Calls Try.prog 18 #[.pointer (some ⟨b, 0, none⟩)] w fun e w' => ∃ t c, e = .returned (.tuple #[.slice t (st.getD []).length c, .int .i64 ((errW st : Nat) : Int)]) ∧ OwnR w' t c (st.getD []) ∧ (∀ k, blk t = some k → w.heap.size ≤ k) ∧ Off (fun _ => False) w w' := by
  rcases hW.is with ⟨rfl, h1⟩ | ⟨bs, tad, cap, rfl, h1, h2, h3⟩
  · have c2 : w.cell? ⟨b, 2, none⟩ = some (.bool true) := by rw [h1.cell]; rfl
    clear h1
    go_enter Try.func18, Try.ntmps18
    go_wp2_with fail
    go_ret2
    exact ⟨none, 0, rfl, OwnR.nil w, fun k hk => by simp [blk] at hk, Off.refl _ w⟩
  · have c1 : w.cell? ⟨b, 1, none⟩ = some (.slice tad bs.length cap) := by rw [h1.cell]; rfl
    have c2 : w.cell? ⟨b, 2, none⟩ = some (.bool false) := by rw [h1.cell]; rfl
    clear h1
    go_enter Try.func18, Try.ntmps18
    go_wp2_with fail
    refine (clone_any tad cap bs hsz w h2.src).mono ?_
    rintro e w1 ⟨t, c, rfl, own, hblk, off⟩
    go_wp2_with fail
    go_ret2
    exact ⟨t, c, rfl, own, hblk, off⟩

theorem numB_300 : numB 300 = [172, 2] := by rw [numB_big (by decide), numB_small (by decide)]
theorem numB_1 : numB (zig (-1)) = [1] := by rw [show zig (-1) = 1 from rfl, numB_small (by decide)]

end Go.Proofs.Ytgnchloclkjalaa
