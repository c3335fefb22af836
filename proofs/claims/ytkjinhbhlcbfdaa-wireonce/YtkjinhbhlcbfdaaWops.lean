/- The calls of a writer; what every program must know. -/
import Derived.Test.YtkjinhbhlcbfdaaWtr
namespace Go.Proofs.Ytkjinhbhlcbfdaa
open Go.RowKit

/-- A call that wrote x, or did not. -/
def Put (D : Nat → Prop) (b most : Nat) (st : Option (List Nat)) (x : List Nat) (w w' : World) : Prop := ∃ D', Wtr D' b most (putS most st x) w' ∧ Off D w w' ∧ ∀ c, D' c → D c ∨ w.heap.size ≤ c

theorem Put.after {D : Nat → Prop} {b most : Nat} {st : Option (List Nat)} {x : List Nat} {w w1 w' : World} (o : Off (fun _ => False) w w1) (h : Put D b most st x w1 w') : Put D b most st x w w' := by
  obtain ⟨D', h1, h2, h3⟩ := h
  exact ⟨D', h1, (o.mono (fun _ _ h => h.elim)).trans h2 (fun _ _ h => h), fun c hc => (h3 c hc).imp id (fun h => Nat.le_trans o.size h)⟩

theorem wnum_any {D : Nat → Prop} {b most : Nat} {st : Option (List Nat)} {w : World} (hW : Wtr D b most st w) (n : Nat) (hn : n < 18446744073709551616) (hsz : (st.getD []).length + 10 ≤ 140737488355328) :
    Calls Try.prog 27 #[.pointer (some ⟨b, 0, none⟩), .int .u64 (n : Int)] w fun e w' => e = .returned (.tuple #[]) ∧ Put D b most st (numB n) w w' := by
  have hten := numB_ten hn
  go_enter Try.func27, Try.ntmps27
  go_wp2_with fail
  refine (parts_any n hn w).mono ?_
  rintro e w1 ⟨t, c, rfl, own, hblk, off⟩
  go_wp2_with fail
  refine (add_any (hW.off off (fun _ _ _ h => h)) t c (numB n) own.src none 0 [] (fun w' _ => Src.nil w') (by simp; omega)).mono ?_
  rintro e w2 ⟨rfl, P⟩
  go_wp2_with fail
  go_end0
  rw [List.append_nil] at P
  exact ⟨rfl, Put.after off P⟩

theorem wtext_any {D : Nat → Prop} {b most : Nat} {st : Option (List Nat)} {w : World} (hW : Wtr D b most st w) (bt : Option Addr) (bc : Nat) (bb : List Nat) (hbody : ∀ w', Off D w w' → Src w' bt bc bb) (hsz : (st.getD []).length + 10 + bb.length ≤ 140737488355328) :
    Calls Try.prog 30 #[.pointer (some ⟨b, 0, none⟩), .slice bt bb.length bc] w fun e w' => e = .returned (.tuple #[]) ∧ Put D b most st (numB bb.length ++ bb) w w' := by
  have hn : bb.length < 18446744073709551616 := by omega
  have hten := numB_ten hn
  have HB : Hid _ := hbody
  clear hbody
  go_enter Try.func30, Try.ntmps30
  go_wp2_with fail
  refine (parts_any bb.length hn w).mono ?_
  rintro e w1 ⟨t, c, rfl, own, hblk, off⟩
  go_wp2_with fail
  refine (add_any (hW.off off (fun _ _ _ h => h)) t c (numB bb.length) own.src bt bc bb (fun w' o => HB.out w' ((off.mono (fun _ _ h => h.elim)).trans o (fun _ _ h => h))) (by omega)).mono ?_
  rintro e w2 ⟨rfl, P⟩
  go_wp2_with fail
  go_end0
  exact ⟨rfl, Put.after off P⟩

theorem wint_any {D : Nat → Prop} {b most : Nat} {st : Option (List Nat)} {w : World} (hW : Wtr D b most st w) (i : Int) (h0 : -9223372036854775808 ≤ i) (h1 : i ≤ 9223372036854775807) (hsz : (st.getD []).length + 10 ≤ 140737488355328) :
    Calls Try.prog 28 #[.pointer (some ⟨b, 0, none⟩), .int .i64 i] w fun e w' => e = .returned (.tuple #[]) ∧ Put D b most st (numB (zig i)) w w' := by
  obtain ⟨z, hz⟩ : ∃ z, z = zig i := ⟨_, rfl⟩
  have hlt : z < 18446744073709551616 := hz ▸ zig_lt h0 h1
  have hb := zig_bits h0 h1
  rw [← hz] at hb ⊢
  clear hz
  go_enter Try.func28, Try.ntmps28
  go_wp2_with fail
  refine (wnum_any hW z hlt hsz).mono ?_
  rintro e w1 ⟨rfl, P⟩
  go_wp2_with fail
  go_end0
  exact ⟨rfl, P⟩

/-- What Done says. -/
def errW : Option (List Nat) → Nat
  | none => 4
  | some _ => 0

theorem done_any {D : Nat → Prop} {b most : Nat} {st : Option (List Nat)} {w : World} (hW : Wtr D b most st w) (hsz : (st.getD []).length ≤ 140737488355328) :
    Calls Try.prog 11 #[.pointer (some ⟨b, 0, none⟩)] w fun e w' => ∃ t c, e = .returned (.tuple #[.slice t (st.getD []).length c, .int .i64 ((errW st : Nat) : Int)]) ∧ OwnR w' t c (st.getD []) ∧ (∀ k, blk t = some k → w.heap.size ≤ k) ∧ Off (fun _ => False) w w' := by
  rcases hW.is with ⟨rfl, h1⟩ | ⟨bs, tad, cap, rfl, h1, h2, h3⟩
  · have c2 : w.cell? ⟨b, 2, none⟩ = some (.bool true) := by rw [h1.cell]; rfl
    clear h1
    go_enter Try.func11, Try.ntmps11
    go_wp2_with fail
    go_ret2
    exact ⟨none, 0, rfl, OwnR.nil w, fun k hk => by simp [blk] at hk, Off.refl _ w⟩
  · have c1 : w.cell? ⟨b, 1, none⟩ = some (.slice tad bs.length cap) := by rw [h1.cell]; rfl
    have c2 : w.cell? ⟨b, 2, none⟩ = some (.bool false) := by rw [h1.cell]; rfl
    clear h1
    go_enter Try.func11, Try.ntmps11
    go_wp2_with fail
    refine (clone_any tad cap bs hsz w h2.src).mono ?_
    rintro e w1 ⟨t, c, rfl, own, hblk, off⟩
    go_wp2_with fail
    go_ret2
    exact ⟨t, c, rfl, own, hblk, off⟩

theorem numB_300 : numB 300 = [172, 2] := by rw [numB_big (by decide), numB_small (by decide)]
theorem numB_1 : numB (zig (-1)) = [1] := by rw [show zig (-1) = 1 from rfl, numB_small (by decide)]

theorem awake_any (w : World) :
    Calls Try.prog 12 #[] w fun e w' => e = .returned (.bool true) ∧ Off (fun _ => False) w w' := by
  go_enter Try.func12, Try.ntmps12
  go_wp2_with fail
  refine (newWriter_any 9 (by decide) w).mono ?_
  rintro e w1 ⟨rfl, W1, o1⟩
  go_wp2_with fail
  refine (wnum_any W1 300 (by decide) (by decide)).mono ?_
  rintro e w2 ⟨rfl, D2, W2, o2, d2⟩
  have e2 : putS (Int.toNat 9) (some []) (numB 300) = some [172, 2] := by rw [numB_300]; rfl
  rw [e2] at W2
  clear e2
  go_wp2_with fail
  refine (wint_any W2 (-1) (by decide) (by decide) (by decide)).mono ?_
  rintro e w3 ⟨rfl, D3, W3, o3, d3⟩
  have e3 : putS (Int.toNat 9) (some [172, 2]) (numB (zig (-1))) = some [172, 2, 1] := by rw [numB_1]; rfl
  rw [e3] at W3
  clear e3
  go_wp2_with fail
  refine (done_any W3 (by decide)).mono ?_
  rintro e w4 ⟨t, c, rfl, own, hblk, o4⟩
  have O : Off (fun _ => False) w w4 := by
    have := o1.size
    have h2 := o1.trans o2 (D := fun _ => False) (fun i hi h => by omega)
    have h3 := h2.trans o3 (D := fun _ => False) (fun i hi h => by have := d2 i h; omega)
    exact h3.trans o4 (fun _ _ h => h)
  rcases own.shape with ⟨-, h, -⟩ | ⟨g, rfl, hg, hc, hcell⟩
  · simp at h
  · have x0 : w4.cell? ⟨g, 0, none⟩ = some (.int .u8 172) := hcell 0 _ rfl
    have x1 : w4.cell? ⟨g, 1, none⟩ = some (.int .u8 2) := hcell 1 _ rfl
    have x2 : w4.cell? ⟨g, 2, none⟩ = some (.int .u8 1) := hcell 2 _ rfl
    clear own hblk hcell
    go_wp2_with fail
    go_ret
    exact ⟨rfl, O⟩
end Go.Proofs.Ytkjinhbhlcbfdaa
