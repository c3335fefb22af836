/- Slices of bools that came in. -/
import Derived.Test.YthmhkeiaodhefaaBo17
import Derived.Deep.Grids
import Derived.OpenShut
import Derived.ChangeOld
import Derived.Below
import Derived.SizedLaws
namespace Go.Proofs.Ythmhkeiaodhefaa
set_option maxRecDepth 100000
open Go.ChangeShapes Go.WideShapes Go.ChangeAt Go.RowKit

/-- A slice that reads as these bools. -/
structure Boos (w : World) (a : Option Addr) (len cap : Nat) (B : Nat → Bool) : Prop where
  hlen : len ≤ cap
  hcap : cap ≤ 9223372036854775807
  at_ : ∀ i, i < len → ∃ b off, a = some ⟨b, off, none⟩ ∧ w.cell? ⟨b, off + i, none⟩ = some (.bool (B i))
theorem Boos.pre {w : World} {a : Option Addr} {len cap : Nat} {B : Nat → Bool} (h : Boos w a len cap B) {k : Nat} (hk : k ≤ len) : Boos w a k cap B :=
  ⟨Nat.le_trans hk h.hlen, h.hcap, fun i hi => h.at_ i (by omega)⟩
theorem argBo {H : Type} {enc : TypeId × Value → H} {w : World} {fuel : Nat} {a : Option Addr} {len cap : Nat} {x : DataW H × List MemPlace}
    (h : DataW.trod enc Try.prog w 0 (fun _ => true) true fuel 22 (Value.slice a len cap).cells.toList = some x) : ∃ B, Boos w a len cap B := by
  rcases Go.Deep.open_bools Try.underlying22 Try.underlying4 (by kernel_rfl) h with ⟨hcs, -⟩ | ⟨ad, l, c, B, hcs, -, hl, hm, -, hc⟩
  · simp [Value.cells] at hcs
    obtain ⟨rfl, rfl, rfl⟩ := hcs
    exact ⟨fun _ => false, by omega, by omega, fun i hi => by omega⟩
  · simp [Value.cells] at hcs
    obtain ⟨rfl, rfl, rfl⟩ := hcs
    unfold maxLen at hm
    refine ⟨B, hl, by omega, fun i hi => ?_⟩
    obtain ⟨b, off, spot⟩ := ad
    have k0 := hc 0 (by omega)
    have hspot : spot = none := by simpa [Addr.add] using World.cell?_spot k0
    subst hspot
    have := hc i (by omega)
    rw [show (⟨b, off, none⟩ : Addr).add i = ⟨b, off + i, none⟩ by unfold Addr.add; split <;> simp_all] at this
    exact ⟨b, off, rfl, this⟩
theorem slice_bo (tad : Option Addr) (n cap k : Nat) (h : k ≤ cap) (W : World) : (Instr.slice 22 (.slice tad n cap) none (some (.int .i64 (k : Int))) none).run Try.prog W = .ok (.slice tad k cap) W := by
  rw [run_slice_h (P := Try.prog) (t := 22) (ht := by kernel_rfl) (h0 := by omega) (h2 := by omega)]
  have hs : (sizeOf (Try.prog.elem 22)).run Try.prog W = .ok 1 W := by
    have e : Try.prog.elem 22 = 4 := by kernel_rfl
    rw [e]
    obtain ⟨i0, hi, hz1⟩ : ∃ i0, Try.prog.info? 4 = some i0 ∧ i0.size = 1 := ⟨_, rfl, rfl⟩
    simp [sizeOf, typeInfo, hi, hz1]
  rw [hs]
  simp [Result.andThen, sliced]
  cases tad <;> simp [Addr.add]
/-- The rest of a number, read without its sign. -/
theorem rem_any (a k : Int) (h0 : 0 < k) : ∃ r : Nat, (IntKind.u64.wrap a).tmod k = (r : Int) ∧ (r : Int) < k := by
  have hnn : 0 ≤ IntKind.u64.wrap a := by rw [IntKind.wrap_u64]; omega
  have e := Int.tmod_eq_emod_of_nonneg (b := k) hnn
  have h1 := Int.emod_nonneg (IntKind.u64.wrap a) (show k ≠ 0 by omega)
  have h2 := Int.emod_lt_of_pos (IntKind.u64.wrap a) h0
  obtain ⟨r, hr⟩ := Int.eq_ofNat_of_zero_le h1
  exact ⟨r, by rw [e, hr], by omega⟩
theorem sin_cell {W w : World} (h : Sin W w) {b o : Nat} {v : Value} (hc : W.cell? ⟨b, o, none⟩ = some v) : w.cell? ⟨b, o, none⟩ = some v := Off.keep h hc (fun h => h)
theorem wfI {n : Int} (h : (Lit.int .i64 n).wf = true) : -9223372036854775808 ≤ n ∧ n ≤ 9223372036854775807 := by
  simp [Lit.wf] at h
  exact h
theorem Bkt.undrew {w v : World} {q b : Nat} {r m n k : Int} (h : Bkt (Sin (w.drewN q)) b r m n k v) : Bkt (Sin w) b r m n k v := by
  have un : ∀ u, Sin (w.drewN q) u → Sin w u := fun u h => ⟨h.os, h.tape, h.output, h.size, h.block⟩
  have dr : ∀ u, Sin w u → Sin (w.drewN q) u := fun u h => ⟨h.os, h.tape, h.output, h.size, h.block⟩
  obtain ⟨⟨c, d, hb, hc, hd, bc, bd, cd, hx⟩, r0, r1, m1, h0⟩ := h
  exact ⟨⟨c, d, hb, hc, hd, bc, bd, cd, fun u v hu o => un _ (hx u v (dr _ hu) o)⟩, r0, r1, m1, un _ h0⟩
theorem clip_any (x : Int) (w : World) : Calls Try.prog 9 #[.int .i64 x] w fun e w' => e = .returned (.int .i64 (cl x)) ∧ w' = w := by
  have h1 := min_int x 1000000
  have h2 := max_int 0 (min x 1000000)
  rw [show max 0 (min x 1000000) = cl x by unfold cl; omega] at h2
  generalize cl x = y at *
  go_enter Try.func9, Try.ntmps9
  go_wp2_with fail
  go_ret
  exact ⟨rfl, rfl⟩
end Go.Proofs.Ythmhkeiaodhefaa
