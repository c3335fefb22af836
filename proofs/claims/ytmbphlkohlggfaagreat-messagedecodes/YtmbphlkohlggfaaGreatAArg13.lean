/- Items of several texts. -/
import Derived.Test.YtmbphlkohlggfaaGreatADg0
import Derived.Test.YtmbphlkohlggfaaGreatABks
namespace Go.Proofs.YtmbphlkohlggfaaGreat
open Go.ChangeShapes Go.WideShapes Go.ChangeAt Go.RowKit
theorem cellsGd : Tryz.prog.cellsOf 49 = 10 := by kernel_rfl
theorem cellsDs : Tryz.prog.cellsOf 47 = 1 := by kernel_rfl
theorem fieldsDigest : ∃ f0 f1 f2 : Field, Tryz.prog.underlying 49 = some (.struct #[f0, f1, f2]) ∧ (f0.offset = 0 ∧ f0.type = 9) ∧ (f1.offset = 1 ∧ f1.type = 41) ∧ (f2.offset = 9 ∧ f2.type = 47) :=
 ⟨_, _, _, Tryz.underlying49, ⟨rfl, rfl⟩, ⟨rfl, rfl⟩, ⟨rfl, rfl⟩⟩
structure RgD (ds : List (Int × Int)) : Prop where
 rg : ∀ d ∈ ds, (-9223372036854775808 ≤ d.1 ∧ d.1 ≤ 9223372036854775807) ∧ (-9223372036854775808 ≤ d.2 ∧ d.2 ≤ 9223372036854775807)
section
variable {H : Type} {enc : TypeId × Value → H}
theorem dots_of {w : World} {fuel : Nat} {a : Option Addr} {len cap : Nat} {d : DataW H} {pl : List MemPlace} (h : DataW.trod enc Tryz.prog w 0 (fun _ => true) true fuel 47 [.slice a len cap] = some (d, pl)) :
  ∃ ds : List (Int × Int), ds.length = len ∧ RowD w a cap ds ∧ RgD ds := by
 rcases Go.Deep.open_slice Tryz.underlying47 h with ⟨hcs, -⟩ | ⟨x, l, c, m, n, D, Pl, hcs, -, hl, hm, hmm, hx, hel⟩
 ·simp at hcs
  obtain ⟨rfl, rfl, rfl⟩ := hcs
  exact ⟨[], rfl, RowD.nil w none 0 (by omega), ⟨fun e he => by simp at he⟩⟩
 ·simp at hcs
  obtain ⟨rfl, rfl, rfl⟩ := hcs
  simp only [if_true] at hmm
  unfold maxLen at hm
  have each : ∀ i, i < len → ∃ e : Int × Int, ∃ b off, x.add (i * 2) = ⟨b, off, none⟩ ∧ w.cell? ⟨b, off, none⟩ = some (.int .i64 e.1) ∧ w.cell? ⟨b, off + 1, none⟩ = some (.int .i64 e.2) ∧ (-9223372036854775808 ≤ e.1 ∧ e.1 ≤ 9223372036854775807) ∧ (-9223372036854775808 ≤ e.2 ∧ e.2 ≤ 9223372036854775807) := by
   intro i hi
   obtain ⟨vs, hv, ht⟩ := hel i (by omega)
   rw [cellsD] at hv
   obtain ⟨-, hvl, hcell⟩ := World.cells?_some hv
   obtain ⟨v0, v1, rfl⟩ : ∃ v0 v1, vs = [v0, v1] := list2 vs (by simpa using hvl)
   obtain ⟨y0, y1, m', -, -, h0, h1⟩ := trod_struct2 Tryz.underlying93 ht
   simp only [cells3, cells2] at h0 h1
   obtain ⟨N0, e0, -, q0⟩ := DataW.trod_int Tryz.underlying3 h0
   obtain ⟨N1, e1, -, q1⟩ := DataW.trod_int Tryz.underlying2 h1
   have i0 : v0 = .int .i64 N0 := (List.cons.inj (show [v0] = [.int .i64 N0] from e0)).1
   have i1 : v1 = .int .i64 N1 := (List.cons.inj (show [v1] = [.int .i64 N1] from e1)).1
   subst i0 i1
   have q0 := wfI q0
   have q1 := wfI q1
   have k0 := hcell 0 (by omega)
   have k1 := hcell 1 (by omega)
   generalize x.add (i * 2) = y at k0 k1 ⊢
   obtain ⟨b, off, spot⟩ := y
   have hspot : spot = none := by simpa [Addr.add] using World.cell?_spot k0
   subst hspot
   rw [add_lit] at k0 k1
   exact ⟨(N0, N1), b, off, rfl, by simpa using k0, by simpa using k1, q0, q1⟩
  obtain ⟨vs, hv⟩ := Go.Deep.choose_lt each
  refine ⟨(List.range len).map vs, by simp, ⟨by simp; omega, by omega, fun i u hi => ?_⟩, ⟨fun e he => ?_⟩⟩
  ·have hlt : i < len := by
    obtain ⟨h, -⟩ := List.getElem?_eq_some_iff.1 hi
    simpa using h
   simp [hlt] at hi
   subst hi
   obtain ⟨b0, off0, e0, -⟩ := hv 0 (by omega)
   obtain ⟨b, off, e, h0, h1, -⟩ := hv i hlt
   simp only [Nat.zero_mul] at e0
   obtain ⟨bx, ox, sx⟩ := x
   have e0' : (⟨bx, ox, sx⟩ : Addr) = ⟨b0, off0, none⟩ := by simpa [Addr.add] using e0
   simp only [Addr.mk.injEq] at e0'
   obtain ⟨rfl, rfl, rfl⟩ := e0'
   rw [add_lit] at e
   simp only [Addr.mk.injEq, and_true] at e
   obtain ⟨rfl, rfl⟩ := e
   exact ⟨bx, ox, rfl, h0, h1⟩
  ·simp only [List.mem_map, List.mem_range] at he
   obtain ⟨i, hi, rfl⟩ := he
   obtain ⟨_, _, _, _, _, h1, h2⟩ := hv i hi
   exact ⟨h1, h2⟩
end
end Go.Proofs.YtmbphlkohlggfaaGreat
