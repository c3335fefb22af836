/- Items of several texts. -/
import Derived.Test.YtmbphlkohlggfaaGreatATake
import Derived.Test.YtmbphlkohlggfaaGreatARefA
import Derived.Test.YtmbphlkohlggfaaGreatADot5
import Derived.Test.YtmbphlkohlggfaaGreatAGSm
import Derived.Test.YtmbphlkohlggfaaGreatALaw10
namespace Go.Proofs.YtmbphlkohlggfaaGreat
open Go.RowKit
structure RowD (w : World) (a : Option Addr) (cap : Nat) (ds : List (Int × Int)) : Prop where
 len : ds.length ≤ cap
 bound : cap ≤ 9223372036854775807
 at_ : ∀ i d, ds[i]? = some d → ∃ b off, a = some ⟨b, off, none⟩ ∧ w.cell? ⟨b, off + i * 2, none⟩ = some (.int .i64 d.1) ∧ w.cell? ⟨b, off + i * 2 + 1, none⟩ = some (.int .i64 d.2)
theorem RowD.nil (w : World) (a : Option Addr) (cap : Nat) (h : cap ≤ 9223372036854775807) : RowD w a cap [] := ⟨by simp, h, fun i v h => by simp at h⟩
theorem RowD.offD {D : Nat → Prop} {w w' : World} {a : Option Addr} {cap : Nat} {ds : List (Int × Int)} (h : RowD w a cap ds) (o : Off D w w') (hD : ∀ c, c < w.heap.size → blk a = some c → ¬ D c) : RowD w' a cap ds :=
 ⟨h.len, h.bound, fun i d hi => by
  obtain ⟨b, off, rfl, h1, h2⟩ := h.at_ i d hi
  refine ⟨b, off, rfl, ?_, ?_⟩
  ·rw [← h1]; exact World.cell?_of_block (a := ⟨b, off + i * 2, none⟩) (o.block b (cell_lt h1) (hD b (cell_lt h1) rfl))
  ·rw [← h2]; exact World.cell?_of_block (a := ⟨b, off + i * 2 + 1, none⟩) (o.block b (cell_lt h2) (hD b (cell_lt h2) rfl))⟩
theorem RowD.off {w w' : World} {a : Option Addr} {cap : Nat} {ds : List (Int × Int)} (h : RowD w a cap ds) (o : Off (fun _ => False) w w') : RowD w' a cap ds := h.offD o (fun _ _ _ h => h)
theorem RowD.offN {D : Nat → Prop} {w w' : World} {a : Option Addr} {cap : Nat} {ds : List (Int × Int)} (h : RowD w a cap ds) (o : Off D w w') (hN : NoI D w) : RowD w' a cap ds :=
 ⟨h.len, h.bound, fun i d hi => by
  obtain ⟨b, off, rfl, h1, h2⟩ := h.at_ i d hi
  refine ⟨b, off, rfl, ?_, ?_⟩
  ·rw [← h1]; exact World.cell?_of_block (a := ⟨b, off + i * 2, none⟩) (o.block b (cell_lt h1) (fun e => hN.no _ e _ _ h1))
  ·rw [← h2]; exact World.cell?_of_block (a := ⟨b, off + i * 2 + 1, none⟩) (o.block b (cell_lt h2) (fun e => hN.no _ e _ _ h2))⟩
theorem OwnG.rowD {w : World} {a : Option Addr} {cap : Nat} {ds : List (Int × Int)} (h : OwnG 93 2 dcs w a cap ds) : RowD w a cap ds := by
 refine ⟨?_, ?_, fun i d hi => ?_⟩
 ·rcases h.row.2 with ⟨hv, h0⟩ | ⟨g, c, cur, hv, hb, hh, hc, -⟩
  ·omega
  ·simp only [Value.slice.injEq] at hv
   obtain ⟨-, -, rfl⟩ := hv
   exact hc
 ·rcases h.row.2 with ⟨hv, h0⟩ | ⟨g, c, cur, hv, hb, hh, hc, hm, -⟩
  ·simp only [Value.slice.injEq] at hv
   omega
  ·simp only [Value.slice.injEq] at hv
   obtain ⟨-, -, rfl⟩ := hv
   unfold maxLen at hm
   omega
 ·obtain ⟨g, rfl, hc⟩ := h.at_ dcs_len hi
  refine ⟨g, 0, rfl, ?_, ?_⟩
  ·have := hc 0 _ rfl
   simpa using this
  ·have := hc 1 _ rfl
   simpa using this
structure G where
 key : ByteArray
 f : Nat → Int
 a : Option Addr
 cap : Nat
 ds : List (Int × Int)
structure GK where
 key : ByteArray
 f : Nat → Int
 ds : List (Int × Int)
def G.abs (g : G) : GK := ⟨g.key, g.f, g.ds⟩
def gcs (g : G) : List Value := [.string g.key, .int .i64 (g.f 0), .int .i64 (g.f 1), .int .i64 (g.f 2), .int .i64 (g.f 3), .int .i64 (g.f 4), .int .i64 (g.f 5), .int .i64 (g.f 6), .int .i64 (g.f 7), .slice g.a g.ds.length g.cap]
theorem gcs_len (g : G) : (gcs g).length = 10 := rfl
theorem gcs_one (g : G) : ∀ u ∈ gcs g, u.oneCell' = true := by simp [gcs, Value.oneCell']
theorem Tryz.infoG : (Tryz.prog.info? 49).map (fun i => (i.zero, i.size, i.bytes)) = some (some (.agg #[.string ⟨#[]⟩, .int .i64 0, .int .i64 0, .int .i64 0, .int .i64 0, .int .i64 0, .int .i64 0, .int .i64 0, .int .i64 0, .slice none 0 0]), 10, 104) := by kernel_rfl
structure Dgs (w : World) (a : Option Addr) (cap : Nat) (gs : List G) : Prop where
 len : gs.length ≤ cap
 bound : cap ≤ 9223372036854775807
 at_ : ∀ i g, gs[i]? = some g → ∃ b off, a = some ⟨b, off, none⟩ ∧ (∀ j u, (gcs g)[j]? = some u → w.cell? ⟨b, off + i * 10 + j, none⟩ = some u) ∧ RowD w g.a g.cap g.ds
theorem Dgs.nil (w : World) (a : Option Addr) (cap : Nat) (h : cap ≤ 9223372036854775807) : Dgs w a cap [] := ⟨by simp, h, fun i v h => by simp at h⟩
theorem Dgs.offN {D : Nat → Prop} {w w' : World} {a : Option Addr} {cap : Nat} {gs : List G} (h : Dgs w a cap gs) (o : Off D w w') (hN : NoI D w) : Dgs w' a cap gs :=
 ⟨h.len, h.bound, fun i g hi => by
  obtain ⟨b, off, rfl, h1, h2⟩ := h.at_ i g hi
  have hb : ¬ D b := fun e => hN.no ⟨b, off + i * 10 + 1, none⟩ e _ _ (h1 1 _ rfl)
  refine ⟨b, off, rfl, fun j u hj => ?_, h2.offN o hN⟩
  rw [← h1 j u hj]
  exact World.cell?_of_block (a := ⟨b, off + i * 10 + j, none⟩) (o.block b (cell_lt (h1 j u hj)) hb)⟩
theorem Dgs.off {w w' : World} {a : Option Addr} {cap : Nat} {gs : List G} (h : Dgs w a cap gs) (o : Off (fun _ => False) w w') : Dgs w' a cap gs := h.offN o (NoI.none w)
theorem dg10 {w : World} {b o : Nat} {g : G} (h : ∀ j u, (gcs g)[j]? = some u → w.cell? ⟨b, o + j, none⟩ = some u) : w.cell? ⟨b, o, none⟩ = some (.string g.key) ∧ w.cell? ⟨b, o + 1, none⟩ = some (.int .i64 (g.f 0)) ∧ w.cell? ⟨b, o + 2, none⟩ = some (.int .i64 (g.f 1)) ∧ w.cell? ⟨b, o + 3, none⟩ = some (.int .i64 (g.f 2)) ∧ w.cell? ⟨b, o + 4, none⟩ = some (.int .i64 (g.f 3)) ∧ w.cell? ⟨b, o + 5, none⟩ = some (.int .i64 (g.f 4)) ∧ w.cell? ⟨b, o + 6, none⟩ = some (.int .i64 (g.f 5)) ∧ w.cell? ⟨b, o + 7, none⟩ = some (.int .i64 (g.f 6)) ∧ w.cell? ⟨b, o + 8, none⟩ = some (.int .i64 (g.f 7)) ∧ w.cell? ⟨b, o + 9, none⟩ = some (.slice g.a g.ds.length g.cap) :=
 ⟨h 0 _ rfl, h 1 _ rfl, h 2 _ rfl, h 3 _ rfl, h 4 _ rfl, h 5 _ rfl, h 6 _ rfl, h 7 _ rfl, h 8 _ rfl, h 9 _ rfl⟩
theorem OwnG.dgs {w : World} {a : Option Addr} {cap : Nat} {gs : List G} (h : OwnG 49 10 gcs w a cap gs) (hr : ∀ g ∈ gs, RowD w g.a g.cap g.ds) : Dgs w a cap gs := by
 refine ⟨?_, ?_, fun i g hi => ?_⟩
 ·rcases h.row.2 with ⟨hv, h0⟩ | ⟨g, c, cur, hv, hb, hh, hc, -⟩
  ·omega
  ·simp only [Value.slice.injEq] at hv
   obtain ⟨-, -, rfl⟩ := hv
   exact hc
 ·rcases h.row.2 with ⟨hv, h0⟩ | ⟨g, c, cur, hv, hb, hh, hc, hm, -⟩
  ·simp only [Value.slice.injEq] at hv
   omega
  ·simp only [Value.slice.injEq] at hv
   obtain ⟨-, -, rfl⟩ := hv
   unfold maxLen at hm
   omega
 ·obtain ⟨b, rfl, hc⟩ := h.at_ gcs_len hi
  exact ⟨b, 0, rfl, fun j u hj => by have := hc j u hj; simpa using this, hr g (List.mem_of_getElem? hi)⟩
theorem idx_dots {m n : Nat} (h : n < m) (c g o : Nat) (W : World) : (Instr.indexAt 47 (.slice (some ⟨g, o, none⟩) m c) (.int .i64 (n : Int))).run Tryz.prog W = .ok (.pointer (some ⟨g, o + n * 2, none⟩)) W := by
 go_simp
theorem idx_dgs {m n : Nat} (h : n < m) (c g o : Nat) (W : World) : (Instr.indexAt 23 (.slice (some ⟨g, o, none⟩) m c) (.int .i64 (n : Int))).run Tryz.prog W = .ok (.pointer (some ⟨g, o + n * 10, none⟩)) W := by
 go_simp
def okD (f : Nat → Int) : Option (Int × Int) → List (Int × Int) → Bool
 | _, [] => true
 | none, d :: r => coversB f d.1 d.2 && okD f (some d) r
 | some p, d :: r => lessB p.1 p.2 d.1 d.2 && (coversB f d.1 d.2 && okD f (some d) r)
def prv (ds : List (Int × Int)) : Nat → Option (Int × Int)
 | 0 => none
 | n + 1 => ds[n]?
def mayD (g : GK) : Bool := keyB g.key && (mayB g.f && (decide (g.ds.length ≤ 16) && okD g.f none g.ds))
theorem okD_step {ds : List (Int × Int)} {n : Nat} {d : Int × Int} (h : ds[n]? = some d) : ds.drop n = d :: ds.drop (n + 1) := by
 obtain ⟨hl, he⟩ := List.getElem?_eq_some_iff.1 h
 rw [List.drop_eq_getElem_cons hl, he]
end Go.Proofs.YtmbphlkohlggfaaGreat
