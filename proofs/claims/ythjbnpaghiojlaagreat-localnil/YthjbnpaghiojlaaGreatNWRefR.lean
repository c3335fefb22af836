/- Items of several texts. -/
import Derived.Test.YthjbnpaghiojlaaGreatNWFlag
namespace Go.Proofs.YthjbnpaghiojlaaGreat
open Go.RowKit

theorem Rdr.cells {T : TypeId} {D : Nat → Prop} {b : Nat} {l : List Nat} {er : Nat} {w : World} (h : Rdr T D b (l, er) w) : ∃ tad cap, w.cell? ⟨b, 0, none⟩ = some (.slice tad l.length cap) ∧ w.cell? ⟨b, 1, none⟩ = some (.int .i64 ((er : Nat) : Int)) ∧ w.frozen? ⟨b, 0, none⟩ = false ∧ Cel b T #[.slice tad l.length cap, .int .i64 ((er : Nat) : Int)] w ∧ Lie D w tad cap l := by
  obtain ⟨tad, cap, h1, h2⟩ := h.is
  exact ⟨tad, cap, by rw [h1.cell]; rfl, by rw [h1.cell]; rfl, h1.free 0, h1, h2⟩

end Go.Proofs.YthjbnpaghiojlaaGreat
