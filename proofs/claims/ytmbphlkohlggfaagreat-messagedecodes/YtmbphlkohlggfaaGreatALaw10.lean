/- Items of several texts. -/
import Derived.Deep.Cut
import Derived.Deep.RegionHeld
import Derived.Lib.SlBytesConst
import Derived.Test.YtmbphlkohlggfaaGreatALiv
import Derived.Test.YtmbphlkohlggfaaGreatATxt
import Derived.Test.YtmbphlkohlggfaaGreatATbJ
namespace Go.Proofs.YtmbphlkohlggfaaGreat
open Go.RowKit
def ecs (e : E) : List Value := [.string e.key, .int .i64 (e.f 0), .int .i64 (e.f 1), .int .i64 (e.f 2), .int .i64 (e.f 3), .int .i64 (e.f 4), .int .i64 (e.f 5), .int .i64 (e.f 6), .int .i64 (e.f 7), .slice e.a e.l.length e.cap]
theorem ecs_len (e : E) : (ecs e).length = 10 := rfl
theorem ecs_one (e : E) : ∀ u ∈ ecs e, u.oneCell' = true := by simp [ecs, Value.oneCell']
theorem Tryz.infoE : (Tryz.prog.info? 46).map (fun i => (i.zero, i.size, i.bytes)) = some (some (.agg #[.string ⟨#[]⟩, .int .i64 0, .int .i64 0, .int .i64 0, .int .i64 0, .int .i64 0, .int .i64 0, .int .i64 0, .int .i64 0, .slice none 0 0]), 10, 104) := by kernel_rfl
end Go.Proofs.YtmbphlkohlggfaaGreat

namespace Go.Proofs.YtmbphlkohlggfaaGreat
open Go.RowKit
structure Ens (w : World) (a : Option Addr) (cap : Nat) (es : List E) : Prop where
 len : es.length ≤ cap
 bound : cap ≤ 9223372036854775807
 at_ : ∀ i e, es[i]? = some e → ∃ b off, a = some ⟨b, off, none⟩ ∧ (∀ j u, (ecs e)[j]? = some u → w.cell? ⟨b, off + i * 10 + j, none⟩ = some u) ∧ Row w e.a e.cap e.l
theorem Ens.offD {D : Nat → Prop} {w w' : World} {a : Option Addr} {cap : Nat} {es : List E} (h : Ens w a cap es) (o : Off D w w') (hN : NoI D w) : Ens w' a cap es :=
 ⟨h.len, h.bound, fun i e hi => by
  obtain ⟨b, off, ea, h1, h2⟩ := h.at_ i e hi
  refine ⟨b, off, ea, fun j u hj => ?_, h2.offN o hN⟩
  have k := h1 j u hj
  have k1 := h1 1 _ rfl
  rw [← k]
  exact World.cell?_of_block (a := ⟨b, off + i * 10 + j, none⟩) (o.block b (cell_lt k) (fun hd => hN.no ⟨b, off + i * 10 + 1, none⟩ hd _ _ k1))⟩
theorem Ens.off {w w' : World} {a : Option Addr} {cap : Nat} {es : List E} (h : Ens w a cap es) (o : Off (fun _ => False) w w') : Ens w' a cap es := h.offD o (NoI.none w)
theorem Ens.nil (w : World) (a : Option Addr) (cap : Nat) (h : cap ≤ 9223372036854775807) : Ens w a cap [] := ⟨by simp, h, fun i e hi => by simp at hi⟩
theorem OwnG.ens {w : World} {a : Option Addr} {cap : Nat} {es : List E} (h : OwnG 46 10 ecs w a cap es) (hr : ∀ e ∈ es, Row w e.a e.cap e.l) : Ens w a cap es := by
 have hb : es.length ≤ cap ∧ cap ≤ 9223372036854775807 := by
  rcases h.row.2 with ⟨hv, h0⟩ | ⟨g, c, cur, hv, hb, hh, hc, hm, -⟩
  ·simp only [Value.slice.injEq] at hv
   omega
  ·simp only [Value.slice.injEq] at hv
   unfold maxLen at hm
   omega
 refine ⟨hb.1, hb.2, fun i e hi => ?_⟩
 obtain ⟨g, e1, h1⟩ := h.at_ ecs_len hi
 exact ⟨g, 0, e1, fun j u hj => by rw [Nat.zero_add]; exact h1 j u hj, hr e (List.mem_of_getElem? hi)⟩
theorem ent10 {w : World} {b o : Nat} {e : E} (h : ∀ j u, (ecs e)[j]? = some u → w.cell? ⟨b, o + j, none⟩ = some u) : w.cell? ⟨b, o, none⟩ = some (.string e.key) ∧ w.cell? ⟨b, o + 1, none⟩ = some (.int .i64 (e.f 0)) ∧ w.cell? ⟨b, o + 2, none⟩ = some (.int .i64 (e.f 1)) ∧ w.cell? ⟨b, o + 3, none⟩ = some (.int .i64 (e.f 2)) ∧ w.cell? ⟨b, o + 4, none⟩ = some (.int .i64 (e.f 3)) ∧ w.cell? ⟨b, o + 5, none⟩ = some (.int .i64 (e.f 4)) ∧ w.cell? ⟨b, o + 6, none⟩ = some (.int .i64 (e.f 5)) ∧ w.cell? ⟨b, o + 7, none⟩ = some (.int .i64 (e.f 6)) ∧ w.cell? ⟨b, o + 8, none⟩ = some (.int .i64 (e.f 7)) ∧ w.cell? ⟨b, o + 9, none⟩ = some (.slice e.a e.l.length e.cap) :=
 ⟨h 0 _ rfl, h 1 _ rfl, h 2 _ rfl, h 3 _ rfl, h 4 _ rfl, h 5 _ rfl, h 6 _ rfl, h 7 _ rfl, h 8 _ rfl, h 9 _ rfl⟩
theorem idx_ents {m n : Nat} (h : n < m) (c g o : Nat) (W : World) : (Instr.indexAt 22 (.slice (some ⟨g, o, none⟩) m c) (.int .i64 (n : Int))).run Tryz.prog W = .ok (.pointer (some ⟨g, o + n * 10, none⟩)) W := by
 go_simp
end Go.Proofs.YtmbphlkohlggfaaGreat
