/- Items of several texts. -/
import Derived.Deep.RegionHeld
import Derived.Deep.Cut
import Derived.Test.YtpnnpdfmoldiiaaDRefA
import Derived.Test.YtpnnpdfmoldiiaaDDot5
import Derived.Test.YtpnnpdfmoldiiaaDDg0
import Derived.Test.YtpnnpdfmoldiiaaDBks
namespace Go.Proofs.Ytpnnpdfmoldiiaa
open Go.RowKit
theorem app_one {α : Type} {t e : TypeId} {size bytes : Nat} {z : Value} {cs : α → List Value}
  (hu : Try.prog.underlying t = some (.slice e)) (hinfo : (Try.prog.info? e).map (fun i => (i.zero, i.size, i.bytes)) = some (some z, size, bytes)) (hz : z.cells.size = size) (hsz : 0 < size) (hby : bytes ≤ 1000) (hcs : ∀ x, (cs x).length = size) (h1 : ∀ x, ∀ u ∈ cs x, u.oneCell' = true)
  {w : World} {tad : Option Addr} {cap : Nat} {l : List α} (own : OwnG e size cs w tad cap l) {g xc : Nat} {x : α} (src : ∀ j u, (cs x)[j]? = some u → w.cell? ⟨g, j, none⟩ = some u) (hb : l.length ≤ 1000000) (ty : TypeId) :
  ∃ t' c' w', (Builtin.append_ #[t, t] ty #[.slice tad l.length cap, .slice (some ⟨g, 0, none⟩) 1 xc]).run Try.prog w = .ok (.slice t' (l ++ [x]).length c') w' ∧ OwnG e size cs w' t' c' (l ++ [x]) ∧ Off (fun c => blk tad = some c) w w' ∧ (blk t' = blk tad ∨ blk t' = some w.heap.size) := by
 obtain ⟨i0, hi, hz0, hz1, hz2⟩ := info_parts hinfo
 have fl : ([x].flatMap cs) = cs x := by simp
 have hbm : (l.length + 1) * bytes ≤ 140737488355328 := Nat.le_trans (Nat.mul_le_mul_left _ hby) (by omega)
 obtain ⟨v', w', hr, own', grow', -, hat⟩ := run_append_own_at (P := Try.prog) w 0 t ty e i0 z size bytes hu hi hz0 hz1 hz2 hz hsz _ _ _ own.row ⟨g, 0, none⟩ 1 xc ([x].flatMap cs) (by rw [fl, hcs, Nat.one_mul]) (fun j u hj => by
  rw [fl] at hj
  rw [add_lit, Nat.zero_add]
  exact src j u hj) (fun u hu => by
   rw [fl] at hu
   exact h1 x u hu) (by unfold maxLen; omega) hbm (Nat.zero_le _)
 rw [← List.flatMap_append] at own'
 have el : l.length + 1 = (l ++ [x]).length := by simp
 rw [el] at own'
 obtain ⟨t', c', rfl⟩ : ∃ t' c', v' = .slice t' (l ++ [x]).length c' := by
  rcases own'.2 with ⟨rfl, h0⟩ | ⟨g, c, cur, hv, -⟩
  ·exact ⟨none, 0, by rw [h0]⟩
  ·exact ⟨_, _, hv⟩
 rw [blk_own, blk_own] at hat
 rw [blk_own] at grow'
 exact ⟨t', c', w', hr, ⟨own'⟩, (Off.refl _ w).grown grow' (fun k hk => .inl hk), hat⟩
end Go.Proofs.Ytpnnpdfmoldiiaa
