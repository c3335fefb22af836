/- Items of several texts. -/
import Derived.Laws.OwnMore
import Derived.Test.YtmbphlkohlggfaaGreatAPut
import Derived.Test.YtmbphlkohlggfaaGreatADot5
namespace Go.Proofs.YtmbphlkohlggfaaGreat
open Go.RowKit
theorem vcs_inv : ∀ {l : List V} {j : Nat} {u : Value}, (vcs l)[j]? = some u → ∃ i v, l[i]? = some v ∧ ((j = i * 4 ∧ u = .int .i64 v.node) ∨ (j = i * 4 + 1 ∧ u = .int .i64 v.num) ∨ (j = i * 4 + 2 ∧ u = .slice v.ad v.data.length v.cap) ∨ (j = i * 4 + 3 ∧ u = .bool v.dead))
 | [], j, u, h => by simp [vcs] at h
 | v :: l, 0, u, h => by simp [vcs] at h; exact ⟨0, v, rfl, .inl ⟨rfl, h.symm⟩⟩
 | v :: l, 1, u, h => by simp [vcs] at h; exact ⟨0, v, rfl, .inr (.inl ⟨rfl, h.symm⟩)⟩
 | v :: l, 2, u, h => by simp [vcs] at h; exact ⟨0, v, rfl, .inr (.inr (.inl ⟨rfl, h.symm⟩))⟩
 | v :: l, 3, u, h => by simp [vcs] at h; exact ⟨0, v, rfl, .inr (.inr (.inr ⟨rfl, h.symm⟩))⟩
 | v :: l, j + 4, u, h => by
  obtain ⟨i, x, hi, hx⟩ := vcs_inv (l := l) (j := j) (u := u) (by simpa [vcs] using h)
  refine ⟨i + 1, x, by simpa using hi, ?_⟩
  rcases hx with ⟨rfl, e⟩ | ⟨rfl, e⟩ | ⟨rfl, e⟩ | ⟨rfl, e⟩
  ·exact .inl ⟨by omega, e⟩
  ·exact .inr (.inl ⟨by omega, e⟩)
  ·exact .inr (.inr (.inl ⟨by omega, e⟩))
  ·exact .inr (.inr (.inr ⟨by omega, e⟩))
theorem vcs_one : ∀ (l : List V), ∀ u ∈ vcs l, u.oneCell' = true
 | [], u, h => by simp [vcs] at h
 | v :: l, u, h => by
  simp only [vcs, List.mem_cons] at h
  rcases h with rfl | rfl | rfl | rfl | h
  ·rfl
  ·rfl
  ·rfl
  ·rfl
  ·exact vcs_one l u h
theorem Row.news {w : World} {b : Addr} {cap : Nat} {l : List V} (h : Row w (some b) cap l) : ∀ j u, (vcs l)[j]? = some u → w.cell? (b.add j) = some u := by
 intro j u hj
 obtain ⟨i, v, hi, hx⟩ := vcs_inv hj
 obtain ⟨bb, off, e, h4, -⟩ := h.at_ i v hi
 simp only [Option.some.injEq] at e
 subst e
 rw [add_lit]
 rcases hx with ⟨rfl, rfl⟩ | ⟨rfl, rfl⟩ | ⟨rfl, rfl⟩ | ⟨rfl, rfl⟩
 ·exact h4.c0
 ·exact h4.c1
 ·exact h4.c2
 ·exact h4.c3
theorem app_runV {w : World} {a : Option Addr} {cap : Nat} {l : List V} (hown : OwnV w a cap l) {b : Option Addr} {cb : Nat} {k : List V} (hr : Row w b cb k) (hz : b = none → cb = 0) (hb : l.length + k.length ≤ 1000000) (ty : TypeId) :
  ∃ a' c' w', (Builtin.append_ #[42, 42] ty #[.slice a l.length cap, .slice b k.length cb]).run Tryz.prog w = .ok (.slice a' (l ++ k).length c') w' ∧ OwnV w' a' c' (l ++ k) ∧ Off (fun c => blk a = some c) w w' ∧ (blk a' = blk a ∨ blk a' = some w.heap.size) := by
 obtain ⟨i0, hi, hz0, hz1, hz2⟩ := info_parts Tryz.infoV
 cases b with
 | none =>
  obtain rfl : cb = 0 := hz rfl
  obtain rfl : k = [] := List.eq_nil_of_length_eq_zero (by have := hr.len; omega)
  refine ⟨a, cap, w, ?_, by rw [List.append_nil]; exact hown, Off.refl _ w, .inl rfl⟩
  rw [List.append_nil]
  exact run_append_owned_none (P := Tryz.prog) (w := w) 0 42 ty 137 i0 4 Tryz.underlying42 hi _ _ _ hown.row
 | some ad =>
  obtain ⟨v', w', hrun, own', grow', -, hat⟩ := run_append_own_at (P := Tryz.prog) w 0 42 ty 137 i0 (.agg #[.int .i64 0, .int .i64 0, .slice none 0 0, .bool false]) 4 48 Tryz.underlying42 hi hz0 hz1 hz2 rfl (by decide) _ _ _ hown.row ad k.length cb (vcs k) (vcs_len k) hr.news (vcs_one k) (by unfold maxLen; omega) (by omega) (Nat.zero_le _)
  rw [← vcs_append, ← List.length_append] at own'
  obtain ⟨t', c', rfl⟩ : ∃ t' c', v' = .slice t' (l ++ k).length c' := by
   rcases own'.2 with ⟨rfl, h0⟩ | ⟨g, c, cur, hv, -⟩
   ·exact ⟨none, 0, by rw [h0]⟩
   ·exact ⟨_, _, hv⟩
  rw [blk_own, blk_own] at hat
  rw [blk_own] at grow'
  exact ⟨t', c', w', hrun, ⟨own'⟩, (Off.refl _ w).grown grow' (fun k hk => .inl hk), hat⟩
end Go.Proofs.YtmbphlkohlggfaaGreat
