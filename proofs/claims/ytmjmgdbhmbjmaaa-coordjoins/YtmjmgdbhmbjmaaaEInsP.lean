/- Items of several texts. -/
import Derived.Laws.OwnMore
import Derived.Test.YtmjmgdbhmbjmaaaEPut
import Derived.Test.YtmjmgdbhmbjmaaaEThy2
namespace Go.Proofs.Ytmjmgdbhmbjmaaa
open Go.RowKit
theorem add_zero5 (a : Addr) : a.add 0 = a := by unfold Addr.add; split <;> simp_all
theorem sizeV (W : World) : (sizeOf (Try.prog.elem 31)).run Try.prog W = .ok 4 W := by
 have : Try.prog.elem 31 = 92 := by kernel_rfl
 rw [this]
 obtain ⟨i0, hi, hz0, hz1, hz2⟩ := info_parts Try.infoV
 simp [sizeOf, typeInfo, hi, hz1]
theorem Row.slh {w : World} {a : Option Addr} {cap : Nat} {l : List V} (h : Row w a cap l) {k : Nat} (hk : k ≤ l.length) :
  (∀ W, (Instr.slice 31 (.slice a l.length cap) none (some (.int .i64 (k : Int))) none).run Try.prog W = .ok (.slice a (l.take k).length cap) W) ∧ Row w a cap (l.take k) := by
 have hc := h.len
 have hb := h.bound
 refine ⟨fun W => ?_, ⟨by simp; omega, hb, fun i v hi => ?_⟩⟩
 ·rw [run_slice_h (P := Try.prog) (t := 31) (ht := by kernel_rfl) (h0 := by omega) (h2 := by omega), sizeV]
  have e : (l.take k).length = k := by simp; omega
  rw [e]
  cases a <;> simp [Result.andThen, sliced, add_zero5]
 ·refine h.at_ i v ?_
  rw [List.getElem?_take] at hi
  split at hi
  ·exact hi
  ·simp at hi
theorem Row.sll {w : World} {a : Option Addr} {cap : Nat} {l : List V} (h : Row w a cap l) (hz : a = none → cap = 0) {k : Nat} (hk : k ≤ l.length) :
  ∃ a', (∀ W, (Instr.slice 31 (.slice a l.length cap) (some (.int .i64 (k : Int))) none none).run Try.prog W = .ok (.slice a' (l.drop k).length (cap - k)) W) ∧ Row w a' (cap - k) (l.drop k) ∧ (a' = none → cap - k = 0) := by
 have hc := h.len
 have hb := h.bound
 refine ⟨if cap = k then a else a.map (·.add (k * 4)), fun W => ?_, ⟨by simp; omega, by omega, fun i v hi => ?_⟩, fun e => ?_⟩
 ·rw [run_slice_l (P := Try.prog) (t := 31) (ht := by kernel_rfl) (h0 := by omega) (h1 := by omega), sizeV]
  simp [Result.andThen, sliced]
 ·obtain ⟨b, off, rfl, h1, h2⟩ := h.at_ (k + i) v (by simpa using hi)
  have hl : k + i < l.length := by
   obtain ⟨h, -⟩ := List.getElem?_eq_some_iff.1 hi
   simp at h
   omega
  rw [if_neg (by omega)]
  refine ⟨b, off + k * 4, by simp [add_lit], ?_, h2⟩
  rw [show off + k * 4 + i * 4 = off + (k + i) * 4 by omega]
  exact h1
 ·split at e
  ·omega
  ·rw [Option.map_eq_none_iff] at e
   have := hz e
   omega
theorem vcs_inv : ∀ {l : List V} {j : Nat} {u : Value}, (vcs l)[j]? = some u → ∃ i v, l[i]? = some v ∧ ((j = i * 4 ∧ u = .int .i64 v.node) ∨ (j = i * 4 + 1 ∧ u = .int .i64 v.num) ∨ (j = i * 4 + 2 ∧ u = .slice v.ad v.data.length v.cap) ∨ (j = i * 4 + 3 ∧ u = .bool v.dead))
 | [], j, u, h => by simp [vcs] at h
 | v :: l, 0, u, h => by simp [vcs] at h; exact ⟨0, v, rfl, .inl ⟨rfl, h.symm⟩⟩
 | v :: l, 1, u, h => by simp [vcs] at h; exact ⟨0, v, rfl, .inr (.inl ⟨rfl, h.symm⟩)⟩
 | v :: l, 2, u, h => by simp [vcs] at h; exact ⟨0, v, rfl, .inr (.inr (.inl ⟨rfl, h.symm⟩))⟩
 | v :: l, 3, u, h => by simp [vcs] at h; exact ⟨0, v, rfl, .inr (.inr (.inr ⟨rfl, h.symm⟩))⟩
 | v :: l, j + 4, u, h => by
  obtain ⟨i, x, hi, hx⟩ := vcs_inv (l := l) (j := j) (u := u) (by simpa [vcs] using h)
  refine ⟨i + 1, x, by simpa using hi, ?_⟩
  rcases hx with ⟨rfl, e⟩ | ⟨rfl, e⟩ | ⟨rfl, e⟩ | ⟨rfl, e⟩
  ·exact .inl ⟨by omega, e⟩
  ·exact .inr (.inl ⟨by omega, e⟩)
  ·exact .inr (.inr (.inl ⟨by omega, e⟩))
  ·exact .inr (.inr (.inr ⟨by omega, e⟩))
theorem vcs_one : ∀ (l : List V), ∀ u ∈ vcs l, u.oneCell' = true
 | [], u, h => by simp [vcs] at h
 | v :: l, u, h => by
  simp only [vcs, List.mem_cons] at h
  rcases h with rfl | rfl | rfl | rfl | h
  ·rfl
  ·rfl
  ·rfl
  ·rfl
  ·exact vcs_one l u h
theorem Row.news {w : World} {b : Addr} {cap : Nat} {l : List V} (h : Row w (some b) cap l) : ∀ j u, (vcs l)[j]? = some u → w.cell? (b.add j) = some u := by
 intro j u hj
 obtain ⟨i, v, hi, hx⟩ := vcs_inv hj
 obtain ⟨bb, off, e, h4, -⟩ := h.at_ i v hi
 simp only [Option.some.injEq] at e
 subst e
 rw [add_lit]
 rcases hx with ⟨rfl, rfl⟩ | ⟨rfl, rfl⟩ | ⟨rfl, rfl⟩ | ⟨rfl, rfl⟩
 ·exact h4.c0
 ·exact h4.c1
 ·exact h4.c2
 ·exact h4.c3
theorem OwnV.zero {w : World} {a : Option Addr} {cap : Nat} {l : List V} (h : OwnV w a cap l) : a = none → cap = 0 := by
 intro e
 rcases h.row.2 with ⟨hv, -⟩ | ⟨g, c, cur, hv, -⟩
 ·simp only [Value.slice.injEq] at hv
  exact hv.2.2
 ·simp only [Value.slice.injEq] at hv
  rw [e] at hv
  simp at hv
theorem app_runV {w : World} {a : Option Addr} {cap : Nat} {l : List V} (hown : OwnV w a cap l) {b : Option Addr} {cb : Nat} {k : List V} (hr : Row w b cb k) (hz : b = none → cb = 0) (hb : l.length + k.length ≤ 1000000) (ty : TypeId) :
  ∃ a' c' w', (Builtin.append_ #[31, 31] ty #[.slice a l.length cap, .slice b k.length cb]).run Try.prog w = .ok (.slice a' (l ++ k).length c') w' ∧ OwnV w' a' c' (l ++ k) ∧ Off (fun c => blk a = some c) w w' ∧ (blk a' = blk a ∨ blk a' = some w.heap.size) := by
 obtain ⟨i0, hi, hz0, hz1, hz2⟩ := info_parts Try.infoV
 cases b with
 | none =>
  obtain rfl : cb = 0 := hz rfl
  obtain rfl : k = [] := List.eq_nil_of_length_eq_zero (by have := hr.len; omega)
  refine ⟨a, cap, w, ?_, by rw [List.append_nil]; exact hown, Off.refl _ w, .inl rfl⟩
  rw [List.append_nil]
  exact run_append_owned_none (P := Try.prog) (w := w) 0 31 ty 92 i0 4 Try.underlying31 hi _ _ _ hown.row
 | some ad =>
  obtain ⟨v', w', hrun, own', grow', -, hat⟩ := run_append_own_at (P := Try.prog) w 0 31 ty 92 i0 (.agg #[.int .i64 0, .int .i64 0, .slice none 0 0, .bool false]) 4 48 Try.underlying31 hi hz0 hz1 hz2 rfl (by decide) _ _ _ hown.row ad k.length cb (vcs k) (vcs_len k) hr.news (vcs_one k) (by unfold maxLen; omega) (by omega) (Nat.zero_le _)
  rw [← vcs_append, ← List.length_append] at own'
  obtain ⟨t', c', rfl⟩ : ∃ t' c', v' = .slice t' (l ++ k).length c' := by
   rcases own'.2 with ⟨rfl, h0⟩ | ⟨g, c, cur, hv, -⟩
   ·exact ⟨none, 0, by rw [h0]⟩
   ·exact ⟨_, _, hv⟩
  rw [blk_own, blk_own] at hat
  rw [blk_own] at grow'
  exact ⟨t', c', w', hrun, ⟨own'⟩, (Off.refl _ w).grown grow' (fun k hk => .inl hk), hat⟩
theorem ins_mem {α : Type} {l : List α} {k : Nat} {x z : α} : z ∈ l.take k ++ x :: l.drop k ↔ z = x ∨ z ∈ l := by
 have e : z ∈ l ↔ z ∈ l.take k ∨ z ∈ l.drop k := by rw [← List.mem_append, List.take_append_drop]
 rw [List.mem_append, List.mem_cons, e]
 constructor
 ·rintro (h | h | h) <;> simp [h]
 ·rintro (h | h | h) <;> simp [h]
theorem ins_srt {l : List A} {k : Nat} {x : A} (h : Srt l) (h1 : ∀ z ∈ l.take k, LT z x) (h2 : ∀ y, l[k]? = some y → ¬ LT y x) (hne : ∀ y ∈ l, ¬ EQ y x) : Srt (l.take k ++ x :: l.drop k) := by
 have hd : Srt (l.drop k) := List.Pairwise.sublist (List.drop_sublist k l) h
 have ht : Srt (l.take k) := List.Pairwise.sublist (List.take_sublist k l) h
 have h3 : ∀ y ∈ l.drop k, LT x y := by
  intro y hy
  cases hk : l.drop k with
  | nil => rw [hk] at hy; simp at hy
  | cons y0 rest =>
   have hy0 : l[k]? = some y0 := by
    have : (l.drop k)[0]? = some y0 := by rw [hk]; rfl
    simpa using this
   have hx : LT x y0 := by
    rcases tri x y0 with h | h | h
    ·exact h
    ·exact absurd h (h2 y0 hy0)
    ·exact absurd h.symm (hne y0 (List.mem_of_getElem? hy0))
   rw [hk, List.mem_cons] at hy
   rcases hy with rfl | hy
   ·exact hx
   ·rw [hk] at hd
    exact hx.trans (List.rel_of_pairwise_cons hd hy)
 unfold Srt at *
 rw [List.pairwise_append, List.pairwise_cons]
 refine ⟨ht, ⟨h3, hd⟩, fun a ha b hb => ?_⟩
 rw [List.mem_cons] at hb
 rcases hb with rfl | hb
 ·exact h1 a ha
 ·exact (h1 a ha).trans (h3 b hb)
end Go.Proofs.Ytmjmgdbhmbjmaaa
