/- Rows that a call makes. -/
import Derived.Test.YtapopmcdnpplbaaRw21
namespace Go.Proofs.Ytapopmcdnpplbaa
open Go.RowKit

/-- A row of the call's own, of elements of so many cells. -/
structure OwnG {α : Type} (e : TypeId) (size : Nat) (cs : α → List Value) (w : World) (a : Option Addr) (cap : Nat) (l : List α) : Prop where
  row : w.ownsRow 0 e size (.slice a l.length cap) l.length (l.flatMap cs)
theorem OwnG.off {α : Type} {e : TypeId} {size : Nat} {cs : α → List Value} {D : Nat → Prop} {w w' : World} {a : Option Addr} {cap : Nat} {l : List α} (h : OwnG e size cs w a cap l) (k : Off D w w') (hD : ∀ c, c < w.heap.size → blk a = some c → ¬ D c) : OwnG e size cs w' a cap l := by
  refine ⟨h.row.1, ?_⟩
  rcases h.row.2 with h2 | ⟨g, c, cur, hv, hg, hh, r⟩
  · exact .inl h2
  · have hlt := lt_of_block hh
    simp only [Value.slice.injEq] at hv
    obtain ⟨rfl, -, rfl⟩ := hv
    exact .inr ⟨g, _, cur, rfl, hg, (k.block g hlt (hD g hlt rfl)).trans hh, r⟩
theorem OwnG.nil {α : Type} (e : TypeId) (size : Nat) (cs : α → List Value) (w : World) : OwnG e size cs w none 0 [] := ⟨World.ownsRow_nil w 0 _ size⟩
theorem OwnG.lt {α : Type} {e : TypeId} {size : Nat} {cs : α → List Value} {w : World} {a : Option Addr} {cap : Nat} {l : List α} (h : OwnG e size cs w a cap l) : ∀ c, blk a = some c → c < w.heap.size := fun c hc =>
  (World.ownsRow.lt h.row c (by rw [blk_own]; exact hc)).2
theorem flat_get {α : Type} {cs : α → List Value} {size : Nat} (hcs : ∀ x, (cs x).length = size) {l : List α} {i j : Nat} {x : α} {u : Value} (h : l[i]? = some x) (hu : (cs x)[j]? = some u) : (l.flatMap cs)[i * size + j]? = some u := by
  have hj : j < size := by
    obtain ⟨h, -⟩ := List.getElem?_eq_some_iff.1 hu
    rwa [hcs] at h
  induction l generalizing i with
  | nil => simp at h
  | cons y l ih =>
    cases i with
    | zero =>
      simp at h
      subst h
      simp only [Nat.zero_mul, Nat.zero_add, List.flatMap_cons]
      rw [List.getElem?_append_left (by rw [hcs]; exact hj)]
      exact hu
    | succ i =>
      have := ih (i := i) (by simpa using h)
      rw [List.flatMap_cons, List.getElem?_append_right (by rw [hcs, Nat.succ_mul]; omega), hcs]
      rw [show (i + 1) * size + j - size = i * size + j by rw [Nat.succ_mul]; omega]
      exact this
/-- Where its elements lie. -/
theorem OwnG.at_ {α : Type} {e : TypeId} {size : Nat} {cs : α → List Value} {w : World} {a : Option Addr} {cap : Nat} {l : List α} (h : OwnG e size cs w a cap l) (hcs : ∀ x, (cs x).length = size) {i : Nat} {x : α} (hi : l[i]? = some x) : ∃ g, a = some ⟨g, 0, none⟩ ∧ ∀ j u, (cs x)[j]? = some u → w.cell? ⟨g, i * size + j, none⟩ = some u := by
  rcases h.row.2 with ⟨hv, h0⟩ | ⟨g, c, cur, hv, hb, hh, hc, hm, -⟩
  · obtain rfl : l = [] := List.eq_nil_of_length_eq_zero h0
    simp at hi
  · simp only [Value.slice.injEq] at hv
    obtain ⟨rfl, -, rfl⟩ := hv
    refine ⟨g, rfl, fun j u hu => ?_⟩
    have := World.ownsRow.cells h.row (g := g) rfl _ _ (flat_get hcs hi hu)
    rw [add_lit, Nat.zero_add] at this
    exact this

/-- 'append(s, x)' of one element, laid in a block of its own. -/
theorem wpList_appG {α : Type} {w : World} {ops : Array Oper} {rest : List Oper} {o : Oper} {a : Act} {Q : Exit → Act → World → Prop} (hgd : o.guard = none) (s x : Operand) {t e : TypeId} {size bytes : Nat} {z : Value} {cs : α → List Value}
    (hu : Try.prog.underlying t = some (.slice e)) (hinfo : (Try.prog.info? e).map (fun i => (i.zero, i.size, i.bytes)) = some (some z, size, bytes)) (hz : z.cells.size = size) (hsz : 0 < size) (hby : bytes ≤ 1000) (hcs : ∀ x, (cs x).length = size) (h1 : ∀ x, ∀ u ∈ cs x, u.oneCell' = true)
    (ho : o.op = .call { callee := .builtin .append, args := #[s, x], argTypes := #[t, t] })
    (tad : Option Addr) (cap : Nat) (l : List α) (hs : a.eval s = .slice tad l.length cap) (own : OwnG e size cs w tad cap l)
    (g c : Nat) (b : α) (hx : a.eval x = .slice (some ⟨g, 0, none⟩) 1 c) (hc : ∀ j u, (cs b)[j]? = some u → w.cell? ⟨g, j, none⟩ = some u) (hb : l.length ≤ 1000000)
    (h : ∀ t' c' w' ys, Hid (ys = l ++ [b]) → OwnG e size cs w' t' c' ys → Off (fun c => blk tad = some c) w w' → (blk t' = blk tad ∨ blk t' = some w.heap.size) → wpList Try.prog ops Q rest (a.put o.dst (.slice t' ys.length c')) w') :
    wpList Try.prog ops Q (o :: rest) a w := by
  obtain ⟨i0, hi, hz0, hz1, hz2⟩ := info_parts hinfo
  have hbm : (l.length + 1) * bytes ≤ 140737488355328 := Nat.le_trans (Nat.mul_le_mul_left _ hby) (by omega)
  refine wpList_append_own_at w hgd s x t ho 0 e i0 z size bytes hu hi hz0 hz1 hz2 hz hsz _ _ _ hs own.row ⟨g, 0, none⟩ 1 c (cs b) hx (by rw [hcs]; simp) (fun j u hj => by rw [add_lit, Nat.zero_add]; exact hc j u hj) (h1 b) (by unfold maxLen; omega) hbm (Nat.zero_le _) ?_
  intro v' w' own' grow' hnil hat
  obtain ⟨t', c', rfl⟩ : ∃ t' c', v' = .slice t' (l ++ [b]).length c' := by
    rcases own'.2 with ⟨-, h0⟩ | ⟨g, c, cur, hv, -⟩
    · omega
    · exact ⟨_, _, by simpa using hv⟩
  rw [blk_own, blk_own] at hat
  rw [blk_own] at grow'
  refine h t' c' w' _ (show l ++ [b] = l ++ [b] from rfl) ⟨?_⟩ ((Off.refl _ w).grown grow' (fun k hk => .inl hk)) hat
  simpa using own'

/-- A beginning of such a row. -/
theorem OwnG.take {α : Type} {e : TypeId} {size : Nat} {cs : α → List Value} (hcs : ∀ x, (cs x).length = size) {w : World} {a : Option Addr} {cap : Nat} {l : List α} (h : OwnG e size cs w a cap l) {k : Nat} (hk : k ≤ l.length) : OwnG e size cs w a cap (l.take k) := by
  obtain ⟨h1, h2⟩ := h
  have hl : (l.take k).length = k := by rw [List.length_take]; omega
  have hfl : ∀ m : List α, (m.flatMap cs).length = m.length * size := fun m => by
    induction m with
    | nil => simp
    | cons x m ih => rw [List.flatMap_cons, List.length_append, hcs, ih, List.length_cons, Nat.succ_mul]; omega
  refine ⟨hfl _, ?_⟩
  rcases h2 with ⟨hv, h0⟩ | ⟨g, c, cur, hv, hb, hh, hc, hm, hs, ht⟩
  · simp only [Value.slice.injEq] at hv
    obtain rfl : l = [] := List.eq_nil_of_length_eq_zero h0
    exact .inl ⟨by simp [hv.1, hv.2.2], by simp⟩
  · simp only [Value.slice.injEq] at hv
    obtain ⟨rfl, -, rfl⟩ := hv
    refine .inr ⟨g, _, cur, rfl, hb, hh, by omega, hm, hs, ?_⟩
    have e : (l.flatMap cs).take (k * size) = (l.take k).flatMap cs := by
      have : l.flatMap cs = (l.take k).flatMap cs ++ (l.drop k).flatMap cs := by rw [← List.flatMap_append, List.take_append_drop]
      rw [this, List.take_left' (by rw [hfl, hl])]
    rw [← e, ← ht, List.take_take, hl]
    congr 1
    exact (Nat.min_eq_left (Nat.mul_le_mul_right _ hk)).symm
end Go.Proofs.Ytapopmcdnpplbaa
