/- 'append' of points, as a run. -/
import Derived.Test.YtpiknkgnmjcjjaaSea14
namespace Go.Proofs.Ytpiknkgnmjcjjaa
set_option maxRecDepth 100000
open Go.RowKit

theorem wp_append_if {P : Program} {o : Oper} {a : Act} {w w' : World} {K : Act → World → Prop} {Q : Exit → Act → World → Prop} {y : Nat → Option Bool} {E : Prop} (hw : Region.wanted o y = true) (s x : Operand) {t u : TypeId}
    (ho : o.op = .call { callee := .builtin .append, args := #[s, x], argTypes := #[t, u] }) {v v' X : Value} (hs : a.eval s = v) (hx : a.eval x = X) (hr : (Builtin.append_ #[t, u] o.type #[v, X]).run P w = .ok v' w')
    (d : Nat) (hd : o.dst = some d) (h : K (a.put (some d) v') w') : if Region.wanted o y = true then Oper.wp P o a w K Q else E := by
  rw [if_pos hw]
  unfold Oper.wp execOp
  simp only [ho, resolve, invoke, builtin, Sem.run_bind, Sem.run_pure, Result.andThen_ok, List.map_toArray, List.map_cons, List.map_nil, hs, hx, hr]
  rw [← hd] at h
  exact h


theorem flat_len {α : Type} {cs : α → List Value} {size : Nat} (hcs : ∀ x, (cs x).length = size) (m : List α) : (m.flatMap cs).length = m.length * size := by
  induction m with
  | nil => simp
  | cons x m ih => rw [List.flatMap_cons, List.length_append, hcs, ih, List.length_cons, Nat.succ_mul]; omega
theorem RowP.cells {w : World} {xt : Option Addr} {xc : Nat} {m : List Pn} (h : RowP w xt xc m) {g o : Nat} (e : xt = some ⟨g, o, none⟩) : ∀ j u, (m.flatMap pcs)[j]? = some u → w.cell? ((⟨g, o, none⟩ : Addr).add j) = some u := by
  intro j u hj
  subst e
  obtain ⟨hl, -⟩ := List.getElem?_eq_some_iff.1 hj
  rw [flat_len pcs_len] at hl
  have hi : j / 3 < m.length := by omega
  have hr : j % 3 < 3 := Nat.mod_lt _ (by omega)
  obtain ⟨g', o', e', h0, h1, h2⟩ := h.at_ (j / 3) m[j / 3] (List.getElem?_eq_getElem hi)
  simp only [Option.some.injEq, Addr.mk.injEq, and_true] at e'
  obtain ⟨rfl, rfl⟩ := e'
  have ej : j = j / 3 * 3 + j % 3 := by omega
  have key : ∀ r v, j % 3 = r → (pcs m[j / 3])[r]? = some v → u = v := fun r v hr hv => by
    have := flat_get (cs := pcs) pcs_len (List.getElem?_eq_getElem hi) hv
    rw [← hr, ← ej, hj] at this
    exact Option.some.inj this
  rw [add_lit]
  obtain hr | hr | hr : j % 3 = 0 ∨ j % 3 = 1 ∨ j % 3 = 2 := by omega
  · rw [key 0 _ hr rfl, ← h0]
    congr 2
    omega
  · rw [key 1 _ hr rfl, ← h1]
    congr 2
    omega
  · rw [key 2 _ hr rfl, ← h2]
    congr 2
    omega
/-- 'append(s, x...)' of points, s the call's own. -/
theorem appP_run {t e : TypeId} (hu : Try.prog.underlying t = some (.slice e)) (hinfo : (Try.prog.info? e).map (fun i => (i.zero, i.size, i.bytes)) = some (some (.agg #[.int .u32 0, .int .i64 0, .int .i64 0]), 3, 24))
    {w : World} {tad : Option Addr} {cap : Nat} {l : List Pn} (own : OwnG e 3 pcs w tad cap l) {xt : Option Addr} {xc : Nat} {m : List Pn} (src : RowP w xt xc m) (hn : xt = none → xc = 0) (hb : l.length + m.length ≤ 1000000) (ty : TypeId) :
    ∃ t' c' w', (Builtin.append_ #[t, t] ty #[.slice tad l.length cap, .slice xt m.length xc]).run Try.prog w = .ok (.slice t' (l ++ m).length c') w' ∧ OwnG e 3 pcs w' t' c' (l ++ m) ∧ Off (fun c => blk tad = some c) w w' ∧ (blk t' = blk tad ∨ blk t' = some w.heap.size) := by
  obtain ⟨i0, hi, hz0, hz1, hz2⟩ := info_parts hinfo
  cases xt with
  | none =>
    obtain rfl := hn rfl
    obtain rfl : m = [] := List.eq_nil_of_length_eq_zero (Nat.le_zero.1 src.len)
    refine ⟨tad, cap, w, ?_, by rw [List.append_nil]; exact own, Off.refl _ w, .inl rfl⟩
    rw [List.append_nil]
    exact run_append_owned_none (P := Try.prog) (w := w) 0 t ty e i0 3 hu hi _ _ _ own.row
  | some ad =>
    have hc : ∀ j u, (m.flatMap pcs)[j]? = some u → w.cell? (ad.add j) = some u := by
      cases m with
      | nil => intro j u hj; simp at hj
      | cons x m =>
        obtain ⟨g, o, e1, -⟩ := src.at_ 0 x rfl
        obtain rfl := Option.some.inj e1
        exact src.cells rfl
    have hbm : (l.length + m.length) * 24 ≤ 140737488355328 := by omega
    obtain ⟨v', w', hr, own', grow', -, hat⟩ := run_append_own_at (P := Try.prog) w 0 t ty e i0 _ 3 24 hu hi hz0 hz1 hz2 rfl (by omega) _ _ _ own.row ad m.length xc (m.flatMap pcs) (flat_len pcs_len m) hc (fun u hu => by
      simp only [List.mem_flatMap] at hu
      obtain ⟨x, -, hu⟩ := hu
      exact pcs_one x u hu) (by unfold maxLen; omega) hbm (Nat.zero_le _)
    rw [← List.flatMap_append, ← List.length_append] at own'
    obtain ⟨t', c', rfl⟩ : ∃ t' c', v' = .slice t' (l ++ m).length c' := by
      rcases own'.2 with ⟨rfl, h0⟩ | ⟨g, c, cur, hv, -⟩
      · exact ⟨none, 0, by rw [h0]⟩
      · exact ⟨_, _, hv⟩
    rw [blk_own, blk_own] at hat
    rw [blk_own] at grow'
    exact ⟨t', c', w', hr, ⟨own'⟩, (Off.refl _ w).grown grow' (fun k hk => .inl hk), hat⟩
theorem rowP_new (w : World) (e : TypeId) (x : Pn) : RowP (w.alloc (.cells #[.int .u32 (x.1 : Nat), .int .i64 (x.2.1 : Nat), .int .i64 (x.2.2 : Nat)] e)) (some ⟨w.heap.size, 0, none⟩) 1 [x] := by
  have C := Cel.new w e #[.int .u32 (x.1 : Nat), .int .i64 (x.2.1 : Nat), .int .i64 (x.2.2 : Nat)]
  refine ⟨by simp, fun i y hi => ?_⟩
  match i, hi with
  | 0, hi =>
    simp at hi
    subst hi
    exact ⟨_, 0, rfl, C.cell 0, C.cell 1, C.cell 2⟩
end Go.Proofs.Ytpiknkgnmjcjjaa
