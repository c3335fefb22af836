/- A slice of calls that came in; appends of rows as runs; what a log and the law's own rows are at a round. -/
import Derived.Test.YtmdhcoplhibbeaaLasts8
namespace Go.Proofs.Ytmdhcoplhibbeaa
open Go.ChangeShapes Go.WideShapes Go.ChangeAt Go.RowKit

/-- A call as data. -/
structure CallD where
  act : Int
  tt : Option Addr
  tc : Nat
  text : List Nat
  ra : Option Addr
  rc : Nat
  rows : List B

/-- It lies there. -/
structure CallOk (w : World) (b off : Nat) (c : CallD) : Prop where
  c0 : w.cell? ⟨b, off, none⟩ = some (.int .i64 c.act)
  c1 : w.cell? ⟨b, off + 1, none⟩ = some (.slice c.tt c.text.length c.tc)
  c2 : w.cell? ⟨b, off + 2, none⟩ = some (.slice c.ra c.rows.length c.rc)
  inp : Inp w c.tt c.tc c.text
  tl : c.text.length ≤ 9223372036854775807
  rws : ArgL w c.ra c.rows

structure ArgC (w : World) (a : Option Addr) (len : Nat) (cs : Nat → CallD) : Prop where
  bound : len ≤ 9223372036854775807
  at_ : ∀ i, i < len → ∃ b off, a = some ⟨b, off, none⟩ ∧ b < w.heap.size ∧ CallOk w b (off + i * 3) (cs i)

section
variable {H : Type} {enc : TypeId × Value → H}

theorem list3 {α : Type} (l : List α) (h : l.length = 3) : ∃ a b c, l = [a, b, c] := by
  match l, h with
  | [a, b, c], _ => exact ⟨a, b, c, rfl⟩

theorem cellsC : Try.prog.cellsOf 45 = 3 := by kernel_rfl
theorem fieldsC : ∃ f0 f1 f2 : Field, Try.prog.underlying 45 = some (.struct #[f0, f1, f2]) ∧ (f0.offset = 0 ∧ f0.type = 3) ∧ (f1.offset = 1 ∧ f1.type = 23) ∧ (f2.offset = 2 ∧ f2.type = 22) :=
  ⟨_, _, _, Try.underlying45, ⟨rfl, rfl⟩, ⟨rfl, rfl⟩, ⟨rfl, rfl⟩⟩
theorem one3 : Try.prog.cellsOf 3 = 1 := by kernel_rfl
theorem oneD : Try.prog.cellsOf 22 = 1 := by kernel_rfl

theorem isRow_inp {w : World} {a : Option Addr} {len cap : Nat} {zs : List Int} (h : IsRow .u8 w a len cap zs) (hlc : len ≤ cap) : ∃ bs : List Nat, bs.length = len ∧ Inp w a cap bs := by
  refine ⟨(List.range len).map (bytesOf zs), by simp, ⟨⟨?_⟩, by simpa using hlc, fun x hx => ?_⟩⟩
  · rcases h with ⟨rfl, rfl, rfl, rfl⟩ | ⟨x, rfl, h1⟩
    · exact .inl ⟨rfl, by simp, rfl⟩
    · refine .inr ⟨x, rfl, fun j u hj => ?_⟩
      have hj' := vl_lt hj
      simp only [List.length_map, List.length_range] at hj'
      have hr : IsRow .u8 w (some x) len cap zs := .inr ⟨x, rfl, h1⟩
      obtain ⟨-, b, off, he, -, hc⟩ := hr.bytes j hj'
      simp only [Option.some.injEq] at he
      subst he
      rw [add_lit, hc]
      rw [vl_get _ _ (by simpa using hj')] at hj
      simp [hj'] at hj
      rw [hj]
  · simp only [List.mem_map, List.mem_range] at hx
    obtain ⟨i, hi, rfl⟩ := hx
    exact (h.bytes i hi).1

/-- One element. -/
theorem call_of {w : World} {n : Nat} {vs : List Value} {d : DataW H} {pl : List MemPlace} {a : Addr} (h : DataW.trod enc Try.prog w 0 (fun _ => true) true n 45 vs = some (d, pl))
    (hc : ∀ k v, vs[k]? = some v → w.cell? (a.add k) = some v) : ∃ b off, a = ⟨b, off, none⟩ ∧ b < w.heap.size ∧ ∃ c, CallOk w b off c := by
  obtain ⟨f0, f1, f2, hu, ⟨o0, t0⟩, ⟨o1, t1⟩, ⟨o2, t2⟩⟩ := fieldsC
  obtain ⟨xs, m, -, hxy, hvl, hxl, hf⟩ := DataW.trod_struct hu h
  rw [cellsC] at hvl
  obtain ⟨v0, v1, v2, rfl⟩ := list3 vs hvl
  obtain ⟨x0, x1, x2, rfl⟩ := list3 xs (by simpa using hxl)
  have g0 := hf 0 f0 rfl
  have g1 := hf 1 f1 rfl
  have g2 := hf 2 f2 rfl
  rw [o0, t0, one3] at g0
  rw [o1, t1, oneB] at g1
  rw [o2, t2, oneD] at g2
  simp at g0 g1 g2
  obtain ⟨y0, e0, -, -⟩ := DataW.trod_int Try.underlying3 g0
  simp at e0
  subst e0
  have k0 := hc 0 _ rfl
  obtain ⟨b, off, spot⟩ := a
  have hspot : spot = none := by simpa [Addr.add] using World.cell?_spot k0
  subst hspot
  have k1 := hc 1 _ rfl
  have k2 := hc 2 _ rfl
  rw [add_lit] at k0 k1 k2
  refine ⟨b, off, rfl, cell_lt k0, ?_⟩
  obtain ⟨tt, len, tc, zs, rfl, hr, hmax, hlc⟩ : ∃ tt len tc zs, v1 = .slice tt len tc ∧ IsRow .u8 w tt len tc zs ∧ len ≤ maxLen ∧ len ≤ tc := by
    rcases open_ints Try.underlying23 Try.underlying5 (by kernel_rfl) g1 with ⟨hcs, -⟩ | ⟨x, l, c, zs, hcs, _, hl, hm, hz, hx, hcell, hwz⟩
    · simp at hcs
      exact ⟨none, 0, 0, [], hcs, .inl ⟨rfl, rfl, rfl, rfl⟩, by omega, by omega⟩
    · simp at hcs
      simp only [if_true] at hz
      exact ⟨_, _, _, zs, hcs, .inr ⟨_, rfl, hl, hm, hz, hcell, hwz⟩, by omega, hl⟩
  obtain ⟨bs, rfl, hin⟩ := isRow_inp hr hlc
  unfold maxLen at hmax
  obtain ⟨ra, rl, rc, rfl⟩ : ∃ ra rl rc, v2 = .slice ra rl rc := by
    rcases Go.Deep.open_slice Try.underlying22 g2 with ⟨hcs, -⟩ | ⟨x, l, c, m, n, D, Pl, hcs, -⟩
    · simp at hcs
      exact ⟨none, 0, 0, hcs⟩
    · simp at hcs
      exact ⟨_, _, _, hcs⟩
  obtain ⟨bl, rfl, hal⟩ := argL_of g2
  exact ⟨⟨y0, tt, tc, bs, ra, rc, bl⟩, ⟨k0, k1, k2, hin, by simp only; omega, hal⟩⟩

theorem argC_of {w : World} {fuel : Nat} {a : Option Addr} {len cap : Nat} {d : DataW H} {pl : List MemPlace} (h : DataW.trod enc Try.prog w 0 (fun _ => true) true fuel 43 [.slice a len cap] = some (d, pl)) :
    ∃ cs, ArgC w a len cs := by
  haveI : Inhabited CallD := ⟨⟨0, none, 0, [], none, 0, []⟩⟩
  rcases Go.Deep.open_slice Try.underlying43 h with ⟨hcs, -⟩ | ⟨x, l, c, m, n, D, Pl, hcs, -, hl, hm, hmm, hx, hel⟩
  · simp at hcs
    obtain ⟨rfl, rfl, rfl⟩ := hcs
    exact ⟨default, ⟨by omega, fun i hi => by omega⟩⟩
  · simp at hcs
    obtain ⟨rfl, rfl, rfl⟩ := hcs
    simp only [if_true] at hmm
    unfold maxLen at hm
    have each : ∀ i, i < len → ∃ c : CallD, (∃ b off, x.add (i * 3) = ⟨b, off, none⟩ ∧ b < w.heap.size ∧ CallOk w b off c) := by
      intro i hi
      obtain ⟨vs, hv, ht⟩ := hel i (by omega)
      rw [cellsC] at hv
      obtain ⟨-, hvl, hcell⟩ := World.cells?_some hv
      obtain ⟨b, off, e, hb, c, hc⟩ := call_of ht (fun k v hk => by
        have : k < 3 := by
          obtain ⟨h, -⟩ := List.getElem?_eq_some_iff.1 hk
          omega
        rw [hcell k this]
        exact hk)
      exact ⟨c, b, off, e, hb, hc⟩
    obtain ⟨cs, hc⟩ := Go.Deep.choose_lt each
    refine ⟨cs, ⟨by omega, fun i hi => ?_⟩⟩
    obtain ⟨b0, off0, e0, -⟩ := hc 0 (by omega)
    obtain ⟨b, off, e, hb, hk⟩ := hc i hi
    simp only [Nat.zero_mul] at e0
    obtain ⟨bx, ox, sx⟩ := x
    have e0' : (⟨bx, ox, sx⟩ : Addr) = ⟨b0, off0, none⟩ := by simpa [Addr.add] using e0
    simp only [Addr.mk.injEq] at e0'
    obtain ⟨rfl, rfl, rfl⟩ := e0'
    rw [add_lit] at e
    simp only [Addr.mk.injEq, and_true] at e
    obtain ⟨rfl, rfl⟩ := e
    exact ⟨bx, ox, rfl, hb, hk⟩
end

/-- 'append(s, x...)' of rows of one cell each, s the call's own, as a run. -/
theorem appG_run {α : Type} {w : World} {t e : TypeId} {bytes : Nat} {z : Value} {cs : α → List Value} (hu : Try.prog.underlying t = some (.slice e)) (hinfo : (Try.prog.info? e).map (fun i => (i.zero, i.size, i.bytes)) = some (some z, 1, bytes)) (hz : z.cells.size = 1) (hby : bytes ≤ 1000) (hcs : ∀ x, (cs x).length = 1) (h1 : ∀ x, ∀ u ∈ cs x, u.oneCell' = true)
    {tad : Option Addr} {cap : Nat} {l : List α} (own : OwnG e 1 cs w tad cap l) {xt : Option Addr} {xc : Nat} {xs : List α} (hx : (xt = none ∧ xs = [] ∧ xc = 0) ∨ ∃ g, xt = some ⟨g, 0, none⟩ ∧ ∀ j u, (xs.flatMap cs)[j]? = some u → w.cell? ⟨g, j, none⟩ = some u) (hb : l.length + xs.length ≤ 1000000) (ty : TypeId) :
    ∃ t' c' w', (Builtin.append_ #[t, t] ty #[.slice tad l.length cap, .slice xt xs.length xc]).run Try.prog w = .ok (.slice t' (l ++ xs).length c') w' ∧ OwnG e 1 cs w' t' c' (l ++ xs) ∧ Off (fun c => blk tad = some c) w w' ∧ (blk t' = blk tad ∨ blk t' = some w.heap.size) := by
  obtain ⟨i0, hi, hz0, hz1, hz2⟩ := info_parts hinfo
  have fl : ∀ l : List α, (l.flatMap cs).length = l.length := fun l => by
    induction l with
    | nil => rfl
    | cons x l ih => rw [List.flatMap_cons, List.length_append, hcs, ih, List.length_cons]; omega
  have ho : ∀ u ∈ xs.flatMap cs, u.oneCell' = true := fun u hu => by
    simp only [List.mem_flatMap] at hu
    obtain ⟨x, -, hu⟩ := hu
    exact h1 x u hu
  rcases hx with ⟨rfl, rfl, rfl⟩ | ⟨g, rfl, hc⟩
  · refine ⟨tad, cap, w, ?_, by rw [List.append_nil]; exact own, Off.refl _ w, .inl rfl⟩
    rw [List.append_nil]
    exact run_append_owned_none (P := Try.prog) (w := w) 0 t ty e i0 1 hu hi _ _ _ own.row
  · have hbm : (l.length + xs.length) * bytes ≤ 140737488355328 := Nat.le_trans (Nat.mul_le_mul_left _ hby) (by omega)
    obtain ⟨v', w', hr, own', grow', -, hat⟩ := run_append_own_at (P := Try.prog) w 0 t ty e i0 z 1 bytes hu hi hz0 hz1 hz2 hz (by decide) _ _ _ own.row ⟨g, 0, none⟩ xs.length xc (xs.flatMap cs) (by rw [fl]; omega) (fun j u hj => by rw [add_lit, Nat.zero_add]; exact hc j u hj) ho (by unfold maxLen; omega) hbm (Nat.zero_le _)
    rw [← List.flatMap_append, ← List.length_append] at own'
    obtain ⟨t', c', rfl⟩ : ∃ t' c', v' = .slice t' (l ++ xs).length c' := by
      rcases own'.2 with ⟨rfl, h0⟩ | ⟨g, c, cur, hv, -⟩
      · exact ⟨none, 0, by rw [h0]⟩
      · exact ⟨_, _, hv⟩
    rw [blk_own, blk_own] at hat
    rw [blk_own] at grow'
    exact ⟨t', c', w', hr, ⟨own'⟩, (Off.refl _ w).grown grow' (fun k hk => .inl hk), hat⟩
theorem OwnG.srcG {α : Type} {e : TypeId} {cs : α → List Value} {w : World} {a : Option Addr} {cap : Nat} {l : List α} (h : OwnG e 1 cs w a cap l) : (a = none ∧ l = [] ∧ cap = 0) ∨ ∃ g, a = some ⟨g, 0, none⟩ ∧ ∀ j u, (l.flatMap cs)[j]? = some u → w.cell? ⟨g, j, none⟩ = some u := by
  rcases h.row.2 with ⟨hv, h0⟩ | ⟨g, c, cur, hv, hb, hh, hc, hm, -⟩
  · simp only [Value.slice.injEq] at hv
    exact .inl ⟨hv.1, List.eq_nil_of_length_eq_zero h0, hv.2.2⟩
  · simp only [Value.slice.injEq] at hv
    obtain ⟨rfl, -, rfl⟩ := hv
    refine .inr ⟨g, rfl, fun j u hj => ?_⟩
    have := World.ownsRow.cells h.row (g := g) rfl j u hj
    rw [add_lit, Nat.zero_add] at this
    exact this
theorem wp_append_if {P : Program} {o : Oper} {a : Act} {w w' : World} {K : Act → World → Prop} {Q : Exit → Act → World → Prop} {y : Nat → Option Bool} {E : Prop} (hw : Region.wanted o y = true) (s x : Operand) {t u : TypeId}
    (ho : o.op = .call { callee := .builtin .append, args := #[s, x], argTypes := #[t, u] }) {v v' X : Value} (hs : a.eval s = v) (hx : a.eval x = X) (hr : (Builtin.append_ #[t, u] o.type #[v, X]).run P w = .ok v' w')
    (d : Nat) (hd : o.dst = some d) (h : K (a.put (some d) v') w') : if Region.wanted o y = true then Oper.wp P o a w K Q else E := by
  rw [if_pos hw]
  unfold Oper.wp execOp
  simp only [ho, resolve, invoke, builtin, Sem.run_bind, Sem.run_pure, Result.andThen_ok, List.map_toArray, List.map_cons, List.map_nil, hs, hx, hr]
  rw [← hd] at h
  exact h

/-- The log and the law's rows, at a round. -/
structure Pla (w : World) (lb b most : Nat) (tr : Option Addr) (cr : Nat) (ql : List B) (D : Nat → Prop) (v : World) : Prop where
  off : Off (fun _ => False) w v
  std : Std D lb b most (ql.map B.data) v
  own : OwnG 23 1 bcs v tr cr ql
  no : ∀ k, blk tr = some k → ¬ D k
  inp : ∀ x ∈ ql, Inp w x.ad x.cap x.data
  new : ∀ c, D c → w.heap.size ≤ c
theorem Pla.free {w : World} {lb b most : Nat} {tr : Option Addr} {cr : Nat} {ql : List B} {D : Nat → Prop} {v v' : World} (h : Pla w lb b most tr cr ql D v) (o : Off (fun _ => False) v v') : Pla w lb b most tr cr ql D v' :=
  ⟨h.off.trans o (fun _ _ h => h), h.std.free o, h.own.off o (fun _ _ _ h => h), h.no, h.inp, h.new⟩
theorem Pla.few {w : World} {lb b most : Nat} {tr : Option Addr} {cr : Nat} {ql : List B} {D : Nat → Prop} {v : World} (h : Pla w lb b most tr cr ql D v) : (frs (ql.map B.data)).length ≤ most ∧ ql.length * 8 ≤ most := by
  have h1 := h.std.few
  rw [List.length_map] at h1
  exact ⟨h1.1, by omega⟩
theorem Pla.rg {w : World} {lb b most : Nat} {tr : Option Addr} {cr : Nat} {ql : List B} {D : Nat → Prop} {v : World} (h : Pla w lb b most tr cr ql D v) (hm : most ≤ 3000) : Rg v tr cr ql :=
  ⟨h.own, fun x hx => (h.inp x hx).free h.off, by have := h.few; omega, fun x hx => (h.std.rec_ _ (List.mem_map.2 ⟨x, hx, rfl⟩)).len⟩
end Go.Proofs.Ytmdhcoplhibbeaa
