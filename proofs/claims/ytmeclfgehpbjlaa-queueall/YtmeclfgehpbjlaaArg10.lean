/- What the arguments of the laws are: entries, slices of entries, slices of strings. -/
import Derived.Test.YtmeclfgehpbjlaaLaw10
import Derived.Test.YtmeclfgehpbjlaaArg5
namespace Go.Proofs.Ytmeclfgehpbjlaa
open Go.ChangeShapes Go.WideShapes Go.ChangeAt Go.RowKit

theorem cellsEn : Try.prog.cellsOf 96 = 10 := by kernel_rfl
theorem cells9 : Try.prog.cellsOf 9 = 1 := by kernel_rfl
theorem fieldsEntry : ∃ f0 f1 : Field, Try.prog.underlying 96 = some (.struct #[f0, f1]) ∧ (f0.offset = 0 ∧ f0.type = 9) ∧ (f1.offset = 1 ∧ f1.type = 94) :=
  ⟨_, _, Try.underlying96, ⟨rfl, rfl⟩, ⟨rfl, rfl⟩⟩
theorem list10 {α : Type} (l : List α) (h : l.length = 10) : ∃ a b c d e f g i j k, l = [a, b, c, d, e, f, g, i, j, k] := by
  match l, h with
  | [a, b, c, d, e, f, g, i, j, k], _ => exact ⟨a, b, c, d, e, f, g, i, j, k, rfl⟩
section
variable {H : Type} {enc : TypeId × Value → H}
set_option maxRecDepth 100000 in
theorem sibs_cells {W : World} {fuel : Nat} {c0 c1 c2 c3 c4 c5 c6 c7 c8 : Value} {d : DataW H} {pl : List MemPlace}
    (hf : DataW.trod enc Try.prog W 0 (fun _ => true) true fuel 94 [c0, c1, c2, c3, c4, c5, c6, c7, c8] = some (d, pl)) (hz : ∀ n ∈ d.weights Try.prog 94, n ≤ reachBytes) :
    ∃ (f : Nat → Int) (a : Option Addr) (cap : Nat) (l : List V), [c0, c1, c2, c3, c4, c5, c6, c7, c8] = (#[.int .i64 (f 0), .int .i64 (f 1), .int .i64 (f 2), .int .i64 (f 3), .int .i64 (f 4), .int .i64 (f 5), .int .i64 (f 6), .int .i64 (f 7), .slice a l.length cap] : Array Value).toList ∧ Row W a cap l ∧ (∀ j, j < 8 → -9223372036854775808 ≤ f j ∧ f j ≤ 9223372036854775807) := by
  obtain ⟨f0, f1, hu, ⟨o0, t0⟩, ⟨o1, t1⟩⟩ := fieldsSibs
  obtain ⟨xs, m, -, hxy, hvl, hxl, hfl⟩ := DataW.trod_struct hu hf
  obtain ⟨x0, x1, rfl⟩ := list2 xs (by simpa using hxl)
  have g0 := hfl 0 f0 rfl
  have g1 := hfl 1 f1 rfl
  rw [o0, t0, cellsV] at g0
  rw [o1, t1, cellsL] at g1
  simp at g0 g1
  obtain ⟨f, e, hr⟩ := vec_cells g0
  simp only [List.cons.injEq, and_true] at e
  obtain ⟨rfl, rfl, rfl, rfl, rfl, rfl, rfl, rfl⟩ := e
  obtain ⟨a, len, cap, rfl⟩ : ∃ a len cap, c8 = .slice a len cap := by
    rcases Go.Deep.open_slice Try.underlying92 g1 with ⟨hcs, -⟩ | ⟨x, l, c, m, n, D, Pl, hcs, -⟩
    · simp at hcs; exact ⟨_, _, _, hcs⟩
    · simp at hcs; exact ⟨_, _, _, hcs⟩
  simp only [Prod.mk.injEq] at hxy
  obtain ⟨rfl, -⟩ := hxy
  obtain ⟨l, rfl, hrow⟩ := row_of g1 (fun n hn => hz n (by
    simp only [DataW.weights, hu]
    exact DataW.weights_mem_each (j := 1) (t := 92) (d := x1.1) (by simp [t1]) rfl _ hn))
  exact ⟨f, a, cap, l, rfl, hrow, hr⟩
set_option maxRecDepth 100000 in
/-- The ten cells of an entry. -/
theorem ent_cells {W : World} {fuel : Nat} {vs : List Value} {d : DataW H} {pl : List MemPlace}
    (hf : DataW.trod enc Try.prog W 0 (fun _ => true) true fuel 96 vs = some (d, pl)) (hz : ∀ n ∈ d.weights Try.prog 96, n ≤ reachBytes) :
    ∃ e : E, vs = ecs e ∧ e.key.size ≤ maxLen ∧ Row W e.a e.cap e.l ∧ (∀ j, j < 8 → -9223372036854775808 ≤ e.f j ∧ e.f j ≤ 9223372036854775807) := by
  obtain ⟨f0, f1, hu, ⟨o0, t0⟩, ⟨o1, t1⟩⟩ := fieldsEntry
  obtain ⟨xs, m, -, hxy, hvl, hxl, hfl⟩ := DataW.trod_struct hu hf
  rw [cellsEn] at hvl
  obtain ⟨c, c0, c1, c2, c3, c4, c5, c6, c7, c8, rfl⟩ := list10 vs hvl
  obtain ⟨x0, x1, rfl⟩ := list2 xs (by simpa using hxl)
  have g0 := hfl 0 f0 rfl
  have g1 := hfl 1 f1 rfl
  rw [o0, t0, cells9] at g0
  rw [o1, t1, cellsS] at g1
  simp at g0 g1
  obtain ⟨s, hs, -, hsz⟩ := DataW.trod_string Try.underlying9 g0
  simp at hs
  subst hs
  simp only [Prod.mk.injEq] at hxy
  obtain ⟨rfl, -⟩ := hxy
  obtain ⟨f, a, cap, l, e, hrow, hrg⟩ := sibs_cells g1 (fun n hn => hz n (by
    simp only [DataW.weights, hu]
    exact DataW.weights_mem_each (j := 1) (t := 94) (d := x1.1) (by simp [t1]) rfl _ hn))
  simp only [List.cons.injEq, and_true] at e
  obtain ⟨rfl, rfl, rfl, rfl, rfl, rfl, rfl, rfl, rfl⟩ := e
  exact ⟨⟨s, f, a, cap, l⟩, rfl, hsz, hrow, hrg⟩
set_option maxRecDepth 100000 in
/-- An entry that came in. -/
theorem argE {W : World} {base fuel : Nat} {v : Value} {d : DataW H} {pl : List MemPlace}
    (hv : Value.okWide Try.prog W .any base 96 v) (hf : DataW.trod enc Try.prog W 0 (fun _ => true) true fuel 96 v.cells.toList = some (d, pl)) (hz : ∀ n ∈ d.weights Try.prog 96, n ≤ reachBytes) :
    ∃ e : E, v = .agg (ecs e).toArray ∧ e.key.size ≤ maxLen ∧ Row W e.a e.cap e.l ∧ (∀ j, j < 8 → -9223372036854775808 ≤ e.f j ∧ e.f j ≤ 9223372036854775807) := by
  obtain ⟨cs, rfl, hs, hok⟩ : ∃ cs, v = .agg cs ∧ cs.size = Try.prog.cellsOf 96 ∧ Row.okWide Try.prog W .any base 96 cs := by
    simpa [Value.okWide, Try.underlying96] using hv
  obtain ⟨e, h1, h2, h3, h4⟩ := ent_cells (vs := cs.toList) hf hz
  refine ⟨e, ?_, h2, h3, h4⟩
  rw [← h1, Array.toArray_toList]
/-- A slice of entries that came in. -/
theorem argL {w : World} {fuel : Nat} {a : Option Addr} {len cap : Nat} {d : DataW H} {pl : List MemPlace} (h : DataW.trod enc Try.prog w 0 (fun _ => true) true fuel 27 [.slice a len cap] = some (d, pl)) (hz : ∀ n ∈ d.weights Try.prog 27, n ≤ reachBytes) :
    ∃ es : List E, es.length = len ∧ Ens w a cap es ∧ ∀ e ∈ es, e.key.size ≤ maxLen ∧ (∀ j, j < 8 → -9223372036854775808 ≤ e.f j ∧ e.f j ≤ 9223372036854775807) := by
  rcases Go.Deep.open_slice Try.underlying27 h with ⟨hcs, -⟩ | ⟨x, l, c, m, n, D, Pl, hcs, -, hl, hm, hmm, hx, hel⟩
  · simp at hcs
    obtain ⟨rfl, rfl, rfl⟩ := hcs
    exact ⟨[], rfl, Ens.nil w none 0 (by omega), fun e he => by simp at he⟩
  · simp at hcs
    obtain ⟨rfl, rfl, rfl⟩ := hcs
    simp only [if_true] at hmm
    unfold maxLen at hm
    simp only [Prod.mk.injEq] at hx
    obtain ⟨rfl, -⟩ := hx
    have each : ∀ i, i < len → ∃ e : E, ∃ b off, x.add (i * 10) = ⟨b, off, none⟩ ∧ (∀ j u, (ecs e)[j]? = some u → w.cell? ⟨b, off + j, none⟩ = some u) ∧ (e.key.size ≤ maxLen ∧ (∀ j, j < 8 → -9223372036854775808 ≤ e.f j ∧ e.f j ≤ 9223372036854775807)) ∧ Row w e.a e.cap e.l := by
      intro i hi
      obtain ⟨vs, hv, ht⟩ := hel i (by omega)
      rw [cellsEn] at hv
      obtain ⟨-, hvl, hcell⟩ := World.cells?_some hv
      obtain ⟨e, rfl, hk, hr, hrg⟩ := ent_cells ht (fun n hn => hz n (by
          simp only [DataW.weights, Try.underlying27, List.mem_cons, List.mem_append]
          exact .inr (.inl (weights_all (List.mem_map.2 ⟨i, List.mem_range.2 hi, rfl⟩) n hn))))
      have hc : ∀ k v, (ecs e)[k]? = some v → w.cell? ((x.add (i * 10)).add k) = some v := fun k v hk => by
        have : k < 10 := by
          obtain ⟨h, -⟩ := List.getElem?_eq_some_iff.1 hk
          rwa [ecs_len] at h
        rw [hcell k this]
        exact hk
      generalize x.add (i * 10) = y at hc ⊢
      obtain ⟨b, off, spot⟩ := y
      have k0 := hc 0 _ rfl
      have hspot : spot = none := by simpa [Addr.add] using World.cell?_spot k0
      subst hspot
      exact ⟨e, b, off, rfl, fun j u hj => by have := hc j u hj; rwa [add_lit] at this, ⟨hk, hrg⟩, hr⟩
    haveI : Inhabited E := ⟨⟨⟨#[]⟩, zer, none, 0, []⟩⟩
    obtain ⟨vs, hv⟩ := Go.Deep.choose_lt each
    refine ⟨(List.range len).map vs, by simp, ⟨by simp; omega, by omega, fun i u hi => ?_⟩, fun e he => ?_⟩
    · have hlt : i < len := by
        obtain ⟨h, -⟩ := List.getElem?_eq_some_iff.1 hi
        simpa using h
      simp [hlt] at hi
      subst hi
      obtain ⟨b0, off0, e0, -⟩ := hv 0 (by omega)
      obtain ⟨b, off, e, hk, -, hok⟩ := hv i hlt
      simp only [Nat.zero_mul] at e0
      obtain ⟨bx, ox, sx⟩ := x
      have e0' : (⟨bx, ox, sx⟩ : Addr) = ⟨b0, off0, none⟩ := by simpa [Addr.add] using e0
      simp only [Addr.mk.injEq] at e0'
      obtain ⟨rfl, rfl, rfl⟩ := e0'
      rw [add_lit] at e
      simp only [Addr.mk.injEq, and_true] at e
      obtain ⟨rfl, rfl⟩ := e
      exact ⟨bx, ox, rfl, hk, hok⟩
    · simp only [List.mem_map, List.mem_range] at he
      obtain ⟨i, hi, rfl⟩ := he
      obtain ⟨_, _, _, _, h, _⟩ := hv i hi
      exact h
end
end Go.Proofs.Ytmeclfgehpbjlaa
