/- What the arguments of the laws are: digests, slices of digests. -/
import Derived.Test.YtmeclfgehpbjlaaArg10
import Derived.Test.YtmeclfgehpbjlaaDg0
namespace Go.Proofs.Ytmeclfgehpbjlaa
open Go.ChangeShapes Go.WideShapes Go.ChangeAt Go.RowKit

theorem cellsGd : Try.prog.cellsOf 102 = 10 := by kernel_rfl
theorem cellsDs : Try.prog.cellsOf 100 = 1 := by kernel_rfl
theorem fieldsDigest : ∃ f0 f1 f2 : Field, Try.prog.underlying 102 = some (.struct #[f0, f1, f2]) ∧ (f0.offset = 0 ∧ f0.type = 9) ∧ (f1.offset = 1 ∧ f1.type = 91) ∧ (f2.offset = 9 ∧ f2.type = 100) :=
  ⟨_, _, _, Try.underlying102, ⟨rfl, rfl⟩, ⟨rfl, rfl⟩, ⟨rfl, rfl⟩⟩
/-- Numbers of a dot. -/
structure RgD (ds : List (Int × Int)) : Prop where
  rg : ∀ d ∈ ds, (-9223372036854775808 ≤ d.1 ∧ d.1 ≤ 9223372036854775807) ∧ (-9223372036854775808 ≤ d.2 ∧ d.2 ≤ 9223372036854775807)
structure RgF (f : Nat → Int) : Prop where
  rg : ∀ j, j < 8 → -9223372036854775808 ≤ f j ∧ f j ≤ 9223372036854775807
section
variable {H : Type} {enc : TypeId × Value → H}
theorem dots_of {w : World} {fuel : Nat} {a : Option Addr} {len cap : Nat} {d : DataW H} {pl : List MemPlace} (h : DataW.trod enc Try.prog w 0 (fun _ => true) true fuel 100 [.slice a len cap] = some (d, pl)) :
    ∃ ds : List (Int × Int), ds.length = len ∧ RowD w a cap ds ∧ RgD ds := by
  rcases Go.Deep.open_slice Try.underlying100 h with ⟨hcs, -⟩ | ⟨x, l, c, m, n, D, Pl, hcs, -, hl, hm, hmm, hx, hel⟩
  · simp at hcs
    obtain ⟨rfl, rfl, rfl⟩ := hcs
    exact ⟨[], rfl, RowD.nil w none 0 (by omega), ⟨fun e he => by simp at he⟩⟩
  · simp at hcs
    obtain ⟨rfl, rfl, rfl⟩ := hcs
    simp only [if_true] at hmm
    unfold maxLen at hm
    have each : ∀ i, i < len → ∃ e : Int × Int, ∃ b off, x.add (i * 2) = ⟨b, off, none⟩ ∧ w.cell? ⟨b, off, none⟩ = some (.int .i64 e.1) ∧ w.cell? ⟨b, off + 1, none⟩ = some (.int .i64 e.2) ∧ (-9223372036854775808 ≤ e.1 ∧ e.1 ≤ 9223372036854775807) ∧ (-9223372036854775808 ≤ e.2 ∧ e.2 ≤ 9223372036854775807) := by
      intro i hi
      obtain ⟨vs, hv, ht⟩ := hel i (by omega)
      rw [cellsD] at hv
      obtain ⟨-, hvl, hcell⟩ := World.cells?_some hv
      obtain ⟨v0, v1, rfl⟩ : ∃ v0 v1, vs = [v0, v1] := list2 vs (by simpa using hvl)
      obtain ⟨y0, y1, m', -, -, h0, h1⟩ := trod_struct2 Try.underlying106 ht
      simp only [cells3, cells2] at h0 h1
      obtain ⟨N0, e0, -, q0⟩ := DataW.trod_int Try.underlying3 h0
      obtain ⟨N1, e1, -, q1⟩ := DataW.trod_int Try.underlying2 h1
      have i0 : v0 = .int .i64 N0 := (List.cons.inj (show [v0] = [.int .i64 N0] from e0)).1
      have i1 : v1 = .int .i64 N1 := (List.cons.inj (show [v1] = [.int .i64 N1] from e1)).1
      subst i0 i1
      have q0 := wfI q0
      have q1 := wfI q1
      have k0 := hcell 0 (by omega)
      have k1 := hcell 1 (by omega)
      generalize x.add (i * 2) = y at k0 k1 ⊢
      obtain ⟨b, off, spot⟩ := y
      have hspot : spot = none := by simpa [Addr.add] using World.cell?_spot k0
      subst hspot
      rw [add_lit] at k0 k1
      exact ⟨(N0, N1), b, off, rfl, by simpa using k0, by simpa using k1, q0, q1⟩
    obtain ⟨vs, hv⟩ := Go.Deep.choose_lt each
    refine ⟨(List.range len).map vs, by simp, ⟨by simp; omega, by omega, fun i u hi => ?_⟩, ⟨fun e he => ?_⟩⟩
    · have hlt : i < len := by
        obtain ⟨h, -⟩ := List.getElem?_eq_some_iff.1 hi
        simpa using h
      simp [hlt] at hi
      subst hi
      obtain ⟨b0, off0, e0, -⟩ := hv 0 (by omega)
      obtain ⟨b, off, e, h0, h1, -⟩ := hv i hlt
      simp only [Nat.zero_mul] at e0
      obtain ⟨bx, ox, sx⟩ := x
      have e0' : (⟨bx, ox, sx⟩ : Addr) = ⟨b0, off0, none⟩ := by simpa [Addr.add] using e0
      simp only [Addr.mk.injEq] at e0'
      obtain ⟨rfl, rfl, rfl⟩ := e0'
      rw [add_lit] at e
      simp only [Addr.mk.injEq, and_true] at e
      obtain ⟨rfl, rfl⟩ := e
      exact ⟨bx, ox, rfl, h0, h1⟩
    · simp only [List.mem_map, List.mem_range] at he
      obtain ⟨i, hi, rfl⟩ := he
      obtain ⟨_, _, _, _, _, h1, h2⟩ := hv i hi
      exact ⟨h1, h2⟩
set_option maxRecDepth 100000 in
/-- The ten cells of a digest. -/
theorem dig_cells {W : World} {fuel : Nat} {vs : List Value} {d : DataW H} {pl : List MemPlace}
    (hf : DataW.trod enc Try.prog W 0 (fun _ => true) true fuel 102 vs = some (d, pl)) (hz : ∀ n ∈ d.weights Try.prog 102, n ≤ reachBytes) :
    ∃ e : G, vs = gcs e ∧ e.key.size ≤ reachBytes ∧ RowD W e.a e.cap e.ds ∧ RgD e.ds ∧ RgF e.f := by
  obtain ⟨f0, f1, f2, hu, ⟨o0, t0⟩, ⟨o1, t1⟩, ⟨o2, t2⟩⟩ := fieldsDigest
  obtain ⟨xs, m, -, hxy, hvl, hxl, hfl⟩ := DataW.trod_struct hu hf
  rw [cellsGd] at hvl
  obtain ⟨c, c0, c1, c2, c3, c4, c5, c6, c7, c8, rfl⟩ := list10 vs hvl
  obtain ⟨x0, x1, x2, rfl⟩ := list3 xs (by simpa using hxl)
  have g0 := hfl 0 f0 rfl
  have g1 := hfl 1 f1 rfl
  have g2 := hfl 2 f2 rfl
  rw [o0, t0, cells9] at g0
  rw [o1, t1, cellsV] at g1
  rw [o2, t2, cellsDs] at g2
  simp at g0 g1 g2
  obtain ⟨s, hs, hx0, hsz⟩ := DataW.trod_string Try.underlying9 g0
  simp at hs
  subst hs
  obtain ⟨f, e, hr⟩ := vec_cells g1
  simp only [List.cons.injEq, and_true] at e
  obtain ⟨rfl, rfl, rfl, rfl, rfl, rfl, rfl, rfl⟩ := e
  obtain ⟨a, len, cap, rfl⟩ : ∃ a len cap, c8 = .slice a len cap := by
    rcases Go.Deep.open_slice Try.underlying100 g2 with ⟨hcs, -⟩ | ⟨x, l, c, m, n, D, Pl, hcs, -⟩
    · simp at hcs; exact ⟨_, _, _, hcs⟩
    · simp at hcs; exact ⟨_, _, _, hcs⟩
  obtain ⟨ds, rfl, hd, hrg⟩ := dots_of g2
  simp only [Prod.mk.injEq] at hxy
  obtain ⟨rfl, -⟩ := hxy
  refine ⟨⟨s, f, a, cap, ds⟩, rfl, ?_, hd, hrg, ⟨hr⟩⟩
  have := hz s.data.size (by
    simp only [DataW.weights, hu]
    refine DataW.weights_mem_each (j := 0) (t := 9) (d := x0.1) (by simp [t0]) rfl _ ?_
    rw [hx0]
    simp [DataW.weights])
  exact this
set_option maxRecDepth 100000 in
/-- A digest that came in. -/
theorem argG {W : World} {base fuel : Nat} {v : Value} {d : DataW H} {pl : List MemPlace}
    (hv : Value.okWide Try.prog W .any base 102 v) (hf : DataW.trod enc Try.prog W 0 (fun _ => true) true fuel 102 v.cells.toList = some (d, pl)) (hz : ∀ n ∈ d.weights Try.prog 102, n ≤ reachBytes) :
    ∃ e : G, v = .agg (gcs e).toArray ∧ e.key.size ≤ reachBytes ∧ RowD W e.a e.cap e.ds ∧ RgD e.ds ∧ RgF e.f := by
  obtain ⟨cs, rfl, hs, hok⟩ : ∃ cs, v = .agg cs ∧ cs.size = Try.prog.cellsOf 102 ∧ Row.okWide Try.prog W .any base 102 cs := by
    simpa [Value.okWide, Try.underlying102] using hv
  obtain ⟨e, h1, h2⟩ := dig_cells (vs := cs.toList) hf hz
  refine ⟨e, ?_, h2⟩
  rw [← h1, Array.toArray_toList]
/-- A slice of digests that came in. -/
theorem argD {w : World} {fuel : Nat} {a : Option Addr} {len cap : Nat} {d : DataW H} {pl : List MemPlace} (h : DataW.trod enc Try.prog w 0 (fun _ => true) true fuel 28 [.slice a len cap] = some (d, pl)) (hz : ∀ n ∈ d.weights Try.prog 28, n ≤ reachBytes) :
    ∃ es : List G, es.length = len ∧ Dgs w a cap es ∧ ∀ e ∈ es, e.key.size ≤ reachBytes ∧ RgD e.ds ∧ RgF e.f := by
  rcases Go.Deep.open_slice Try.underlying28 h with ⟨hcs, -⟩ | ⟨x, l, c, m, n, D, Pl, hcs, -, hl, hm, hmm, hx, hel⟩
  · simp at hcs
    obtain ⟨rfl, rfl, rfl⟩ := hcs
    exact ⟨[], rfl, Dgs.nil w none 0 (by omega), fun e he => by simp at he⟩
  · simp at hcs
    obtain ⟨rfl, rfl, rfl⟩ := hcs
    simp only [if_true] at hmm
    unfold maxLen at hm
    simp only [Prod.mk.injEq] at hx
    obtain ⟨rfl, -⟩ := hx
    have each : ∀ i, i < len → ∃ e : G, ∃ b off, x.add (i * 10) = ⟨b, off, none⟩ ∧ (∀ j u, (gcs e)[j]? = some u → w.cell? ⟨b, off + j, none⟩ = some u) ∧ RowD w e.a e.cap e.ds ∧ e.key.size ≤ reachBytes ∧ RgD e.ds ∧ RgF e.f := by
      intro i hi
      obtain ⟨vs, hv, ht⟩ := hel i (by omega)
      rw [cellsGd] at hv
      obtain ⟨-, hvl, hcell⟩ := World.cells?_some hv
      obtain ⟨e, rfl, hk, hr, hrg, hrf⟩ := dig_cells ht (fun n hn => hz n (by
          simp only [DataW.weights, Try.underlying28, List.mem_cons, List.mem_append]
          exact .inr (.inl (weights_all (List.mem_map.2 ⟨i, List.mem_range.2 hi, rfl⟩) n hn))))
      have hc : ∀ k v, (gcs e)[k]? = some v → w.cell? ((x.add (i * 10)).add k) = some v := fun k v hk => by
        have : k < 10 := by
          obtain ⟨h, -⟩ := List.getElem?_eq_some_iff.1 hk
          rwa [gcs_len] at h
        rw [hcell k this]
        exact hk
      generalize x.add (i * 10) = y at hc ⊢
      obtain ⟨b, off, spot⟩ := y
      have k0 := hc 0 _ rfl
      have hspot : spot = none := by simpa [Addr.add] using World.cell?_spot k0
      subst hspot
      exact ⟨e, b, off, rfl, fun j u hj => by have := hc j u hj; rwa [add_lit] at this, hr, hk, hrg, hrf⟩
    haveI : Inhabited G := ⟨⟨⟨#[]⟩, zer, none, 0, []⟩⟩
    obtain ⟨vs, hv⟩ := Go.Deep.choose_lt each
    refine ⟨(List.range len).map vs, by simp, ⟨by simp; omega, by omega, fun i u hi => ?_⟩, fun e he => ?_⟩
    · have hlt : i < len := by
        obtain ⟨h, -⟩ := List.getElem?_eq_some_iff.1 hi
        simpa using h
      simp [hlt] at hi
      subst hi
      obtain ⟨b0, off0, e0, -⟩ := hv 0 (by omega)
      obtain ⟨b, off, e, hk, hok, -⟩ := hv i hlt
      simp only [Nat.zero_mul] at e0
      obtain ⟨bx, ox, sx⟩ := x
      have e0' : (⟨bx, ox, sx⟩ : Addr) = ⟨b0, off0, none⟩ := by simpa [Addr.add] using e0
      simp only [Addr.mk.injEq] at e0'
      obtain ⟨rfl, rfl, rfl⟩ := e0'
      rw [add_lit] at e
      simp only [Addr.mk.injEq, and_true] at e
      obtain ⟨rfl, rfl⟩ := e
      exact ⟨bx, ox, rfl, hk, hok⟩
    · simp only [List.mem_map, List.mem_range] at he
      obtain ⟨i, hi, rfl⟩ := he
      obtain ⟨_, _, _, _, _, h⟩ := hv i hi
      exact h
end
end Go.Proofs.Ytmeclfgehpbjlaa
