import Derived.Test.YtfhacfedklaaiaaLawM
import Derived.Test.YtfhacfedklaaiaaArg5
/- What the arguments of the laws are: hints, Sibs, slices of calls. -/
namespace Go.Proofs.Ytfhacfedklaaiaa
open Go.ChangeShapes Go.WideShapes Go.ChangeAt Go.RowKit

theorem cellsEn : Try.prog.cellsOf 37 = 10 := by kernel_rfl
theorem cellsHi : Try.prog.cellsOf 39 = 11 := by kernel_rfl
theorem cellsCa : Try.prog.cellsOf 41 = 21 := by kernel_rfl
theorem cells9 : Try.prog.cellsOf 9 = 1 := by kernel_rfl
theorem fieldsEntry : ∃ f0 f1 : Field, Try.prog.underlying 37 = some (.struct #[f0, f1]) ∧ (f0.offset = 0 ∧ f0.type = 9) ∧ (f1.offset = 1 ∧ f1.type = 35) :=
  ⟨_, _, Try.underlying37, ⟨rfl, rfl⟩, ⟨rfl, rfl⟩⟩
theorem fieldsHint : ∃ f0 f1 : Field, Try.prog.underlying 39 = some (.struct #[f0, f1]) ∧ (f0.offset = 0 ∧ f0.type = 3) ∧ (f1.offset = 1 ∧ f1.type = 37) :=
  ⟨_, _, Try.underlying39, ⟨rfl, rfl⟩, ⟨rfl, rfl⟩⟩
theorem fieldsCall : ∃ f0 f1 f2 : Field, Try.prog.underlying 41 = some (.struct #[f0, f1, f2]) ∧ (f0.offset = 0 ∧ f0.type = 3) ∧ (f1.offset = 1 ∧ f1.type = 39) ∧ (f2.offset = 12 ∧ f2.type = 35) :=
  ⟨_, _, _, Try.underlying41, ⟨rfl, rfl⟩, ⟨rfl, rfl⟩, ⟨rfl, rfl⟩⟩
theorem list10 {α : Type} (l : List α) (h : l.length = 10) : ∃ y0 y1 y2 y3 y4 y5 y6 y7 y8 y9, l = [y0, y1, y2, y3, y4, y5, y6, y7, y8, y9] := by
  match l, h with
  | [y0, y1, y2, y3, y4, y5, y6, y7, y8, y9], _ => exact ⟨y0, y1, y2, y3, y4, y5, y6, y7, y8, y9, rfl⟩
theorem list11 {α : Type} (l : List α) (h : l.length = 11) : ∃ y0 y1 y2 y3 y4 y5 y6 y7 y8 y9 y10, l = [y0, y1, y2, y3, y4, y5, y6, y7, y8, y9, y10] := by
  match l, h with
  | [y0, y1, y2, y3, y4, y5, y6, y7, y8, y9, y10], _ => exact ⟨y0, y1, y2, y3, y4, y5, y6, y7, y8, y9, y10, rfl⟩
theorem list21 {α : Type} (l : List α) (h : l.length = 21) : ∃ y0 y1 y2 y3 y4 y5 y6 y7 y8 y9 y10 y11 y12 y13 y14 y15 y16 y17 y18 y19 y20, l = [y0, y1, y2, y3, y4, y5, y6, y7, y8, y9, y10, y11, y12, y13, y14, y15, y16, y17, y18, y19, y20] := by
  match l, h with
  | [y0, y1, y2, y3, y4, y5, y6, y7, y8, y9, y10, y11, y12, y13, y14, y15, y16, y17, y18, y19, y20], _ => exact ⟨y0, y1, y2, y3, y4, y5, y6, y7, y8, y9, y10, y11, y12, y13, y14, y15, y16, y17, y18, y19, y20, rfl⟩
section
variable {HH : Type} {enc : TypeId × Value → HH}
set_option maxRecDepth 100000 in
theorem sibs_cells {W : World} {fuel : Nat} {c0 c1 c2 c3 c4 c5 c6 c7 c8 : Value} {d : DataW HH} {pl : List MemPlace}
    (hf : DataW.trod enc Try.prog W 0 (fun _ => true) true fuel 35 [c0, c1, c2, c3, c4, c5, c6, c7, c8] = some (d, pl)) (hz : ∀ n ∈ d.weights Try.prog 35, n ≤ reachBytes) :
    ∃ (f : Nat → Int) (a : Option Addr) (cap : Nat) (l : List V), [c0, c1, c2, c3, c4, c5, c6, c7, c8] = (#[.int .i64 (f 0), .int .i64 (f 1), .int .i64 (f 2), .int .i64 (f 3), .int .i64 (f 4), .int .i64 (f 5), .int .i64 (f 6), .int .i64 (f 7), .slice a l.length cap] : Array Value).toList ∧ Row W a cap l ∧ Nrm f := by
  obtain ⟨f0, f1, hu, ⟨o0, t0⟩, ⟨o1, t1⟩⟩ := fieldsSibs
  obtain ⟨xs, m, -, hxy, hvl, hxl, hfl⟩ := DataW.trod_struct hu hf
  obtain ⟨x0, x1, rfl⟩ := list2 xs (by simpa using hxl)
  have g0 := hfl 0 f0 rfl
  have g1 := hfl 1 f1 rfl
  rw [o0, t0, cellsV] at g0
  rw [o1, t1, cellsL] at g1
  simp at g0 g1
  obtain ⟨f, e, hr⟩ := vec_cells g0
  simp only [List.cons.injEq, and_true] at e
  obtain ⟨rfl, rfl, rfl, rfl, rfl, rfl, rfl, rfl⟩ := e
  obtain ⟨a, len, cap, rfl⟩ : ∃ a len cap, c8 = .slice a len cap := by
    rcases Go.Deep.open_slice Try.underlying33 g1 with ⟨hcs, -⟩ | ⟨x, l, c, m, n, D, Pl, hcs, -⟩
    · simp at hcs; exact ⟨_, _, _, hcs⟩
    · simp at hcs; exact ⟨_, _, _, hcs⟩
  simp only [Prod.mk.injEq] at hxy
  obtain ⟨rfl, -⟩ := hxy
  obtain ⟨l, rfl, hrow⟩ := row_of g1 (fun n hn => hz n (by
    simp only [DataW.weights, hu]
    exact DataW.weights_mem_each (j := 1) (t := 33) (d := x1.1) (by simp [t1]) rfl _ hn))
  exact ⟨nrm f, a, cap, l, rfl, hrow, nrm_ok f⟩
set_option maxRecDepth 100000 in
/-- The ten cells of an entry. -/
theorem ent_cells {W : World} {fuel : Nat} {vs : List Value} {d : DataW HH} {pl : List MemPlace}
    (hf : DataW.trod enc Try.prog W 0 (fun _ => true) true fuel 37 vs = some (d, pl)) (hz : ∀ n ∈ d.weights Try.prog 37, n ≤ reachBytes) :
    ∃ e : E, vs = ecs e ∧ e.key.size ≤ maxLen ∧ Row W e.a e.cap e.l ∧ Nrm e.f := by
  obtain ⟨f0, f1, hu, ⟨o0, t0⟩, ⟨o1, t1⟩⟩ := fieldsEntry
  obtain ⟨xs, m, -, hxy, hvl, hxl, hfl⟩ := DataW.trod_struct hu hf
  rw [cellsEn] at hvl
  obtain ⟨c, c0, c1, c2, c3, c4, c5, c6, c7, c8, rfl⟩ := list10 vs hvl
  obtain ⟨x0, x1, rfl⟩ := list2 xs (by simpa using hxl)
  have g0 := hfl 0 f0 rfl
  have g1 := hfl 1 f1 rfl
  rw [o0, t0, cells9] at g0
  rw [o1, t1, cellsS] at g1
  simp at g0 g1
  obtain ⟨s, hs, -, hsz⟩ := DataW.trod_string Try.underlying9 g0
  simp at hs
  subst hs
  simp only [Prod.mk.injEq] at hxy
  obtain ⟨rfl, -⟩ := hxy
  obtain ⟨f, a, cap, l, e, hrow, hnr⟩ := sibs_cells g1 (fun n hn => hz n (by
    simp only [DataW.weights, hu]
    exact DataW.weights_mem_each (j := 1) (t := 35) (d := x1.1) (by simp [t1]) rfl _ hn))
  simp only [List.cons.injEq, and_true] at e
  obtain ⟨rfl, rfl, rfl, rfl, rfl, rfl, rfl, rfl, rfl⟩ := e
  exact ⟨⟨s, f, a, cap, l⟩, rfl, hsz, hrow, hnr⟩
set_option maxRecDepth 100000 in
/-- The eleven cells of a hint. -/
theorem hint_cells {W : World} {fuel : Nat} {vs : List Value} {d : DataW HH} {pl : List MemPlace}
    (hf : DataW.trod enc Try.prog W 0 (fun _ => true) true fuel 39 vs = some (d, pl)) (hz : ∀ n ∈ d.weights Try.prog 39, n ≤ reachBytes) :
    ∃ h : H, vs = hcs h ∧ Row W h.e.a h.e.cap h.e.l ∧ Nrm h.e.f := by
  obtain ⟨f0, f1, hu, ⟨o0, t0⟩, ⟨o1, t1⟩⟩ := fieldsHint
  obtain ⟨xs, m, -, hxy, hvl, hxl, hfl⟩ := DataW.trod_struct hu hf
  rw [cellsHi] at hvl
  obtain ⟨y0, y1, y2, y3, y4, y5, y6, y7, y8, y9, y10, rfl⟩ := list11 vs hvl
  obtain ⟨x0, x1, rfl⟩ := list2 xs (by simpa using hxl)
  have g0 := hfl 0 f0 rfl
  have g1 := hfl 1 f1 rfl
  rw [o0, t0, cells3] at g0
  rw [o1, t1, cellsEn] at g1
  simp at g0 g1
  obtain ⟨n, hn⟩ : ∃ n : Int, y0 = .int .i64 n := by
    obtain ⟨n, hn, -⟩ := DataW.trod_int Try.underlying3 g0
    simp at hn
    exact ⟨n, hn⟩
  subst hn
  simp only [Prod.mk.injEq] at hxy
  obtain ⟨rfl, -⟩ := hxy
  obtain ⟨e, he, -, hrow, hnr⟩ := ent_cells g1 (fun n hn => hz n (by
    simp only [DataW.weights, hu]
    exact DataW.weights_mem_each (j := 1) (t := 37) (d := x1.1) (by simp [t1]) rfl _ hn))
  refine ⟨⟨n, e⟩, ?_, hrow, hnr⟩
  rw [he]
  rfl
set_option maxRecDepth 100000 in
/-- The cells of a call. -/
theorem call_cells {W : World} {fuel : Nat} {vs : List Value} {d : DataW HH} {pl : List MemPlace}
    (hf : DataW.trod enc Try.prog W 0 (fun _ => true) true fuel 41 vs = some (d, pl)) (hz : ∀ n ∈ d.weights Try.prog 41, n ≤ reachBytes) :
    ∃ c : C, vs = ccs c ∧ Row W c.h.e.a c.h.e.cap c.h.e.l ∧ Nrm c.h.e.f ∧ Row W c.a c.cap c.l ∧ Nrm c.f := by
  obtain ⟨f0, f1, f2, hu, ⟨o0, t0⟩, ⟨o1, t1⟩, ⟨o2, t2⟩⟩ := fieldsCall
  obtain ⟨xs, m, -, hxy, hvl, hxl, hfl⟩ := DataW.trod_struct hu hf
  rw [cellsCa] at hvl
  obtain ⟨y0, y1, y2, y3, y4, y5, y6, y7, y8, y9, y10, y11, y12, y13, y14, y15, y16, y17, y18, y19, y20, rfl⟩ := list21 vs hvl
  obtain ⟨x0, x1, x2, rfl⟩ := list3 xs (by simpa using hxl)
  have g0 := hfl 0 f0 rfl
  have g1 := hfl 1 f1 rfl
  have g2 := hfl 2 f2 rfl
  rw [o0, t0, cells3] at g0
  rw [o1, t1, cellsHi] at g1
  rw [o2, t2, cellsS] at g2
  simp at g0 g1 g2
  obtain ⟨n, hn⟩ : ∃ n : Int, y0 = .int .i64 n := by
    obtain ⟨n, hn, -⟩ := DataW.trod_int Try.underlying3 g0
    simp at hn
    exact ⟨n, hn⟩
  subst hn
  simp only [Prod.mk.injEq] at hxy
  obtain ⟨rfl, -⟩ := hxy
  obtain ⟨h, he, hrow, hnr⟩ := hint_cells g1 (fun n hn => hz n (by
    simp only [DataW.weights, hu]
    exact DataW.weights_mem_each (j := 1) (t := 39) (d := x1.1) (by simp [t1]) rfl _ hn))
  obtain ⟨f, a, cap, l, e2, hrow2, hnr2⟩ := sibs_cells g2 (fun n hn => hz n (by
    simp only [DataW.weights, hu]
    exact DataW.weights_mem_each (j := 2) (t := 35) (d := x2.1) (by simp [t2]) rfl _ hn))
  simp only [hcs, List.cons.injEq, and_true] at he e2
  obtain ⟨rfl, rfl, rfl, rfl, rfl, rfl, rfl, rfl, rfl, rfl, rfl⟩ := he
  obtain ⟨rfl, rfl, rfl, rfl, rfl, rfl, rfl, rfl, rfl⟩ := e2
  exact ⟨⟨n, h, f, a, cap, l⟩, rfl, hrow, hnr, hrow2, hnr2⟩
set_option maxRecDepth 100000 in
/-- A hint that came in. -/
theorem argH {W : World} {base fuel : Nat} {v : Value} {d : DataW HH} {pl : List MemPlace}
    (hv : Value.okWide Try.prog W .any base 39 v) (hf : DataW.trod enc Try.prog W 0 (fun _ => true) true fuel 39 v.cells.toList = some (d, pl)) (hz : ∀ n ∈ d.weights Try.prog 39, n ≤ reachBytes) :
    ∃ h : H, v = .agg (hcs h).toArray ∧ Row W h.e.a h.e.cap h.e.l ∧ Nrm h.e.f := by
  obtain ⟨cs, rfl, hs, hok⟩ : ∃ cs, v = .agg cs ∧ cs.size = Try.prog.cellsOf 39 ∧ Row.okWide Try.prog W .any base 39 cs := by
    simpa [Value.okWide, Try.underlying39] using hv
  obtain ⟨e, h1, h2, h3⟩ := hint_cells (vs := cs.toList) hf hz
  refine ⟨e, ?_, h2, h3⟩
  rw [← h1, Array.toArray_toList]
set_option maxRecDepth 100000 in
/-- Sibs that came in. -/
theorem argN {W : World} {base fuel : Nat} {v : Value} {d : DataW HH} {pl : List MemPlace}
    (hv : Value.okWide Try.prog W .any base 35 v) (hf : DataW.trod enc Try.prog W 0 (fun _ => true) true fuel 35 v.cells.toList = some (d, pl)) (hz : ∀ n ∈ d.weights Try.prog 35, n ≤ reachBytes) :
    ∃ (f : Nat → Int) (a : Option Addr) (cap : Nat) (l : List V), v = .agg #[.int .i64 (f 0), .int .i64 (f 1), .int .i64 (f 2), .int .i64 (f 3), .int .i64 (f 4), .int .i64 (f 5), .int .i64 (f 6), .int .i64 (f 7), .slice a l.length cap] ∧ Row W a cap l ∧ Nrm f := by
  obtain ⟨f, a, cap, l, rfl, -, hr⟩ := argS hv hf hz
  exact ⟨nrm f, a, cap, l, rfl, hr, nrm_ok f⟩
/-- A slice of calls that came in. -/
theorem argC {w : World} {fuel : Nat} {a : Option Addr} {len cap : Nat} {d : DataW HH} {pl : List MemPlace} (h : DataW.trod enc Try.prog w 0 (fun _ => true) true fuel 22 [.slice a len cap] = some (d, pl)) (hz : ∀ n ∈ d.weights Try.prog 22, n ≤ reachBytes) :
    ∃ es : List C, es.length = len ∧ Cas w a cap es ∧ ∀ e ∈ es, Nrm e.h.e.f ∧ Nrm e.f := by
  rcases Go.Deep.open_slice Try.underlying22 h with ⟨hcs, -⟩ | ⟨x, l, c, m, n, D, Pl, hcs, -, hl, hm, hmm, hx, hel⟩
  · simp at hcs
    obtain ⟨rfl, rfl, rfl⟩ := hcs
    exact ⟨[], rfl, Cas.nil w none 0 (by omega), fun e he => by simp at he⟩
  · simp at hcs
    obtain ⟨rfl, rfl, rfl⟩ := hcs
    simp only [if_true] at hmm
    unfold maxLen at hm
    simp only [Prod.mk.injEq] at hx
    obtain ⟨rfl, -⟩ := hx
    have each : ∀ i, i < len → ∃ e : C, ∃ b off, x.add (i * 21) = ⟨b, off, none⟩ ∧ (∀ j u, (ccs e)[j]? = some u → w.cell? ⟨b, off + j, none⟩ = some u) ∧ (Nrm e.h.e.f ∧ Nrm e.f) ∧ Row w e.h.e.a e.h.e.cap e.h.e.l ∧ Row w e.a e.cap e.l := by
      intro i hi
      obtain ⟨vs, hv, ht⟩ := hel i (by omega)
      rw [cellsCa] at hv
      obtain ⟨-, hvl, hcell⟩ := World.cells?_some hv
      obtain ⟨e, rfl, hr1, hn1, hr2, hn2⟩ := call_cells ht (fun n hn => hz n (by
          simp only [DataW.weights, Try.underlying22, List.mem_cons, List.mem_append]
          exact .inr (.inl (weights_all (List.mem_map.2 ⟨i, List.mem_range.2 hi, rfl⟩) n hn))))
      have hc : ∀ k v, (ccs e)[k]? = some v → w.cell? ((x.add (i * 21)).add k) = some v := fun k v hk => by
        have : k < 21 := by
          obtain ⟨h, -⟩ := List.getElem?_eq_some_iff.1 hk
          rwa [ccs_len] at h
        rw [hcell k this]
        exact hk
      generalize x.add (i * 21) = y at hc ⊢
      obtain ⟨b, off, spot⟩ := y
      have k0 := hc 0 _ rfl
      have hspot : spot = none := by simpa [Addr.add] using World.cell?_spot k0
      subst hspot
      exact ⟨e, b, off, rfl, fun j u hj => by have := hc j u hj; rwa [add_lit] at this, ⟨hn1, hn2⟩, hr1, hr2⟩
    haveI : Inhabited C := ⟨⟨0, ⟨0, ⟨⟨#[]⟩, zer, none, 0, []⟩⟩, zer, none, 0, []⟩⟩
    obtain ⟨vs, hv⟩ := Go.Deep.choose_lt each
    refine ⟨(List.range len).map vs, by simp, ⟨by simp; omega, by omega, fun i u hi => ?_⟩, fun e he => ?_⟩
    · have hlt : i < len := by
        obtain ⟨h, -⟩ := List.getElem?_eq_some_iff.1 hi
        simpa using h
      simp [hlt] at hi
      subst hi
      obtain ⟨b0, off0, e0, -⟩ := hv 0 (by omega)
      obtain ⟨b, off, e, hk, -, hok⟩ := hv i hlt
      simp only [Nat.zero_mul] at e0
      obtain ⟨bx, ox, sx⟩ := x
      have e0' : (⟨bx, ox, sx⟩ : Addr) = ⟨b0, off0, none⟩ := by simpa [Addr.add] using e0
      simp only [Addr.mk.injEq] at e0'
      obtain ⟨rfl, rfl, rfl⟩ := e0'
      rw [add_lit] at e
      simp only [Addr.mk.injEq, and_true] at e
      obtain ⟨rfl, rfl⟩ := e
      exact ⟨bx, ox, rfl, hk, hok⟩
    · simp only [List.mem_map, List.mem_range] at he
      obtain ⟨i, hi, rfl⟩ := he
      obtain ⟨_, _, _, _, h, _⟩ := hv i hi
      exact h
end
end Go.Proofs.Ytfhacfedklaaiaa
