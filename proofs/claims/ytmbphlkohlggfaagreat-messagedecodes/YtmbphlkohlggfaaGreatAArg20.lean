/- Items of several texts. -/
import Derived.Test.YtmbphlkohlggfaaGreatAQz18
import Derived.Test.YtmbphlkohlggfaaGreatAArg13
namespace Go.Proofs.YtmbphlkohlggfaaGreat
set_option maxRecDepth 100000
open Go.ChangeShapes Go.WideShapes Go.ChangeAt Go.RowKit
section
variable {H : Type} {enc : TypeId × Value → H}
theorem slice_reach {t e : TypeId} (hu : Tryz.prog.underlying t = some (.slice e)) {w : World} {fuel : Nat} {a : Option Addr} {len cap : Nat} {d : DataW H} {pl : List MemPlace} (h : DataW.trod enc Tryz.prog w 0 (fun _ => true) true fuel t [.slice a len cap] = some (d, pl)) (hz : ∀ n ∈ d.weights Tryz.prog t, n ≤ reachBytes) : len * Tryz.prog.bytesOf e ≤ 140737488355328 := by
 rcases Go.Deep.open_slice hu h with ⟨hcs, -⟩ | ⟨x, l, c, m, n, D, Pl, hcs, -, hl, hm, hmm, hx, hel⟩
 ·simp at hcs
  obtain ⟨rfl, rfl, rfl⟩ := hcs
  omega
 ·simp at hcs
  obtain ⟨rfl, rfl, rfl⟩ := hcs
  simp only [if_true] at hmm
  simp only [Prod.mk.injEq] at hx
  obtain ⟨rfl, -⟩ := hx
  have h1 := hz _ (by simp only [DataW.weights, hu, List.mem_cons]; exact .inl rfl)
  simp only [List.length_map, List.length_range, reachBytes] at h1
  refine Nat.le_trans (Nat.mul_le_mul_right _ ?_) (Nat.le_trans h1 (by omega))
  omega
theorem cellsMm : Tryz.prog.cellsOf 60 = 2 := by kernel_rfl
theorem cellsEs : Tryz.prog.cellsOf 22 = 1 := by kernel_rfl
theorem cellsGs : Tryz.prog.cellsOf 23 = 1 := by kernel_rfl
theorem cellsMs : Tryz.prog.cellsOf 24 = 1 := by kernel_rfl
theorem cellsMg : Tryz.prog.cellsOf 26 = 10 := by kernel_rfl
theorem bytesVx : Tryz.prog.bytesOf 137 = 48 := by kernel_rfl
theorem bytesDx : Tryz.prog.bytesOf 93 = 16 := by kernel_rfl
theorem sibs_cellsX {W : World} {fuel : Nat} {c0 c1 c2 c3 c4 c5 c6 c7 c8 : Value} {d : DataW H} {pl : List MemPlace}
  (hf : DataW.trod enc Tryz.prog W 0 (fun _ => true) true fuel 44 [c0, c1, c2, c3, c4, c5, c6, c7, c8] = some (d, pl)) (hz : ∀ n ∈ d.weights Tryz.prog 44, n ≤ reachBytes) :
  ∃ (f : Nat → Int) (a : Option Addr) (cap : Nat) (l : List V), [c0, c1, c2, c3, c4, c5, c6, c7, c8] = (#[.int .i64 (f 0), .int .i64 (f 1), .int .i64 (f 2), .int .i64 (f 3), .int .i64 (f 4), .int .i64 (f 5), .int .i64 (f 6), .int .i64 (f 7), .slice a l.length cap] : Array Value).toList ∧ Row W a cap l ∧ l.length * 48 ≤ 140737488355328 := by
 obtain ⟨f0, f1, hu, ⟨o0, t0⟩, ⟨o1, t1⟩⟩ := fieldsSibs
 obtain ⟨xs, m, -, hxy, hvl, hxl, hfl⟩ := DataW.trod_struct hu hf
 obtain ⟨x0, x1, rfl⟩ := list2 xs (by simpa using hxl)
 have g0 := hfl 0 f0 rfl
 have g1 := hfl 1 f1 rfl
 rw [o0, t0, cellsV] at g0
 rw [o1, t1, cellsL] at g1
 simp at g0 g1
 obtain ⟨f, e, hr⟩ := vec_cells g0
 simp only [List.cons.injEq, and_true] at e
 obtain ⟨rfl, rfl, rfl, rfl, rfl, rfl, rfl, rfl⟩ := e
 obtain ⟨a, len, cap, rfl⟩ : ∃ a len cap, c8 = .slice a len cap := by
  rcases Go.Deep.open_slice Tryz.underlying42 g1 with ⟨hcs, -⟩ | ⟨x, l, c, m, n, D, Pl, hcs, -⟩
  ·simp at hcs; exact ⟨_, _, _, hcs⟩
  ·simp at hcs; exact ⟨_, _, _, hcs⟩
 simp only [Prod.mk.injEq] at hxy
 obtain ⟨rfl, -⟩ := hxy
 obtain ⟨l, rfl, hrow⟩ := row_of g1 (fun n hn => hz n (by
  simp only [DataW.weights, hu]
  exact DataW.weights_mem_each (j := 1) (t := 42) (d := x1.1) (by simp [t1]) rfl _ hn))
 exact ⟨f, a, cap, l, rfl, hrow, by
  have h := slice_reach Tryz.underlying42 g1 (fun n hn => hz n (by
   simp only [DataW.weights, hu]
   exact DataW.weights_mem_each (j := 1) (t := 42) (d := x1.1) (by simp [t1]) rfl _ hn))
  rw [bytesVx] at h
  exact h⟩
theorem ent_cellsX {W : World} {fuel : Nat} {vs : List Value} {d : DataW H} {pl : List MemPlace}
  (hf : DataW.trod enc Tryz.prog W 0 (fun _ => true) true fuel 46 vs = some (d, pl)) (hz : ∀ n ∈ d.weights Tryz.prog 46, n ≤ reachBytes) :
  ∃ e : E, vs = ecs e ∧ e.key.size ≤ maxLen ∧ Row W e.a e.cap e.l ∧ e.l.length * 48 ≤ 140737488355328 := by
 obtain ⟨f0, f1, hu, ⟨o0, t0⟩, ⟨o1, t1⟩⟩ := fieldsEntry
 obtain ⟨xs, m, -, hxy, hvl, hxl, hfl⟩ := DataW.trod_struct hu hf
 rw [cellsEn] at hvl
 obtain ⟨c, c0, c1, c2, c3, c4, c5, c6, c7, c8, rfl⟩ := list10 vs hvl
 obtain ⟨x0, x1, rfl⟩ := list2 xs (by simpa using hxl)
 have g0 := hfl 0 f0 rfl
 have g1 := hfl 1 f1 rfl
 rw [o0, t0, cells9] at g0
 rw [o1, t1, cellsS] at g1
 simp at g0 g1
 obtain ⟨s, hs, -, hsz⟩ := DataW.trod_string Tryz.underlying9 g0
 simp at hs
 subst hs
 simp only [Prod.mk.injEq] at hxy
 obtain ⟨rfl, -⟩ := hxy
 obtain ⟨f, a, cap, l, e, hrow, hrg⟩ := sibs_cellsX g1 (fun n hn => hz n (by
  simp only [DataW.weights, hu]
  exact DataW.weights_mem_each (j := 1) (t := 44) (d := x1.1) (by simp [t1]) rfl _ hn))
 simp only [List.cons.injEq, and_true] at e
 obtain ⟨rfl, rfl, rfl, rfl, rfl, rfl, rfl, rfl, rfl⟩ := e
 exact ⟨⟨s, f, a, cap, l⟩, rfl, hsz, hrow, hrg⟩
theorem argLX {w : World} {fuel : Nat} {a : Option Addr} {len cap : Nat} {d : DataW H} {pl : List MemPlace} (h : DataW.trod enc Tryz.prog w 0 (fun _ => true) true fuel 22 [.slice a len cap] = some (d, pl)) (hz : ∀ n ∈ d.weights Tryz.prog 22, n ≤ reachBytes) :
  ∃ es : List E, es.length = len ∧ Ens w a cap es ∧ ∀ e ∈ es, e.key.size ≤ maxLen ∧ e.l.length * 48 ≤ 140737488355328 := by
 rcases Go.Deep.open_slice Tryz.underlying22 h with ⟨hcs, -⟩ | ⟨x, l, c, m, n, D, Pl, hcs, -, hl, hm, hmm, hx, hel⟩
 ·simp at hcs
  obtain ⟨rfl, rfl, rfl⟩ := hcs
  exact ⟨[], rfl, Ens.nil w none 0 (by omega), fun e he => by simp at he⟩
 ·simp at hcs
  obtain ⟨rfl, rfl, rfl⟩ := hcs
  simp only [if_true] at hmm
  unfold maxLen at hm
  simp only [Prod.mk.injEq] at hx
  obtain ⟨rfl, -⟩ := hx
  have each : ∀ i, i < len → ∃ e : E, ∃ b off, x.add (i * 10) = ⟨b, off, none⟩ ∧ (∀ j u, (ecs e)[j]? = some u → w.cell? ⟨b, off + j, none⟩ = some u) ∧ (e.key.size ≤ maxLen ∧ e.l.length * 48 ≤ 140737488355328) ∧ Row w e.a e.cap e.l := by
   intro i hi
   obtain ⟨vs, hv, ht⟩ := hel i (by omega)
   rw [cellsEn] at hv
   obtain ⟨-, hvl, hcell⟩ := World.cells?_some hv
   obtain ⟨e, rfl, hk, hr, hrg⟩ := ent_cellsX ht (fun n hn => hz n (by
     simp only [DataW.weights, Tryz.underlying22, List.mem_cons, List.mem_append]
     exact .inr (.inl (weights_all (List.mem_map.2 ⟨i, List.mem_range.2 hi, rfl⟩) n hn))))
   have hc : ∀ k v, (ecs e)[k]? = some v → w.cell? ((x.add (i * 10)).add k) = some v := fun k v hk => by
    have : k < 10 := by
     obtain ⟨h, -⟩ := List.getElem?_eq_some_iff.1 hk
     rwa [ecs_len] at h
    rw [hcell k this]
    exact hk
   generalize x.add (i * 10) = y at hc ⊢
   obtain ⟨b, off, spot⟩ := y
   have k0 := hc 0 _ rfl
   have hspot : spot = none := by simpa [Addr.add] using World.cell?_spot k0
   subst hspot
   exact ⟨e, b, off, rfl, fun j u hj => by have := hc j u hj; rwa [add_lit] at this, ⟨hk, hrg⟩, hr⟩
  haveI : Inhabited E := ⟨⟨⟨#[]⟩, zer, none, 0, []⟩⟩
  obtain ⟨vs, hv⟩ := Go.Deep.choose_lt each
  refine ⟨(List.range len).map vs, by simp, ⟨by simp; omega, by omega, fun i u hi => ?_⟩, fun e he => ?_⟩
  ·have hlt : i < len := by
    obtain ⟨h, -⟩ := List.getElem?_eq_some_iff.1 hi
    simpa using h
   simp [hlt] at hi
   subst hi
   obtain ⟨b0, off0, e0, -⟩ := hv 0 (by omega)
   obtain ⟨b, off, e, hk, -, hok⟩ := hv i hlt
   simp only [Nat.zero_mul] at e0
   obtain ⟨bx, ox, sx⟩ := x
   have e0' : (⟨bx, ox, sx⟩ : Addr) = ⟨b0, off0, none⟩ := by simpa [Addr.add] using e0
   simp only [Addr.mk.injEq] at e0'
   obtain ⟨rfl, rfl, rfl⟩ := e0'
   rw [add_lit] at e
   simp only [Addr.mk.injEq, and_true] at e
   obtain ⟨rfl, rfl⟩ := e
   exact ⟨bx, ox, rfl, hk, hok⟩
  ·simp only [List.mem_map, List.mem_range] at he
   obtain ⟨i, hi, rfl⟩ := he
   obtain ⟨_, _, _, _, h, _⟩ := hv i hi
   exact h
theorem mems_of {w : World} {fuel : Nat} {a : Option Addr} {len cap : Nat} {d : DataW H} {pl : List MemPlace} (h : DataW.trod enc Tryz.prog w 0 (fun _ => true) true fuel 24 [.slice a len cap] = some (d, pl)) :
  ∃ ds : List (Int × Int), ds.length = len ∧ RowD w a cap ds ∧ RgD ds := by
 rcases Go.Deep.open_slice Tryz.underlying24 h with ⟨hcs, -⟩ | ⟨x, l, c, m, n, D, Pl, hcs, -, hl, hm, hmm, hx, hel⟩
 ·simp at hcs
  obtain ⟨rfl, rfl, rfl⟩ := hcs
  exact ⟨[], rfl, RowD.nil w none 0 (by omega), ⟨fun e he => by simp at he⟩⟩
 ·simp at hcs
  obtain ⟨rfl, rfl, rfl⟩ := hcs
  simp only [if_true] at hmm
  unfold maxLen at hm
  have each : ∀ i, i < len → ∃ e : Int × Int, ∃ b off, x.add (i * 2) = ⟨b, off, none⟩ ∧ w.cell? ⟨b, off, none⟩ = some (.int .i64 e.1) ∧ w.cell? ⟨b, off + 1, none⟩ = some (.int .i64 e.2) ∧ (-9223372036854775808 ≤ e.1 ∧ e.1 ≤ 9223372036854775807) ∧ (-9223372036854775808 ≤ e.2 ∧ e.2 ≤ 9223372036854775807) := by
   intro i hi
   obtain ⟨vs, hv, ht⟩ := hel i (by omega)
   rw [cellsMm] at hv
   obtain ⟨-, hvl, hcell⟩ := World.cells?_some hv
   obtain ⟨v0, v1, rfl⟩ : ∃ v0 v1, vs = [v0, v1] := list2 vs (by simpa using hvl)
   obtain ⟨y0, y1, m', -, -, h0, h1⟩ := trod_struct2 Tryz.underlying60 ht
   simp only [cells3, cells2] at h0 h1
   obtain ⟨N0, e0, -, q0⟩ := DataW.trod_int Tryz.underlying3 h0
   obtain ⟨N1, e1, -, q1⟩ := DataW.trod_int Tryz.underlying2 h1
   have i0 : v0 = .int .i64 N0 := (List.cons.inj (show [v0] = [.int .i64 N0] from e0)).1
   have i1 : v1 = .int .i64 N1 := (List.cons.inj (show [v1] = [.int .i64 N1] from e1)).1
   subst i0 i1
   have q0 := wfI q0
   have q1 := wfI q1
   have k0 := hcell 0 (by omega)
   have k1 := hcell 1 (by omega)
   generalize x.add (i * 2) = y at k0 k1 ⊢
   obtain ⟨b, off, spot⟩ := y
   have hspot : spot = none := by simpa [Addr.add] using World.cell?_spot k0
   subst hspot
   rw [add_lit] at k0 k1
   exact ⟨(N0, N1), b, off, rfl, by simpa using k0, by simpa using k1, q0, q1⟩
  obtain ⟨vs, hv⟩ := Go.Deep.choose_lt each
  refine ⟨(List.range len).map vs, by simp, ⟨by simp; omega, by omega, fun i u hi => ?_⟩, ⟨fun e he => ?_⟩⟩
  ·have hlt : i < len := by
    obtain ⟨h, -⟩ := List.getElem?_eq_some_iff.1 hi
    simpa using h
   simp [hlt] at hi
   subst hi
   obtain ⟨b0, off0, e0, -⟩ := hv 0 (by omega)
   obtain ⟨b, off, e, h0, h1, -⟩ := hv i hlt
   simp only [Nat.zero_mul] at e0
   obtain ⟨bx, ox, sx⟩ := x
   have e0' : (⟨bx, ox, sx⟩ : Addr) = ⟨b0, off0, none⟩ := by simpa [Addr.add] using e0
   simp only [Addr.mk.injEq] at e0'
   obtain ⟨rfl, rfl, rfl⟩ := e0'
   rw [add_lit] at e
   simp only [Addr.mk.injEq, and_true] at e
   obtain ⟨rfl, rfl⟩ := e
   exact ⟨bx, ox, rfl, h0, h1⟩
  ·simp only [List.mem_map, List.mem_range] at he
   obtain ⟨i, hi, rfl⟩ := he
   obtain ⟨_, _, _, _, _, h1, h2⟩ := hv i hi
   exact ⟨h1, h2⟩
theorem dig_cellsX {W : World} {fuel : Nat} {vs : List Value} {d : DataW H} {pl : List MemPlace}
  (hf : DataW.trod enc Tryz.prog W 0 (fun _ => true) true fuel 49 vs = some (d, pl)) (hz : ∀ n ∈ d.weights Tryz.prog 49, n ≤ reachBytes) :
  ∃ e : G, vs = gcs e ∧ e.key.size ≤ reachBytes ∧ RowD W e.a e.cap e.ds ∧ RgD e.ds ∧ e.ds.length * 16 ≤ 140737488355328 := by
 obtain ⟨f0, f1, f2, hu, ⟨o0, t0⟩, ⟨o1, t1⟩, ⟨o2, t2⟩⟩ := fieldsDigest
 obtain ⟨xs, m, -, hxy, hvl, hxl, hfl⟩ := DataW.trod_struct hu hf
 rw [cellsGd] at hvl
 obtain ⟨c, c0, c1, c2, c3, c4, c5, c6, c7, c8, rfl⟩ := list10 vs hvl
 obtain ⟨x0, x1, x2, rfl⟩ := list3 xs (by simpa using hxl)
 have g0 := hfl 0 f0 rfl
 have g1 := hfl 1 f1 rfl
 have g2 := hfl 2 f2 rfl
 rw [o0, t0, cells9] at g0
 rw [o1, t1, cellsV] at g1
 rw [o2, t2, cellsDs] at g2
 simp at g0 g1 g2
 obtain ⟨s, hs, hx0, hsz⟩ := DataW.trod_string Tryz.underlying9 g0
 simp at hs
 subst hs
 obtain ⟨f, e, hr⟩ := vec_cells g1
 simp only [List.cons.injEq, and_true] at e
 obtain ⟨rfl, rfl, rfl, rfl, rfl, rfl, rfl, rfl⟩ := e
 obtain ⟨a, len, cap, rfl⟩ : ∃ a len cap, c8 = .slice a len cap := by
  rcases Go.Deep.open_slice Tryz.underlying47 g2 with ⟨hcs, -⟩ | ⟨x, l, c, m, n, D, Pl, hcs, -⟩
  ·simp at hcs; exact ⟨_, _, _, hcs⟩
  ·simp at hcs; exact ⟨_, _, _, hcs⟩
 obtain ⟨ds, rfl, hd, hrg⟩ := dots_of g2
 simp only [Prod.mk.injEq] at hxy
 obtain ⟨rfl, -⟩ := hxy
 refine ⟨⟨s, f, a, cap, ds⟩, rfl, ?_, hd, hrg, by
  have h := slice_reach Tryz.underlying47 g2 (fun n hn => hz n (by
   simp only [DataW.weights, hu]
   exact DataW.weights_mem_each (j := 2) (t := 47) (d := x2.1) (by simp [t2]) rfl _ hn))
  rw [bytesDx] at h
  exact h⟩
 have := hz s.data.size (by
  simp only [DataW.weights, hu]
  refine DataW.weights_mem_each (j := 0) (t := 9) (d := x0.1) (by simp [t0]) rfl _ ?_
  rw [hx0]
  simp [DataW.weights])
 exact this
theorem argDX {w : World} {fuel : Nat} {a : Option Addr} {len cap : Nat} {d : DataW H} {pl : List MemPlace} (h : DataW.trod enc Tryz.prog w 0 (fun _ => true) true fuel 23 [.slice a len cap] = some (d, pl)) (hz : ∀ n ∈ d.weights Tryz.prog 23, n ≤ reachBytes) :
  ∃ es : List G, es.length = len ∧ Dgs w a cap es ∧ ∀ e ∈ es, e.key.size ≤ reachBytes ∧ RgD e.ds ∧ e.ds.length * 16 ≤ 140737488355328 := by
 rcases Go.Deep.open_slice Tryz.underlying23 h with ⟨hcs, -⟩ | ⟨x, l, c, m, n, D, Pl, hcs, -, hl, hm, hmm, hx, hel⟩
 ·simp at hcs
  obtain ⟨rfl, rfl, rfl⟩ := hcs
  exact ⟨[], rfl, Dgs.nil w none 0 (by omega), fun e he => by simp at he⟩
 ·simp at hcs
  obtain ⟨rfl, rfl, rfl⟩ := hcs
  simp only [if_true] at hmm
  unfold maxLen at hm
  simp only [Prod.mk.injEq] at hx
  obtain ⟨rfl, -⟩ := hx
  have each : ∀ i, i < len → ∃ e : G, ∃ b off, x.add (i * 10) = ⟨b, off, none⟩ ∧ (∀ j u, (gcs e)[j]? = some u → w.cell? ⟨b, off + j, none⟩ = some u) ∧ RowD w e.a e.cap e.ds ∧ e.key.size ≤ reachBytes ∧ RgD e.ds ∧ e.ds.length * 16 ≤ 140737488355328 := by
   intro i hi
   obtain ⟨vs, hv, ht⟩ := hel i (by omega)
   rw [cellsGd] at hv
   obtain ⟨-, hvl, hcell⟩ := World.cells?_some hv
   obtain ⟨e, rfl, hk, hr, hrg, hrf⟩ := dig_cellsX ht (fun n hn => hz n (by
     simp only [DataW.weights, Tryz.underlying23, List.mem_cons, List.mem_append]
     exact .inr (.inl (weights_all (List.mem_map.2 ⟨i, List.mem_range.2 hi, rfl⟩) n hn))))
   have hc : ∀ k v, (gcs e)[k]? = some v → w.cell? ((x.add (i * 10)).add k) = some v := fun k v hk => by
    have : k < 10 := by
     obtain ⟨h, -⟩ := List.getElem?_eq_some_iff.1 hk
     rwa [gcs_len] at h
    rw [hcell k this]
    exact hk
   generalize x.add (i * 10) = y at hc ⊢
   obtain ⟨b, off, spot⟩ := y
   have k0 := hc 0 _ rfl
   have hspot : spot = none := by simpa [Addr.add] using World.cell?_spot k0
   subst hspot
   exact ⟨e, b, off, rfl, fun j u hj => by have := hc j u hj; rwa [add_lit] at this, hr, hk, hrg, hrf⟩
  haveI : Inhabited G := ⟨⟨⟨#[]⟩, zer, none, 0, []⟩⟩
  obtain ⟨vs, hv⟩ := Go.Deep.choose_lt each
  refine ⟨(List.range len).map vs, by simp, ⟨by simp; omega, by omega, fun i u hi => ?_⟩, fun e he => ?_⟩
  ·have hlt : i < len := by
    obtain ⟨h, -⟩ := List.getElem?_eq_some_iff.1 hi
    simpa using h
   simp [hlt] at hi
   subst hi
   obtain ⟨b0, off0, e0, -⟩ := hv 0 (by omega)
   obtain ⟨b, off, e, hk, hok, -⟩ := hv i hlt
   simp only [Nat.zero_mul] at e0
   obtain ⟨bx, ox, sx⟩ := x
   have e0' : (⟨bx, ox, sx⟩ : Addr) = ⟨b0, off0, none⟩ := by simpa [Addr.add] using e0
   simp only [Addr.mk.injEq] at e0'
   obtain ⟨rfl, rfl, rfl⟩ := e0'
   rw [add_lit] at e
   simp only [Addr.mk.injEq, and_true] at e
   obtain ⟨rfl, rfl⟩ := e
   exact ⟨bx, ox, rfl, hk, hok⟩
  ·simp only [List.mem_map, List.mem_range] at he
   obtain ⟨i, hi, rfl⟩ := he
   obtain ⟨_, _, _, _, _, h⟩ := hv i hi
   exact h
theorem fieldsMsg : ∃ f0 f1 f2 f3 f4 f5 f6 f7 f8 f9 : Field, Tryz.prog.underlying 26 = some (.struct #[f0, f1, f2, f3, f4, f5, f6, f7, f8, f9]) ∧ (f0.offset = 0 ∧ f0.type = 3) ∧ (f1.offset = 1 ∧ f1.type = 3) ∧ (f2.offset = 2 ∧ f2.type = 3) ∧ (f3.offset = 3 ∧ f3.type = 2) ∧ (f4.offset = 4 ∧ f4.type = 3) ∧ (f5.offset = 5 ∧ f5.type = 9) ∧ (f6.offset = 6 ∧ f6.type = 3) ∧ (f7.offset = 7 ∧ f7.type = 22) ∧ (f8.offset = 8 ∧ f8.type = 23) ∧ (f9.offset = 9 ∧ f9.type = 24) :=
 ⟨_, _, _, _, _, _, _, _, _, _, Tryz.underlying26, ⟨rfl, rfl⟩, ⟨rfl, rfl⟩, ⟨rfl, rfl⟩, ⟨rfl, rfl⟩, ⟨rfl, rfl⟩, ⟨rfl, rfl⟩, ⟨rfl, rfl⟩, ⟨rfl, rfl⟩, ⟨rfl, rfl⟩, ⟨rfl, rfl⟩⟩
theorem listX10 {α : Type} (l : List α) (h : l.length = 10) : ∃ y0 y1 y2 y3 y4 y5 y6 y7 y8 y9, l = [y0, y1, y2, y3, y4, y5, y6, y7, y8, y9] := by
 match l, h with
 | [y0, y1, y2, y3, y4, y5, y6, y7, y8, y9], _ => exact ⟨y0, y1, y2, y3, y4, y5, y6, y7, y8, y9, rfl⟩
structure MsgRc (es : List E) (gs : List G) : Prop where
 ev : ∀ x ∈ es, x.l.length * 48 ≤ 140737488355328
 gd : ∀ x ∈ gs, x.ds.length * 16 ≤ 140737488355328
set_option maxRecDepth 100000 in
theorem msg_cells {W : World} {fuel : Nat} {vs : List Value} {d : DataW H} {pl : List MemPlace}
  (hf : DataW.trod enc Tryz.prog W 0 (fun _ => true) true fuel 26 vs = some (d, pl)) (hz : ∀ n ∈ d.weights Tryz.prog 26, n ≤ reachBytes) :
  ∃ (m : Mg) (es : List E) (gs : List G) (ms : List (Int × Int)), vs = (#[.int .i64 m.k, .int .i64 m.fr, .int .i64 m.tn, .int .i64 m.op, .int .i64 m.fo, .string m.key, .int .i64 m.bk, .slice m.ea m.el m.ec, .slice m.da m.dl m.dc, .slice m.ma m.ml m.mc] : Array Value).toList ∧ MsgAt W m es gs ms ∧ MsgRc es gs := by
 obtain ⟨f0, f1, f2, f3, f4, f5, f6, f7, f8, f9, hu, ⟨o0, t0⟩, ⟨o1, t1⟩, ⟨o2, t2⟩, ⟨o3, t3⟩, ⟨o4, t4⟩, ⟨o5, t5⟩, ⟨o6, t6⟩, ⟨o7, t7⟩, ⟨o8, t8⟩, ⟨o9, t9⟩⟩ := fieldsMsg
 obtain ⟨xs, m, -, hxy, hvl, hxl, hfl⟩ := DataW.trod_struct hu hf
 rw [cellsMg] at hvl
 obtain ⟨v0, v1, v2, v3, v4, v5, v6, v7, v8, v9, rfl⟩ := listX10 vs hvl
 obtain ⟨x0, x1, x2, x3, x4, x5, x6, x7, x8, x9, rfl⟩ := listX10 xs (by simpa using hxl)
 have g0 := hfl 0 f0 rfl
 rw [o0, t0, cells3] at g0
 have g1 := hfl 1 f1 rfl
 rw [o1, t1, cells3] at g1
 have g2 := hfl 2 f2 rfl
 rw [o2, t2, cells3] at g2
 have g3 := hfl 3 f3 rfl
 rw [o3, t3, cells2] at g3
 have g4 := hfl 4 f4 rfl
 rw [o4, t4, cells3] at g4
 have g5 := hfl 5 f5 rfl
 rw [o5, t5, cells9] at g5
 have g6 := hfl 6 f6 rfl
 rw [o6, t6, cells3] at g6
 have g7 := hfl 7 f7 rfl
 rw [o7, t7, cellsEs] at g7
 have g8 := hfl 8 f8 rfl
 rw [o8, t8, cellsGs] at g8
 have g9 := hfl 9 f9 rfl
 rw [o9, t9, cellsMs] at g9
 simp at g0 g1 g2 g3 g4 g5 g6 g7 g8 g9
 obtain ⟨n0, hn0, -⟩ := DataW.trod_int Tryz.underlying3 g0
 simp at hn0
 subst hn0
 obtain ⟨n1, hn1, -⟩ := DataW.trod_int Tryz.underlying3 g1
 simp at hn1
 subst hn1
 obtain ⟨n2, hn2, -⟩ := DataW.trod_int Tryz.underlying3 g2
 simp at hn2
 subst hn2
 obtain ⟨n3, hn3, -⟩ := DataW.trod_int Tryz.underlying2 g3
 simp at hn3
 subst hn3
 obtain ⟨n4, hn4, -⟩ := DataW.trod_int Tryz.underlying3 g4
 simp at hn4
 subst hn4
 obtain ⟨n6, hn6, -⟩ := DataW.trod_int Tryz.underlying3 g6
 simp at hn6
 subst hn6
 obtain ⟨s, hs, -, hsz⟩ := DataW.trod_string Tryz.underlying9 g5
 simp at hs
 subst hs
 simp only [Prod.mk.injEq] at hxy
 obtain ⟨rfl, -⟩ := hxy
 obtain ⟨a7, l7, c7, rfl⟩ : ∃ a len cap, v7 = .slice a len cap := by
  rcases Go.Deep.open_slice Tryz.underlying22 g7 with ⟨hcs, -⟩ | ⟨x, l, c, m, n, D, Pl, hcs, -⟩
  ·simp at hcs; exact ⟨_, _, _, hcs⟩
  ·simp at hcs; exact ⟨_, _, _, hcs⟩
 obtain ⟨a8, l8, c8, rfl⟩ : ∃ a len cap, v8 = .slice a len cap := by
  rcases Go.Deep.open_slice Tryz.underlying23 g8 with ⟨hcs, -⟩ | ⟨x, l, c, m, n, D, Pl, hcs, -⟩
  ·simp at hcs; exact ⟨_, _, _, hcs⟩
  ·simp at hcs; exact ⟨_, _, _, hcs⟩
 obtain ⟨a9, l9, c9, rfl⟩ : ∃ a len cap, v9 = .slice a len cap := by
  rcases Go.Deep.open_slice Tryz.underlying24 g9 with ⟨hcs, -⟩ | ⟨x, l, c, m, n, D, Pl, hcs, -⟩
  ·simp at hcs; exact ⟨_, _, _, hcs⟩
  ·simp at hcs; exact ⟨_, _, _, hcs⟩
 obtain ⟨es, rfl, he, heb⟩ := argLX g7 (fun n hn => hz n (by
  simp only [DataW.weights, hu]
  exact DataW.weights_mem_each (j := 7) (t := 22) (d := x7.1) (by simp [t7]) rfl _ hn))
 obtain ⟨gs, rfl, hg, hgb⟩ := argDX g8 (fun n hn => hz n (by
  simp only [DataW.weights, hu]
  exact DataW.weights_mem_each (j := 8) (t := 23) (d := x8.1) (by simp [t8]) rfl _ hn))
 obtain ⟨ms, rfl, hm, -⟩ := mems_of g9
 exact ⟨⟨n0, n1, n2, n3, n4, s, n6, a7, es.length, c7, a8, gs.length, c8, a9, ms.length, c9⟩, es, gs, ms, rfl, ⟨he, rfl, hg, rfl, hm, rfl⟩, ⟨fun x hx => (heb x hx).2, fun x hx => (hgb x hx).2.2⟩⟩
end
end Go.Proofs.YtmbphlkohlggfaaGreat
