/- Items of several texts. -/
import Derived.Test.YtpnnpdfmoldiiaaRows
import Derived.Test.YtpnnpdfmoldiiaaQArg13
namespace Go.Proofs.Ytpnnpdfmoldiiaa
theorem bulk_one {H : Type} (d : DataW H) : 1 ≤ Rows.uptoBulk d := by
 cases d with
 | lit l => cases l <;> simp [Rows.uptoBulk]
 | nil => simp [Rows.uptoBulk]
 | ptr d => simp [Rows.uptoBulk]
 | slice elems spare => simp [Rows.uptoBulk]
 | agg parts => simp [Rows.uptoBulk]
 | iface t d => simp [Rows.uptoBulk]
 | map entries => simp [Rows.uptoBulk]
 | held h => simp [Rows.uptoBulk]
theorem bulk_part {H : Type} {d : DataW H} {l : List (DataW H)} (h : d ∈ l) : Rows.uptoBulk d ≤ Rows.uptoBulkAll l := by
 induction l with
 | nil => cases h
 | cons x r ih =>
  simp only [Rows.uptoBulkAll]
  cases List.mem_cons.1 h with
  | inl e => subst e; omega
  | inr e => have := ih e; omega
theorem bulk_len {H : Type} (l : List (DataW H)) : l.length ≤ Rows.uptoBulkAll l := by
 induction l with
 | nil => simp
 | cons x r ih => have := bulk_one x; simp only [Rows.uptoBulkAll, List.length_cons]; omega
theorem bulk_slice {H : Type} (elems spare : List (DataW H)) : elems.length ≤ Rows.uptoBulk (.slice elems spare) := by
 have h1 := bulk_len elems
 simp only [Rows.uptoBulk]
 omega
theorem bulk_elems {H : Type} (elems spare : List (DataW H)) : Rows.uptoBulkAll elems ≤ Rows.uptoBulk (.slice elems spare) := by
 simp only [Rows.uptoBulk]
 omega
theorem bulk_agg {H : Type} (parts : List (DataW H)) : Rows.uptoBulkAll parts ≤ Rows.uptoBulk (.agg parts) := by
 simp only [Rows.uptoBulk]
 omega
end Go.Proofs.Ytpnnpdfmoldiiaa

namespace Go.Proofs.Ytpnnpdfmoldiiaa
open Go.ChangeShapes Go.WideShapes Go.ChangeAt Go.RowKit
section
variable {H : Type} {enc : TypeId × Value → H}
set_option maxRecDepth 100000 in
theorem val_ofU {B : Nat} {w : World} {n : Nat} {vs : List Value} {d : DataW H} {pl : List MemPlace} {a : Addr} (h : DataW.trod enc Try.prog w 0 (fun _ => true) true n 117 vs = some (d, pl))
  (hc : ∀ k v, vs[k]? = some v → w.cell? (a.add k) = some v) (hz : ∀ n ∈ d.weights Try.prog 117, n ≤ reachBytes) (hb : Rows.uptoBulk d ≤ B) : ∃ b off, a = ⟨b, off, none⟩ ∧ b < w.heap.size ∧ ∃ v : V, At4 w b off v ∧ VOk w v ∧ v.data.length ≤ B := by
 obtain ⟨f0, f1, f2, hu, ⟨o0, t0⟩, ⟨o1, t1⟩, ⟨o2, t2⟩⟩ := fieldsVal
 obtain ⟨xs, m, -, hxy, hvl, hxl, hf⟩ := DataW.trod_struct hu h
 rw [cellsW] at hvl
 obtain ⟨v0, v1, v2, v3, rfl⟩ := list4 vs hvl
 obtain ⟨x0, x1, x2, rfl⟩ := list3 xs (by simpa using hxl)
 have g0 := hf 0 f0 rfl
 have g1 := hf 1 f1 rfl
 have g2 := hf 2 f2 rfl
 rw [o0, t0, cellsD] at g0
 rw [o1, t1, cellsB] at g1
 rw [o2, t2, cells4] at g2
 simp at g0 g1 g2
 obtain ⟨y0, y1, m', -, -, h0, h1⟩ := trod_struct2 Try.underlying81 g0
 simp only [cells3, cells2] at h0 h1
 obtain ⟨N0, e0, -, q0⟩ := DataW.trod_int Try.underlying3 h0
 obtain ⟨N1, e1, -, q1⟩ := DataW.trod_int Try.underlying2 h1
 have i0 : v0 = .int .i64 N0 := (List.cons.inj (show [v0] = [.int .i64 N0] from e0)).1
 have i1 : v1 = .int .i64 N1 := (List.cons.inj (show [v1] = [.int .i64 N1] from e1)).1
 subst i0 i1
 obtain ⟨y3, e3, -⟩ := DataW.trod_bool Try.underlying4 g2
 simp at e3
 subst e3
 have q0 := wfI q0
 have q1 := wfI q1
 have k0 := hc 0 _ rfl
 obtain ⟨b, off, spot⟩ := a
 have hspot : spot = none := by simpa [Addr.add] using World.cell?_spot k0
 subst hspot
 have k1 := hc 1 _ rfl
 have k2 := hc 2 _ rfl
 have k3 := hc 3 _ rfl
 rw [add_lit] at k0 k1 k2 k3
 refine ⟨b, off, rfl, cell_lt k0, ?_⟩
 simp only [Prod.mk.injEq] at hxy
 obtain ⟨rfl, -⟩ := hxy
 obtain ⟨tt, len, tc, zs, rfl, hr, hbound, hbb⟩ : ∃ tt len tc zs, v2 = .slice tt len tc ∧ IsRow .u8 w tt len tc zs ∧ len ≤ 140737488351232 ∧ len ≤ B := by
  rcases open_ints Try.underlying46 Try.underlying5 (by kernel_rfl) g1 with ⟨hcs, -⟩ | ⟨x, l, c, zs, hcs, _, hl, hm, hzz, hx, hcell, hwz⟩
  ·simp at hcs
   exact ⟨none, 0, 0, [], hcs, .inl ⟨rfl, rfl, rfl, rfl⟩, by omega, by omega⟩
  ·simp at hcs
   simp only [if_true] at hzz
   refine ⟨_, _, _, zs, hcs, .inr ⟨_, rfl, hl, hm, hzz, hcell, hwz⟩, ?_⟩
   have hB : Rows.uptoBulk x1.1 ≤ B := Nat.le_trans (Nat.le_trans (bulk_part (List.mem_map.2 ⟨x1, by simp, rfl⟩)) (bulk_agg _)) hb
   rw [hx] at hB
   have h5 := bulk_slice (lits (H := H) .u8 (zs.take l)) (lits (H := H) .u8 (zs.drop l))
   have h7 : (lits (H := H) .u8 (zs.take l)).length = min l zs.length := by simp only [lits, List.length_map, List.length_take]
   have hB2 : l ≤ B := by
    have h8 := Nat.le_trans h5 hB
    omega
   have hmem : (zs.length * Try.prog.bytesOf 5) ∈ DataW.weights Try.prog 117 (DataW.agg ([x0, x1, x2].map (·.1))) := by
    simp only [DataW.weights, hu]
    refine DataW.weights_mem_each (j := 1) (t := 46) (d := x1.1) (by simp [t1]) rfl _ ?_
    rw [hx]
    simp only [DataW.weights, Try.underlying46, List.mem_cons]
    left
    simp only [lits, List.length_map, List.length_take, List.length_drop]
    congr 1
    omega
   have := hz _ hmem
   rw [bytesB] at this
   simp only [reachBytes] at this
   exact ⟨by omega, hB2⟩
 obtain ⟨bs, rfl, hbs, hsrc⟩ := isRow_src hr
 exact ⟨⟨N0, N1, tt, tc, bs, y3⟩, ⟨k0, k1, k2, k3⟩, ⟨hsrc, hbs, q0.1, q0.2, q1.1, q1.2, hbound⟩, hbb⟩
theorem row_ofU {B : Nat} {w : World} {fuel : Nat} {a : Option Addr} {len cap : Nat} {d : DataW H} {pl : List MemPlace} (h : DataW.trod enc Try.prog w 0 (fun _ => true) true fuel 36 [.slice a len cap] = some (d, pl)) (hz : ∀ n ∈ d.weights Try.prog 36, n ≤ reachBytes) (hb : Rows.uptoBulk d ≤ B) :
  ∃ l : List V, l.length = len ∧ Row w a cap l ∧ ∀ v ∈ l, v.data.length ≤ B := by
 rcases Go.Deep.open_slice Try.underlying36 h with ⟨hcs, -⟩ | ⟨x, l, c, m, n, D, Pl, hcs, -, hl, hm, hmm, hx, hel⟩
 ·simp at hcs
  obtain ⟨rfl, rfl, rfl⟩ := hcs
  exact ⟨[], rfl, Row.nil w none 0 (by omega), fun v hv => by simp at hv⟩
 ·simp at hcs
  obtain ⟨rfl, rfl, rfl⟩ := hcs
  simp only [if_true] at hmm
  unfold maxLen at hm
  simp only [Prod.mk.injEq] at hx
  obtain ⟨rfl, -⟩ := hx
  have each : ∀ i, i < len → ∃ v : V, ∃ b off, x.add (i * 4) = ⟨b, off, none⟩ ∧ b < w.heap.size ∧ At4 w b off v ∧ VOk w v ∧ v.data.length ≤ B := by
   intro i hi
   obtain ⟨vs, hv, ht⟩ := hel i (by omega)
   rw [cellsW] at hv
   obtain ⟨-, hvl, hcell⟩ := World.cells?_some hv
   obtain ⟨b, off, e, hb, v, hc, hk⟩ := val_ofU ht (fun k v hk => by
    have : k < 4 := by
     obtain ⟨h, -⟩ := List.getElem?_eq_some_iff.1 hk
     omega
    rw [hcell k this]
    exact hk) (fun n hn => hz n (by
     simp only [DataW.weights, Try.underlying36, List.mem_cons, List.mem_append]
     exact .inr (.inl (weights_all (List.mem_map.2 ⟨i, List.mem_range.2 hi, rfl⟩) n hn)))) (Nat.le_trans (Nat.le_trans (bulk_part (List.mem_map.2 ⟨i, List.mem_range.2 hi, rfl⟩)) (bulk_elems _ _)) hb)
   exact ⟨v, b, off, e, hb, hc, hk⟩
  haveI : Inhabited V := ⟨zeroV⟩
  obtain ⟨vs, hv⟩ := Go.Deep.choose_lt each
  refine ⟨(List.range len).map vs, by simp, ⟨by simp; omega, by omega, fun i u hi => ?_⟩, fun v hv9 => by
   simp only [List.mem_map, List.mem_range] at hv9
   obtain ⟨i, hi, rfl⟩ := hv9
   obtain ⟨_, _, _, _, _, _, h⟩ := hv i hi
   exact h⟩
  have hlt : i < len := by
   obtain ⟨h, -⟩ := List.getElem?_eq_some_iff.1 hi
   simpa using h
  simp [hlt] at hi
  subst hi
  obtain ⟨b0, off0, e0, -⟩ := hv 0 (by omega)
  obtain ⟨b, off, e, hb, hk, hok, -⟩ := hv i hlt
  simp only [Nat.zero_mul] at e0
  obtain ⟨bx, ox, sx⟩ := x
  have e0' : (⟨bx, ox, sx⟩ : Addr) = ⟨b0, off0, none⟩ := by simpa [Addr.add] using e0
  simp only [Addr.mk.injEq] at e0'
  obtain ⟨rfl, rfl, rfl⟩ := e0'
  rw [add_lit] at e
  simp only [Addr.mk.injEq, and_true] at e
  obtain ⟨rfl, rfl⟩ := e
  exact ⟨bx, ox, rfl, hk, hok⟩
set_option maxRecDepth 100000 in
theorem sibs_cellsU {B : Nat} {W : World} {fuel : Nat} {c0 c1 c2 c3 c4 c5 c6 c7 c8 : Value} {d : DataW H} {pl : List MemPlace}
  (hf : DataW.trod enc Try.prog W 0 (fun _ => true) true fuel 38 [c0, c1, c2, c3, c4, c5, c6, c7, c8] = some (d, pl)) (hz : ∀ n ∈ d.weights Try.prog 38, n ≤ reachBytes) (hb : Rows.uptoBulk d ≤ B) :
  ∃ (f : Nat → Int) (a : Option Addr) (cap : Nat) (l : List V), [c0, c1, c2, c3, c4, c5, c6, c7, c8] = (#[.int .i64 (f 0), .int .i64 (f 1), .int .i64 (f 2), .int .i64 (f 3), .int .i64 (f 4), .int .i64 (f 5), .int .i64 (f 6), .int .i64 (f 7), .slice a l.length cap] : Array Value).toList ∧ Row W a cap l ∧ (∀ j, j < 8 → -9223372036854775808 ≤ f j ∧ f j ≤ 9223372036854775807) ∧ ∀ v ∈ l, v.data.length ≤ B := by
 obtain ⟨f0, f1, hu, ⟨o0, t0⟩, ⟨o1, t1⟩⟩ := fieldsSibs
 obtain ⟨xs, m, -, hxy, hvl, hxl, hfl⟩ := DataW.trod_struct hu hf
 obtain ⟨x0, x1, rfl⟩ := list2 xs (by simpa using hxl)
 have g0 := hfl 0 f0 rfl
 have g1 := hfl 1 f1 rfl
 rw [o0, t0, cellsV] at g0
 rw [o1, t1, cellsL] at g1
 simp at g0 g1
 obtain ⟨f, e, hr⟩ := vec_cells g0
 simp only [List.cons.injEq, and_true] at e
 obtain ⟨rfl, rfl, rfl, rfl, rfl, rfl, rfl, rfl⟩ := e
 obtain ⟨a, len, cap, rfl⟩ : ∃ a len cap, c8 = .slice a len cap := by
  rcases Go.Deep.open_slice Try.underlying36 g1 with ⟨hcs, -⟩ | ⟨x, l, c, m, n, D, Pl, hcs, -⟩
  ·simp at hcs; exact ⟨_, _, _, hcs⟩
  ·simp at hcs; exact ⟨_, _, _, hcs⟩
 simp only [Prod.mk.injEq] at hxy
 obtain ⟨rfl, -⟩ := hxy
 obtain ⟨l, rfl, hrow, hdat⟩ := row_ofU g1 (fun n hn => hz n (by
  simp only [DataW.weights, hu]
  exact DataW.weights_mem_each (j := 1) (t := 36) (d := x1.1) (by simp [t1]) rfl _ hn)) (Nat.le_trans (Nat.le_trans (bulk_part (List.mem_map.2 ⟨x1, by simp, rfl⟩)) (bulk_agg _)) hb)
 exact ⟨f, a, cap, l, rfl, hrow, hr, hdat⟩
set_option maxRecDepth 100000 in
theorem ent_cellsU {B : Nat} {W : World} {fuel : Nat} {vs : List Value} {d : DataW H} {pl : List MemPlace}
  (hf : DataW.trod enc Try.prog W 0 (fun _ => true) true fuel 40 vs = some (d, pl)) (hz : ∀ n ∈ d.weights Try.prog 40, n ≤ reachBytes) (hb : Rows.uptoBulk d ≤ B) :
  ∃ e : E, vs = ecs e ∧ e.key.size ≤ maxLen ∧ Row W e.a e.cap e.l ∧ (∀ j, j < 8 → -9223372036854775808 ≤ e.f j ∧ e.f j ≤ 9223372036854775807) ∧ ∀ v ∈ e.l, v.data.length ≤ B := by
 obtain ⟨f0, f1, hu, ⟨o0, t0⟩, ⟨o1, t1⟩⟩ := fieldsEntry
 obtain ⟨xs, m, -, hxy, hvl, hxl, hfl⟩ := DataW.trod_struct hu hf
 rw [cellsEn] at hvl
 obtain ⟨c, c0, c1, c2, c3, c4, c5, c6, c7, c8, rfl⟩ := list10 vs hvl
 obtain ⟨x0, x1, rfl⟩ := list2 xs (by simpa using hxl)
 have g0 := hfl 0 f0 rfl
 have g1 := hfl 1 f1 rfl
 rw [o0, t0, cells9] at g0
 rw [o1, t1, cellsS] at g1
 simp at g0 g1
 obtain ⟨s, hs, -, hsz⟩ := DataW.trod_string Try.underlying9 g0
 simp at hs
 subst hs
 simp only [Prod.mk.injEq] at hxy
 obtain ⟨rfl, -⟩ := hxy
 obtain ⟨f, a, cap, l, e, hrow, hrg, hdat⟩ := sibs_cellsU g1 (fun n hn => hz n (by
  simp only [DataW.weights, hu]
  exact DataW.weights_mem_each (j := 1) (t := 38) (d := x1.1) (by simp [t1]) rfl _ hn)) (Nat.le_trans (Nat.le_trans (bulk_part (List.mem_map.2 ⟨x1, by simp, rfl⟩)) (bulk_agg _)) hb)
 simp only [List.cons.injEq, and_true] at e
 obtain ⟨rfl, rfl, rfl, rfl, rfl, rfl, rfl, rfl, rfl⟩ := e
 exact ⟨⟨s, f, a, cap, l⟩, rfl, hsz, hrow, hrg, hdat⟩
theorem argLU {B : Nat} {w : World} {fuel : Nat} {a : Option Addr} {len cap : Nat} {d : DataW H} {pl : List MemPlace} (h : DataW.trod enc Try.prog w 0 (fun _ => true) true fuel 22 [.slice a len cap] = some (d, pl)) (hz : ∀ n ∈ d.weights Try.prog 22, n ≤ reachBytes) (hb : Rows.uptoBulk d ≤ B) :
  ∃ es : List E, es.length = len ∧ Ens w a cap es ∧ ∀ e ∈ es, (∀ j, j < 8 → -9223372036854775808 ≤ e.f j ∧ e.f j ≤ 9223372036854775807) ∧ ∀ v ∈ e.l, v.data.length ≤ B := by
 rcases Go.Deep.open_slice Try.underlying22 h with ⟨hcs, -⟩ | ⟨x, l, c, m, n, D, Pl, hcs, -, hl, hm, hmm, hx, hel⟩
 ·simp at hcs
  obtain ⟨rfl, rfl, rfl⟩ := hcs
  exact ⟨[], rfl, Ens.nil w none 0 (by omega), fun e he => by simp at he⟩
 ·simp at hcs
  obtain ⟨rfl, rfl, rfl⟩ := hcs
  simp only [if_true] at hmm
  unfold maxLen at hm
  simp only [Prod.mk.injEq] at hx
  obtain ⟨rfl, -⟩ := hx
  have each : ∀ i, i < len → ∃ e : E, ∃ b off, x.add (i * 10) = ⟨b, off, none⟩ ∧ (∀ j u, (ecs e)[j]? = some u → w.cell? ⟨b, off + j, none⟩ = some u) ∧ ((∀ j, j < 8 → -9223372036854775808 ≤ e.f j ∧ e.f j ≤ 9223372036854775807) ∧ ∀ v ∈ e.l, v.data.length ≤ B) ∧ Row w e.a e.cap e.l := by
   intro i hi
   obtain ⟨vs, hv, ht⟩ := hel i (by omega)
   rw [cellsEn] at hv
   obtain ⟨-, hvl, hcell⟩ := World.cells?_some hv
   obtain ⟨e, rfl, -, hr, hrg, hdat⟩ := ent_cellsU ht (fun n hn => hz n (by
     simp only [DataW.weights, Try.underlying22, List.mem_cons, List.mem_append]
     exact .inr (.inl (weights_all (List.mem_map.2 ⟨i, List.mem_range.2 hi, rfl⟩) n hn)))) (Nat.le_trans (Nat.le_trans (bulk_part (List.mem_map.2 ⟨i, List.mem_range.2 hi, rfl⟩)) (bulk_elems _ _)) hb)
   have hc : ∀ k v, (ecs e)[k]? = some v → w.cell? ((x.add (i * 10)).add k) = some v := fun k v hk => by
    have : k < 10 := by
     obtain ⟨h, -⟩ := List.getElem?_eq_some_iff.1 hk
     rwa [ecs_len] at h
    rw [hcell k this]
    exact hk
   generalize x.add (i * 10) = y at hc ⊢
   obtain ⟨b, off, spot⟩ := y
   have k0 := hc 0 _ rfl
   have hspot : spot = none := by simpa [Addr.add] using World.cell?_spot k0
   subst hspot
   exact ⟨e, b, off, rfl, fun j u hj => by have := hc j u hj; rwa [add_lit] at this, ⟨hrg, hdat⟩, hr⟩
  haveI : Inhabited E := ⟨⟨⟨#[]⟩, zer, none, 0, []⟩⟩
  obtain ⟨vs, hv⟩ := Go.Deep.choose_lt each
  refine ⟨(List.range len).map vs, by simp, ⟨by simp; omega, by omega, fun i u hi => ?_⟩, fun e he => ?_⟩
  ·have hlt : i < len := by
    obtain ⟨h, -⟩ := List.getElem?_eq_some_iff.1 hi
    simpa using h
   simp [hlt] at hi
   subst hi
   obtain ⟨b0, off0, e0, -⟩ := hv 0 (by omega)
   obtain ⟨b, off, e, hk, -, hok⟩ := hv i hlt
   simp only [Nat.zero_mul] at e0
   obtain ⟨bx, ox, sx⟩ := x
   have e0' : (⟨bx, ox, sx⟩ : Addr) = ⟨b0, off0, none⟩ := by simpa [Addr.add] using e0
   simp only [Addr.mk.injEq] at e0'
   obtain ⟨rfl, rfl, rfl⟩ := e0'
   rw [add_lit] at e
   simp only [Addr.mk.injEq, and_true] at e
   obtain ⟨rfl, rfl⟩ := e
   exact ⟨bx, ox, rfl, hk, hok⟩
  ·simp only [List.mem_map, List.mem_range] at he
   obtain ⟨i, hi, rfl⟩ := he
   obtain ⟨_, _, _, _, h, _⟩ := hv i hi
   exact h
end
end Go.Proofs.Ytpnnpdfmoldiiaa
