/- Items of several texts. -/
import Derived.Deep.Slices
import Derived.Test.YtmjmgdbhmbjmaabACo22
import Derived.Test.YtmjmgdbhmbjmaabAArg5
namespace Go.Proofs.Ytmjmgdbhmbjmaab
set_option maxRecDepth 100000
open Go.ChangeShapes Go.WideShapes Go.ChangeAt Go.RowKit
theorem lst9 {α : Type} (l : List α) (h : l.length = 9) : ∃ y0 y1 y2 y3 y4 y5 y6 y7 y8, l = [y0, y1, y2, y3, y4, y5, y6, y7, y8] := by
 match l, h with
 | [y0, y1, y2, y3, y4, y5, y6, y7, y8], _ => exact ⟨y0, y1, y2, y3, y4, y5, y6, y7, y8, rfl⟩
theorem wfI22 {n : Int} (h : (Lit.int .i64 n).wf = true) : -9223372036854775808 ≤ n ∧ n ≤ 9223372036854775807 := by
 simp [Lit.wf] at h
 exact h
def nrm8 (f : Nat → Int) : Nat → Int := fun j => if j < 8 then f j else 0
theorem nrm8_ok (f : Nat → Int) : Nrm (nrm8 f) := fun j hj => by unfold nrm8; rw [if_neg (by omega)]
structure Inz (w : World) (a : Option Addr) (len cap : Nat) (B : Nat → Int) : Prop where
 hlen : len ≤ 9223372036854775807
 at_ : ∀ i, i < len → ∃ b off, a = some ⟨b, off, none⟩ ∧ w.cell? ⟨b, off + i, none⟩ = some (.int .i64 (B i))
 lo : ∀ i, i < len → -9223372036854775808 ≤ B i ∧ B i ≤ 9223372036854775807
theorem argIz {H : Type} {enc : TypeId × Value → H} {w : World} {fuel : Nat} {a : Option Addr} {len cap : Nat} {x : DataW H × List MemPlace}
  (h : DataW.trod enc Try.prog w 0 (fun _ => true) true fuel 37 (Value.slice a len cap).cells.toList = some x) : ∃ B, Inz w a len cap B := by
 rcases open_ints Try.underlying37 Try.underlying3 (by kernel_rfl) h with ⟨hcs, _⟩ | ⟨x, l, c, zs, hcs, _, hl, hm, hz, hx, hcell, hwz⟩
 ·simp [Value.cells] at hcs
  obtain ⟨rfl, rfl, rfl⟩ := hcs
  exact ⟨fun _ => 0, by omega, fun i hi => by omega, fun i hi => by omega⟩
 ·simp [Value.cells] at hcs
  obtain ⟨rfl, rfl, rfl⟩ := hcs
  simp only [if_true] at hz
  unfold maxLen at hm
  refine ⟨fun i => zs.getD i 0, by omega, fun i hi => ?_, fun i hi => wfI22 (hwz _ ?_)⟩
  ·obtain ⟨b, off, rfl, hc⟩ := ints_at hcell (by omega)
   exact ⟨b, off, rfl, hc i (by omega)⟩
  ·have : i < zs.length := by omega
   show zs.getD i 0 ∈ zs
   rw [List.getD_eq_getElem?_getD, List.getElem?_eq_getElem this]
   exact List.getElem_mem this
theorem rem_any (a k : Int) (h0 : 0 < k) : ∃ r : Nat, (IntKind.u64.wrap a).tmod k = (r : Int) ∧ (r : Int) < k := by
 have hnn : 0 ≤ IntKind.u64.wrap a := by rw [IntKind.wrap_u64]; omega
 have e := Int.tmod_eq_emod_of_nonneg (b := k) hnn
 have h1 := Int.emod_nonneg (IntKind.u64.wrap a) (show k ≠ 0 by omega)
 have h2 := Int.emod_lt_of_pos (IntKind.u64.wrap a) h0
 obtain ⟨r, hr⟩ := Int.eq_ofNat_of_zero_le h1
 exact ⟨r, by rw [e, hr], by omega⟩
structure SvOk (w : World) (s : SV) : Prop where
 row : Row w s.a s.cap s.l
 nrm : Nrm s.f
theorem SvOk.off {w w' : World} {s : SV} (h : SvOk w s) (o : Off (fun _ => False) w w') : SvOk w' s := ⟨h.row.off o, h.nrm⟩
structure Sbs (w : World) (a : Option Addr) (cap : Nat) (es : List SV) : Prop where
 len : es.length ≤ cap
 bound : cap ≤ 9223372036854775807
 at_ : ∀ i x, es[i]? = some x → ∃ b off, a = some ⟨b, off, none⟩ ∧ (∀ j u, (sv9 x)[j]? = some u → w.cell? ⟨b, off + i * 9 + j, none⟩ = some u) ∧ SvOk w x
theorem Sbs.off {w w' : World} {a : Option Addr} {cap : Nat} {es : List SV} (h : Sbs w a cap es) (o : Off (fun _ => False) w w') : Sbs w' a cap es :=
 ⟨h.len, h.bound, fun i e hi => by
  obtain ⟨b, off, ea, h1, h2⟩ := h.at_ i e hi
  refine ⟨b, off, ea, fun j u hj => ?_, h2.off o⟩
  have k := h1 j u hj
  rw [← k]
  exact World.cell?_of_block (a := ⟨b, off + i * 9 + j, none⟩) (o.block b (cell_lt k) (fun h => h))⟩
theorem Sbs.nil (w : World) (a : Option Addr) (cap : Nat) (h : cap ≤ 9223372036854775807) : Sbs w a cap [] := ⟨by simp, h, fun i e hi => by simp at hi⟩
section
variable {HH : Type} {enc : TypeId × Value → HH}
set_option maxRecDepth 100000 in
theorem sib_cells22 {W : World} {fuel : Nat} {c0 c1 c2 c3 c4 c5 c6 c7 c8 : Value} {d : DataW HH} {pl : List MemPlace}
  (hf : DataW.trod enc Try.prog W 0 (fun _ => true) true fuel 30 [c0, c1, c2, c3, c4, c5, c6, c7, c8] = some (d, pl)) (hz : ∀ n ∈ d.weights Try.prog 30, n ≤ reachBytes) :
  ∃ (f : Nat → Int) (a : Option Addr) (cap : Nat) (l : List V), [c0, c1, c2, c3, c4, c5, c6, c7, c8] = (#[.int .i64 (f 0), .int .i64 (f 1), .int .i64 (f 2), .int .i64 (f 3), .int .i64 (f 4), .int .i64 (f 5), .int .i64 (f 6), .int .i64 (f 7), .slice a l.length cap] : Array Value).toList ∧ Row W a cap l := by
 obtain ⟨f0, f1, hu, ⟨o0, t0⟩, ⟨o1, t1⟩⟩ := fieldsSibs
 obtain ⟨xs, m, -, hxy, hvl, hxl, hfl⟩ := DataW.trod_struct hu hf
 obtain ⟨x0, x1, rfl⟩ := list2 xs (by simpa using hxl)
 have g0 := hfl 0 f0 rfl
 have g1 := hfl 1 f1 rfl
 rw [o0, t0, cellsV] at g0
 rw [o1, t1, cellsL] at g1
 simp at g0 g1
 obtain ⟨f, e, hr⟩ := vec_cells g0
 simp only [List.cons.injEq, and_true] at e
 obtain ⟨rfl, rfl, rfl, rfl, rfl, rfl, rfl, rfl⟩ := e
 obtain ⟨a, len, cap, rfl⟩ : ∃ a len cap, c8 = .slice a len cap := by
  rcases Go.Deep.open_slice Try.underlying28 g1 with ⟨hcs, -⟩ | ⟨x, l, c, m, n, D, Pl, hcs, -⟩
  ·simp at hcs; exact ⟨_, _, _, hcs⟩
  ·simp at hcs; exact ⟨_, _, _, hcs⟩
 simp only [Prod.mk.injEq] at hxy
 obtain ⟨rfl, -⟩ := hxy
 obtain ⟨l, rfl, hrow⟩ := row_of g1 (fun n hn => hz n (by
  simp only [DataW.weights, hu]
  exact DataW.weights_mem_each (j := 1) (t := 28) (d := x1.1) (by simp [t1]) rfl _ hn))
 exact ⟨f, a, cap, l, rfl, hrow⟩
theorem vec_nrm (f : Nat → Int) (s : Value) : (#[.int .i64 (f 0), .int .i64 (f 1), .int .i64 (f 2), .int .i64 (f 3), .int .i64 (f 4), .int .i64 (f 5), .int .i64 (f 6), .int .i64 (f 7), s] : Array Value) = #[.int .i64 (nrm8 f 0), .int .i64 (nrm8 f 1), .int .i64 (nrm8 f 2), .int .i64 (nrm8 f 3), .int .i64 (nrm8 f 4), .int .i64 (nrm8 f 5), .int .i64 (nrm8 f 6), .int .i64 (nrm8 f 7), s] := rfl
theorem sv_cells {W : World} {fuel : Nat} {vs : List Value} {d : DataW HH} {pl : List MemPlace}
  (hf : DataW.trod enc Try.prog W 0 (fun _ => true) true fuel 30 vs = some (d, pl)) (hz : ∀ n ∈ d.weights Try.prog 30, n ≤ reachBytes) :
  ∃ s : SV, vs = sv9 s ∧ SvOk W s := by
 obtain ⟨f0, f1, hu, -, -⟩ := fieldsSibs
 obtain ⟨xs, m, -, -, hvl, -, -⟩ := DataW.trod_struct hu hf
 rw [cellsS] at hvl
 obtain ⟨y0, y1, y2, y3, y4, y5, y6, y7, y8, rfl⟩ := lst9 vs hvl
 obtain ⟨f, a, cap, l, e, hr⟩ := sib_cells22 hf hz
 exact ⟨⟨nrm8 f, a, cap, l⟩, e.trans (congrArg Array.toList (vec_nrm f _)), hr, nrm8_ok f⟩
set_option maxRecDepth 100000 in
theorem argSl {w : World} {fuel : Nat} {a : Option Addr} {len cap : Nat} {d : DataW HH} {pl : List MemPlace} (h : DataW.trod enc Try.prog w 0 (fun _ => true) true fuel 22 [.slice a len cap] = some (d, pl)) (hz : ∀ n ∈ d.weights Try.prog 22, n ≤ reachBytes) :
  ∃ es : List SV, es.length = len ∧ Sbs w a cap es := by
 rcases Go.Deep.open_slice Try.underlying22 h with ⟨hcs, -⟩ | ⟨x, l, c, m, n, D, Pl, hcs, -, hl, hm, hmm, hx, hel⟩
 ·simp at hcs
  obtain ⟨rfl, rfl, rfl⟩ := hcs
  exact ⟨[], rfl, Sbs.nil w none 0 (by omega)⟩
 ·simp at hcs
  obtain ⟨rfl, rfl, rfl⟩ := hcs
  simp only [if_true] at hmm
  unfold maxLen at hm
  simp only [Prod.mk.injEq] at hx
  obtain ⟨rfl, -⟩ := hx
  have each : ∀ i, i < len → ∃ e : SV, ∃ b off, x.add (i * 9) = ⟨b, off, none⟩ ∧ (∀ j u, (sv9 e)[j]? = some u → w.cell? ⟨b, off + j, none⟩ = some u) ∧ SvOk w e := by
   intro i hi
   obtain ⟨vs, hv, ht⟩ := hel i (by omega)
   rw [cellsS] at hv
   obtain ⟨-, hvl, hcell⟩ := World.cells?_some hv
   obtain ⟨e, rfl, hok⟩ := sv_cells ht (fun n hn => hz n (by
     simp only [DataW.weights, Try.underlying22, List.mem_cons, List.mem_append]
     exact .inr (.inl (weights_all (List.mem_map.2 ⟨i, List.mem_range.2 hi, rfl⟩) n hn))))
   have hc : ∀ k v, (sv9 e)[k]? = some v → w.cell? ((x.add (i * 9)).add k) = some v := fun k v hk => by
    have : k < 9 := by
     obtain ⟨h, -⟩ := List.getElem?_eq_some_iff.1 hk
     rwa [sv9_len] at h
    rw [hcell k this]
    exact hk
   generalize x.add (i * 9) = y at hc ⊢
   obtain ⟨b, off, spot⟩ := y
   have k0 := hc 0 _ rfl
   have hspot : spot = none := by simpa [Addr.add] using World.cell?_spot k0
   subst hspot
   exact ⟨e, b, off, rfl, fun j u hj => by have := hc j u hj; rwa [add_lit] at this, hok⟩
  haveI : Inhabited SV := ⟨SV.zero⟩
  obtain ⟨vs, hv⟩ := Go.Deep.choose_lt each
  refine ⟨(List.range len).map vs, by simp, ⟨by simp; omega, by omega, fun i u hi => ?_⟩⟩
  have hlt : i < len := by
   obtain ⟨h, -⟩ := List.getElem?_eq_some_iff.1 hi
   simpa using h
  simp [hlt] at hi
  subst hi
  obtain ⟨b0, off0, e0, -⟩ := hv 0 (by omega)
  obtain ⟨b, off, e, hk, hok⟩ := hv i hlt
  simp only [Nat.zero_mul] at e0
  obtain ⟨bx, ox, sx⟩ := x
  have e0' : (⟨bx, ox, sx⟩ : Addr) = ⟨b0, off0, none⟩ := by simpa [Addr.add] using e0
  simp only [Addr.mk.injEq] at e0'
  obtain ⟨rfl, rfl, rfl⟩ := e0'
  rw [add_lit] at e
  simp only [Addr.mk.injEq, and_true] at e
  obtain ⟨rfl, rfl⟩ := e
  exact ⟨bx, ox, rfl, hk, hok⟩
end
end Go.Proofs.Ytmjmgdbhmbjmaab
