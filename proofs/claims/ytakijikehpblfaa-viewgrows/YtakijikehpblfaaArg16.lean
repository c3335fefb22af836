/- What is known of what came in: members, rows of members, calls. -/
import Derived.Test.YtakijikehpblfaaArb
import Derived.Test.YtakijikehpblfaaMg16
import Derived.WalkKit
namespace Go.Proofs.Ytakijikehpblfaa
open Go.ChangeShapes Go.WideShapes Go.ChangeAt Go.RowKit

theorem cellsM : Try.prog.cellsOf 46 = 2 := by kernel_rfl
theorem cells2 : Try.prog.cellsOf 2 = 1 := by kernel_rfl
theorem cells3 : Try.prog.cellsOf 3 = 1 := by kernel_rfl
theorem list2 {α : Type} (l : List α) (h : (⟨l⟩ : Array α).size = 2) : ∃ a b, l = [a, b] := by
  match l, h with
  | [a, b], _ => exact ⟨a, b, rfl⟩
set_option maxRecDepth 100000 in
theorem argM {H : Type} {enc : TypeId × Value → H} {W : World} {base B fuel : Nat} {spare : Nat → Bool} {held : Bool} {v : Value} {x : DataW H × List MemPlace}
    (hv : Value.okWide Try.prog W .any base 46 v) (hf : DataW.trod enc Try.prog W B spare held fuel 46 v.cells.toList = some x) :
    ∃ n N : Int, v = .agg #[.int .i64 n, .int .i64 N] ∧ (-9223372036854775808 ≤ n ∧ n ≤ 9223372036854775807) ∧ (-9223372036854775808 ≤ N ∧ N ≤ 9223372036854775807) := by
  obtain ⟨cs, rfl, hs, -⟩ : ∃ cs, v = .agg cs ∧ cs.size = Try.prog.cellsOf 46 ∧ Row.okWide Try.prog W .any base 46 cs := by
    simpa [Value.okWide, Try.underlying46] using hv
  rw [cellsM] at hs
  obtain ⟨l⟩ := cs
  obtain ⟨c0, c1, rfl⟩ := list2 l hs
  obtain ⟨y0, y1, m, -, -, h0, h1⟩ := trod_struct2 Try.underlying46 hf
  simp only [cells3, cells2] at h0 h1
  obtain ⟨n, e0, -, w0⟩ := DataW.trod_int Try.underlying3 h0
  obtain ⟨N, e1, -, w1⟩ := DataW.trod_int Try.underlying2 h1
  have i0 : c0 = .int .i64 n := (List.cons.inj (show [c0] = [.int .i64 n] from e0)).1
  have i1 : c1 = .int .i64 N := (List.cons.inj (show [c1] = [.int .i64 N] from e1)).1
  subst i0 i1
  refine ⟨n, N, rfl, ?_, ?_⟩
  · exact wfI w0
  · exact wfI w1

/-- A call of a law: which, of which node, what is told. -/
structure C where
  k : Int
  node : Int
  la : Option Addr
  lc : Nat
  l : List Mb
def ccs (c : C) : List Value := [.int .i64 c.k, .int .i64 c.node, .slice c.la c.l.length c.lc]
/-- A slice of calls. -/
structure Cas (w : World) (a : Option Addr) (cap : Nat) (es : List C) : Prop where
  len : es.length ≤ 9223372036854775807
  at_ : ∀ i e, es[i]? = some e → ∃ b off, a = some ⟨b, off, none⟩ ∧ (w.cell? ⟨b, off + i * 3, none⟩ = some (.int .i64 e.k) ∧ w.cell? ⟨b, off + i * 3 + 1, none⟩ = some (.int .i64 e.node) ∧ w.cell? ⟨b, off + i * 3 + 2, none⟩ = some (.slice e.la e.l.length e.lc)) ∧ Mls w e.la e.lc e.l ∧ (∀ k, blk e.la = some k → 0 < e.l.length → k < w.heap.size)
theorem Mls.lt {w : World} {t : Option Addr} {c : Nat} {l : List Mb} (h : Mls w t c l) (hl : 0 < l.length) : ∀ k, blk t = some k → k < w.heap.size := fun k hk => by
  obtain ⟨g, o, rfl, h1, -⟩ := h.at_ 0 _ (List.getElem?_eq_getElem hl)
  have h2 : g < w.heap.size := cell_lt h1
  simp [blk] at hk
  omega
theorem Cas.offD {D : Nat → Prop} {w w' : World} {a : Option Addr} {cap : Nat} {es : List C} (h : Cas w a cap es) (o : Off D w w') (hD : ∀ k, k < w.heap.size → ¬ D k) : Cas w' a cap es :=
  ⟨h.len, fun i e hi => by
    obtain ⟨b, of, rfl, ⟨h0, h1, h2⟩, hm, hk⟩ := h.at_ i e hi
    exact ⟨b, of, rfl, ⟨by rw [← h0]; exact World.cell?_of_block (a := ⟨b, of + i * 3, none⟩) (o.block b (cell_lt h0) (hD b (cell_lt h0))), by rw [← h1]; exact World.cell?_of_block (a := ⟨b, of + i * 3 + 1, none⟩) (o.block b (cell_lt h1) (hD b (cell_lt h1))), by rw [← h2]; exact World.cell?_of_block (a := ⟨b, of + i * 3 + 2, none⟩) (o.block b (cell_lt h2) (hD b (cell_lt h2)))⟩,
      hm.offD o (fun k hk _ => hD k hk), fun k h1 h2 => Nat.lt_of_lt_of_le (hk k h1 h2) o.size⟩⟩
theorem cellsCa : Try.prog.cellsOf 31 = 3 := by kernel_rfl
theorem cellsL : Try.prog.cellsOf 29 = 1 := by kernel_rfl
theorem fieldsCall : ∃ f0 f1 f2 : Field, Try.prog.underlying 31 = some (.struct #[f0, f1, f2]) ∧ (f0.offset = 0 ∧ f0.type = 3) ∧ (f1.offset = 1 ∧ f1.type = 3) ∧ (f2.offset = 2 ∧ f2.type = 29) :=
  ⟨_, _, _, Try.underlying31, ⟨rfl, rfl⟩, ⟨rfl, rfl⟩, ⟨rfl, rfl⟩⟩
theorem list3 {α : Type} (l : List α) (h : l.length = 3) : ∃ y0 y1 y2, l = [y0, y1, y2] := by
  match l, h with
  | [y0, y1, y2], _ => exact ⟨y0, y1, y2, rfl⟩
set_option maxRecDepth 100000 in
/-- The cells of a call. -/
theorem call_cells {HH : Type} {enc : TypeId × Value → HH} {W : World} {fuel : Nat} {vs : List Value} {d : DataW HH} {pl : List MemPlace}
    (hf : DataW.trod enc Try.prog W 0 (fun _ => true) true fuel 31 vs = some (d, pl)) : ∃ c : C, vs = ccs c ∧ Mls W c.la c.lc c.l := by
  obtain ⟨f0, f1, f2, hu, ⟨o0, t0⟩, ⟨o1, t1⟩, ⟨o2, t2⟩⟩ := fieldsCall
  obtain ⟨xs, m, -, hxy, hvl, hxl, hfl⟩ := DataW.trod_struct hu hf
  rw [cellsCa] at hvl
  obtain ⟨y0, y1, y2, rfl⟩ := list3 vs hvl
  obtain ⟨x0, x1, x2, rfl⟩ := list3 xs (by simpa using hxl)
  have g0 := hfl 0 f0 rfl
  have g1 := hfl 1 f1 rfl
  have g2 := hfl 2 f2 rfl
  rw [o0, t0, cells3] at g0
  rw [o1, t1, cells3] at g1
  rw [o2, t2, cellsL] at g2
  simp at g0 g1 g2
  obtain ⟨n, hn⟩ : ∃ n : Int, y0 = .int .i64 n := by
    obtain ⟨n, hn, -⟩ := DataW.trod_int Try.underlying3 g0
    simp at hn
    exact ⟨n, hn⟩
  subst hn
  obtain ⟨nd, hnd⟩ : ∃ n : Int, y1 = .int .i64 n := by
    obtain ⟨n, hn, -⟩ := DataW.trod_int Try.underlying3 g1
    simp at hn
    exact ⟨n, hn⟩
  subst hnd
  obtain ⟨a, len, cap, rfl⟩ : ∃ a len cap, y2 = .slice a len cap := by
    rcases Go.Deep.open_slice Try.underlying29 g2 with ⟨hcs, -⟩ | ⟨x, l, c, m, n, D, Pl, hcs, -⟩
    · simp at hcs; exact ⟨_, _, _, hcs⟩
    · simp at hcs; exact ⟨_, _, _, hcs⟩
  have hc : (Value.slice a len cap).cells.toList = [.slice a len cap] := by simp [Value.cells]
  rw [← hc] at g2
  obtain ⟨ms, rfl, hm⟩ := argL g2
  exact ⟨⟨n, nd, a, cap, ms⟩, rfl, hm⟩
set_option maxRecDepth 100000 in
/-- A slice of calls that came in. -/
theorem argC {HH : Type} {enc : TypeId × Value → HH} {w : World} {fuel : Nat} {a : Option Addr} {len cap : Nat} {d : DataW HH} {pl : List MemPlace} (h : DataW.trod enc Try.prog w 0 (fun _ => true) true fuel 22 [.slice a len cap] = some (d, pl)) :
    ∃ es : List C, es.length = len ∧ Cas w a cap es := by
  rcases Go.Deep.open_slice Try.underlying22 h with ⟨hcs, -⟩ | ⟨x, l, c, m, n, D, Pl, hcs, -, hl, hm, hmm, hx, hel⟩
  · simp at hcs
    obtain ⟨rfl, rfl, rfl⟩ := hcs
    exact ⟨[], rfl, ⟨by simp, fun i e hi => by simp at hi⟩⟩
  · simp at hcs
    obtain ⟨rfl, rfl, rfl⟩ := hcs
    simp only [if_true] at hmm
    unfold maxLen at hm
    have each : ∀ i, i < len → ∃ e : C, ∃ b off, x.add (i * 3) = ⟨b, off, none⟩ ∧ (∀ j u, (ccs e)[j]? = some u → w.cell? ⟨b, off + j, none⟩ = some u) ∧ Mls w e.la e.lc e.l := by
      intro i hi
      obtain ⟨vs, hv, ht⟩ := hel i (by omega)
      rw [cellsCa] at hv
      obtain ⟨-, hvl, hcell⟩ := World.cells?_some hv
      obtain ⟨e, rfl, hm⟩ := call_cells ht
      have hc : ∀ k v, (ccs e)[k]? = some v → w.cell? ((x.add (i * 3)).add k) = some v := fun k v hk => by
        have : k < 3 := by
          obtain ⟨h, -⟩ := List.getElem?_eq_some_iff.1 hk
          exact h
        rw [hcell k this]
        exact hk
      generalize x.add (i * 3) = y at hc ⊢
      obtain ⟨b, off, spot⟩ := y
      have k0 := hc 0 _ rfl
      have hspot : spot = none := by simpa [Addr.add] using World.cell?_spot k0
      subst hspot
      exact ⟨e, b, off, rfl, fun j u hj => by have := hc j u hj; rwa [add_lit] at this, hm⟩
    haveI : Inhabited C := ⟨⟨0, 0, none, 0, []⟩⟩
    obtain ⟨vs, hv⟩ := Go.Deep.choose_lt each
    refine ⟨(List.range len).map vs, by simp, ⟨by simp; omega, fun i u hi => ?_⟩⟩
    have hlt : i < len := by
      obtain ⟨h, -⟩ := List.getElem?_eq_some_iff.1 hi
      simpa using h
    simp [hlt] at hi
    subst hi
    obtain ⟨b0, off0, e0, -⟩ := hv 0 (by omega)
    obtain ⟨b, off, e, hk, hm⟩ := hv i hlt
    simp only [Nat.zero_mul] at e0
    obtain ⟨bx, ox, sx⟩ := x
    have e0' : (⟨bx, ox, sx⟩ : Addr) = ⟨b0, off0, none⟩ := by simpa [Addr.add] using e0
    simp only [Addr.mk.injEq] at e0'
    obtain ⟨rfl, rfl, rfl⟩ := e0'
    rw [add_lit] at e
    simp only [Addr.mk.injEq, and_true] at e
    obtain ⟨rfl, rfl⟩ := e
    exact ⟨bx, ox, rfl, ⟨hk 0 _ rfl, hk 1 _ rfl, hk 2 _ rfl⟩, hm, fun k h1 h2 => hm.lt h2 k h1⟩
end Go.Proofs.Ytakijikehpblfaa
