/- A slice of calls that came in. -/
import Derived.Test.YtkjinhbhlcbfdaaFlag
import Derived.Test.YtkjinhbhlcbfdaaBulk
import Derived.Deep.Slices
import Derived.ChangeSame
namespace Go.Proofs.Ytkjinhbhlcbfdaa
open Go.ChangeShapes Go.WideShapes Go.ChangeAt Go.RowKit

/-- A call as data. -/
structure CallD where
  act : Int
  num : Nat
  int : Int
  flag : Bool
  tt : Option Addr
  tc : Nat
  text : List Nat
  most : Int

/-- It lies there. -/
structure CallOk (w : World) (b off : Nat) (c : CallD) : Prop where
  c0 : w.cell? ⟨b, off, none⟩ = some (.int .i64 c.act)
  c1 : w.cell? ⟨b, off + 1, none⟩ = some (.int .u64 (c.num : Int))
  c2 : w.cell? ⟨b, off + 2, none⟩ = some (.int .i64 c.int)
  c3 : w.cell? ⟨b, off + 3, none⟩ = some (.bool c.flag)
  c4 : w.cell? ⟨b, off + 4, none⟩ = some (.slice c.tt c.text.length c.tc)
  c5 : w.cell? ⟨b, off + 5, none⟩ = some (.int .i64 c.most)
  n : c.num < 18446744073709551616
  i0 : -9223372036854775808 ≤ c.int
  i1 : c.int ≤ 9223372036854775807
  m0 : -9223372036854775808 ≤ c.most
  m1 : c.most ≤ 9223372036854775807
  src : Src w c.tt c.tc c.text
  lt : ∀ x ∈ c.text, x < 256
  tl : c.text.length ≤ 9223372036854775807

structure ArgC (w : World) (a : Option Addr) (len : Nat) (cs : Nat → CallD) : Prop where
  bound : len ≤ 9223372036854775807
  at_ : ∀ i, i < len → ∃ b off, a = some ⟨b, off, none⟩ ∧ b < w.heap.size ∧ CallOk w b (off + i * 6) (cs i)

theorem CallOk.off {D : Nat → Prop} {w w' : World} {b off : Nat} {c : CallD} (h : CallOk w b off c) (o : Off D w w') (hD : ∀ k, k < w.heap.size → ¬ D k) : CallOk w' b off c := by
  have k : ∀ j v, w.cell? ⟨b, j, none⟩ = some v → w'.cell? ⟨b, j, none⟩ = some v := fun j v e => by
    have := cell_lt e
    rw [← e]
    exact World.cell?_of_block (a := ⟨b, j, none⟩) (o.block b this (hD b this))
  exact ⟨k _ _ h.c0, k _ _ h.c1, k _ _ h.c2, k _ _ h.c3, k _ _ h.c4, k _ _ h.c5, h.n, h.i0, h.i1, h.m0, h.m1, h.src.off o (fun c hc _ => hD c hc), h.lt, h.tl⟩

section
variable {H : Type} {enc : TypeId × Value → H}

theorem list6 {α : Type} (l : List α) (h : l.length = 6) : ∃ a b c d e f, l = [a, b, c, d, e, f] := by
  match l, h with
  | [a, b, c, d, e, f], _ => exact ⟨a, b, c, d, e, f, rfl⟩

theorem cellsC : Try.prog.cellsOf 32 = 6 := by kernel_rfl
theorem fieldsC : ∃ f0 f1 f2 f3 f4 f5 : Field, Try.prog.underlying 32 = some (.struct #[f0, f1, f2, f3, f4, f5]) ∧
    (f0.offset = 0 ∧ f0.type = 3) ∧ (f1.offset = 1 ∧ f1.type = 30) ∧ (f2.offset = 2 ∧ f2.type = 2) ∧ (f3.offset = 3 ∧ f3.type = 4) ∧ (f4.offset = 4 ∧ f4.type = 26) ∧ (f5.offset = 5 ∧ f5.type = 3) :=
  ⟨_, _, _, _, _, _, Try.underlying32, ⟨rfl, rfl⟩, ⟨rfl, rfl⟩, ⟨rfl, rfl⟩, ⟨rfl, rfl⟩, ⟨rfl, rfl⟩, ⟨rfl, rfl⟩⟩
theorem one3 : Try.prog.cellsOf 3 = 1 := by kernel_rfl
theorem oneU : Try.prog.cellsOf 30 = 1 := by kernel_rfl
theorem one2 : Try.prog.cellsOf 2 = 1 := by kernel_rfl
theorem one4 : Try.prog.cellsOf 4 = 1 := by kernel_rfl
theorem oneB : Try.prog.cellsOf 26 = 1 := by kernel_rfl

theorem isRow_src {w : World} {a : Option Addr} {len cap : Nat} {zs : List Int} (h : IsRow .u8 w a len cap zs) : ∃ bs : List Nat, bs.length = len ∧ (∀ b ∈ bs, b < 256) ∧ Src w a cap bs := by
  refine ⟨(List.range len).map (bytesOf zs), by simp, ?_, ⟨?_⟩⟩
  · intro b hb
    simp only [List.mem_map, List.mem_range] at hb
    obtain ⟨i, hi, rfl⟩ := hb
    exact (h.bytes i hi).1
  · rcases h with ⟨rfl, rfl, rfl, rfl⟩ | ⟨x, rfl, h1⟩
    · exact .inl ⟨rfl, by simp, rfl⟩
    · refine .inr ⟨x, rfl, fun j u hj => ?_⟩
      have hj' := vl_lt hj
      simp only [List.length_map, List.length_range] at hj'
      have hr : IsRow .u8 w (some x) len cap zs := .inr ⟨x, rfl, h1⟩
      obtain ⟨-, b, off, he, -, hc⟩ := hr.bytes j hj'
      simp only [Option.some.injEq] at he
      subst he
      rw [add_lit, hc]
      rw [vl_get _ _ (by simpa using hj')] at hj
      simp [hj'] at hj
      rw [hj]

/-- One element. 'B': what bounds the text, if the data's bulk does. -/
theorem call_of {w : World} {n : Nat} {vs : List Value} {d : DataW H} {pl : List MemPlace} {a : Addr} (h : DataW.trod enc Try.prog w 0 (fun _ => true) true n 32 vs = some (d, pl))
    (hc : ∀ k v, vs[k]? = some v → w.cell? (a.add k) = some v) : ∃ b off, a = ⟨b, off, none⟩ ∧ b < w.heap.size ∧ ∃ c, CallOk w b off c ∧ c.text.length ≤ Rows.uptoBulk d := by
  obtain ⟨f0, f1, f2, f3, f4, f5, hu, ⟨o0, t0⟩, ⟨o1, t1⟩, ⟨o2, t2⟩, ⟨o3, t3⟩, ⟨o4, t4⟩, ⟨o5, t5⟩⟩ := fieldsC
  obtain ⟨xs, m, -, hxy, hvl, hxl, hf⟩ := DataW.trod_struct hu h
  rw [cellsC] at hvl
  obtain ⟨v0, v1, v2, v3, v4, v5, rfl⟩ := list6 vs hvl
  obtain ⟨x0, x1, x2, x3, x4, x5, rfl⟩ := list6 xs (by simpa using hxl)
  have g0 := hf 0 f0 rfl
  have g1 := hf 1 f1 rfl
  have g2 := hf 2 f2 rfl
  have g3 := hf 3 f3 rfl
  have g4 := hf 4 f4 rfl
  have g5 := hf 5 f5 rfl
  rw [o0, t0, one3] at g0
  rw [o1, t1, oneU] at g1
  rw [o2, t2, one2] at g2
  rw [o3, t3, one4] at g3
  rw [o4, t4, oneB] at g4
  rw [o5, t5, one3] at g5
  simp at g0 g1 g2 g3 g4 g5
  obtain ⟨y0, e0, -, -⟩ := DataW.trod_int Try.underlying3 g0
  obtain ⟨y1, e1, -, q1⟩ := DataW.trod_int Try.underlying30 g1
  obtain ⟨y2, e2, -, q2⟩ := DataW.trod_int Try.underlying2 g2
  obtain ⟨y3, e3, -⟩ := DataW.trod_bool Try.underlying4 g3
  obtain ⟨y5, e5, -, q5⟩ := DataW.trod_int Try.underlying3 g5
  simp at e0 e1 e2 e3 e5
  subst e0 e1 e2 e3 e5
  obtain ⟨y1, rfl, r1⟩ := u64_nat q1
  have q2 := i64_int q2
  have q5 := i64_int q5
  have k0 := hc 0 _ rfl
  obtain ⟨b, off, spot⟩ := a
  have hspot : spot = none := by simpa [Addr.add] using World.cell?_spot k0
  subst hspot
  have k1 := hc 1 _ rfl
  have k2 := hc 2 _ rfl
  have k3 := hc 3 _ rfl
  have k4 := hc 4 _ rfl
  have k5 := hc 5 _ rfl
  rw [add_lit] at k0 k1 k2 k3 k4 k5
  refine ⟨b, off, rfl, cell_lt k0, ?_⟩
  obtain ⟨tt, len, tc, zs, rfl, hr, hmax, hbulk⟩ : ∃ tt len tc zs, v4 = .slice tt len tc ∧ IsRow .u8 w tt len tc zs ∧ len ≤ maxLen ∧ len ≤ Rows.uptoBulk x4.1 := by
    rcases open_ints Try.underlying26 Try.underlying5 (by kernel_rfl) g4 with ⟨hcs, -⟩ | ⟨x, l, c, zs, hcs, _, hl, hm, hz, hx, hcell, hwz⟩
    · simp at hcs
      exact ⟨none, 0, 0, [], hcs, .inl ⟨rfl, rfl, rfl, rfl⟩, by omega, by omega⟩
    · simp at hcs
      simp only [if_true] at hz
      refine ⟨_, _, _, zs, hcs, .inr ⟨_, rfl, hl, hm, hz, hcell, hwz⟩, by omega, ?_⟩
      rw [hx]
      have h1 := bulk_slice (lits .u8 (zs.take l) : List (DataW H)) (lits .u8 (zs.drop l))
      simp only [lits, List.length_map, List.length_take] at h1
      simp only [lits]
      omega
  obtain ⟨bs, rfl, hbs, hsrc⟩ := isRow_src hr
  unfold maxLen at hmax
  refine ⟨⟨y0, y1, y2, y3, tt, tc, bs, y5⟩, ⟨k0, k1, k2, k3, k4, k5, r1, q2.1, q2.2, q5.1, q5.2, hsrc, hbs, by simp only; omega⟩, ?_⟩
  simp only [Prod.mk.injEq] at hxy
  rw [hxy.1]
  have h4 := bulk_part (d := x4.1) (l := [x0, x1, x2, x3, x4, x5].map (·.1)) (by simp)
  have h5 := bulk_agg (([x0, x1, x2, x3, x4, x5] : List (DataW H × List MemPlace)).map (·.1))
  simp only
  omega

theorem argC_of {w : World} {fuel : Nat} {a : Option Addr} {len cap : Nat} {d : DataW H} {pl : List MemPlace} (h : DataW.trod enc Try.prog w 0 (fun _ => true) true fuel 22 [.slice a len cap] = some (d, pl)) :
    ∃ cs, ArgC w a len cs ∧ ∀ i, i < len → (cs i).text.length ≤ Rows.uptoBulk d := by
  haveI : Inhabited CallD := ⟨⟨0, 0, 0, false, none, 0, [], 0⟩⟩
  rcases Go.Deep.open_slice Try.underlying22 h with ⟨hcs, -⟩ | ⟨x, l, c, m, n, D, Pl, hcs, -, hl, hm, hmm, hx, hel⟩
  · simp at hcs
    obtain ⟨rfl, rfl, rfl⟩ := hcs
    exact ⟨default, ⟨by omega, fun i hi => by omega⟩, fun i hi => by omega⟩
  · simp at hcs
    obtain ⟨rfl, rfl, rfl⟩ := hcs
    simp only [if_true] at hmm
    unfold maxLen at hm
    have each : ∀ i, i < len → ∃ c : CallD, (∃ b off, x.add (i * 6) = ⟨b, off, none⟩ ∧ b < w.heap.size ∧ CallOk w b off c) ∧ c.text.length ≤ Rows.uptoBulk d := by
      intro i hi
      obtain ⟨vs, hv, ht⟩ := hel i (by omega)
      rw [cellsC] at hv
      obtain ⟨-, hvl, hcell⟩ := World.cells?_some hv
      obtain ⟨b, off, e, hb, c, hc, hbulk⟩ := call_of ht (fun k v hk => by
        have : k < 6 := by
          obtain ⟨h, -⟩ := List.getElem?_eq_some_iff.1 hk
          omega
        rw [hcell k this]
        exact hk)
      refine ⟨c, ⟨b, off, e, hb, hc⟩, Nat.le_trans hbulk ?_⟩
      simp only [Prod.mk.injEq] at hx
      rw [hx.1]
      have h1 := bulk_part (d := D i) (l := (List.range len).map D) (List.mem_map.2 ⟨i, List.mem_range.2 hi, rfl⟩)
      have h2 := bulk_elems ((List.range len).map D) ((List.range (m - len)).map fun j => D (len + j))
      omega
    obtain ⟨cs, hc⟩ := Go.Deep.choose_lt each
    refine ⟨cs, ⟨by omega, fun i hi => ?_⟩, fun i hi => (hc i hi).2⟩
    obtain ⟨⟨b0, off0, e0, -⟩, -⟩ := hc 0 (by omega)
    obtain ⟨⟨b, off, e, hb, hk⟩, -⟩ := hc i hi
    simp only [Nat.zero_mul] at e0
    obtain ⟨bx, ox, sx⟩ := x
    have e0' : (⟨bx, ox, sx⟩ : Addr) = ⟨b0, off0, none⟩ := by simpa [Addr.add] using e0
    simp only [Addr.mk.injEq] at e0'
    obtain ⟨rfl, rfl, rfl⟩ := e0'
    rw [add_lit] at e
    simp only [Addr.mk.injEq, and_true] at e
    obtain ⟨rfl, rfl⟩ := e
    exact ⟨bx, ox, rfl, hb, hk⟩
end
end Go.Proofs.Ytkjinhbhlcbfdaa
