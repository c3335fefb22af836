/- What is known of what came in: bytes, integers, rows of bytes. -/
import Derived.Test.YtmdhcoplhibbeaaSm8
import Derived.OpenShut
import Derived.ShutString
import Derived.ChangeOld
import Derived.ChangeSame
import Derived.SizedLaws
import Derived.Deep.Slices
namespace Go.Proofs.Ytmdhcoplhibbeaa
open Go.ChangeShapes Go.WideShapes Go.ChangeAt Go.RowKit

/-- It is nil; or it leads to a row of 'cap' cells, the numbers 'zs', each fitting its kind. -/
def IsRow (k : IntKind) (w : World) (a : Option Addr) (len cap : Nat) (zs : List Int) : Prop :=
  (a = none ∧ len = 0 ∧ cap = 0 ∧ zs = []) ∨
  ∃ x, a = some x ∧ len ≤ cap ∧ cap ≤ maxLen ∧ zs.length = cap ∧ (∀ i, i < zs.length → w.cell? (x.add i) = some (.int k (zs.getD i 0))) ∧ ∀ n ∈ zs, (Lit.int k n).wf = true

theorem IsRow.len {k : IntKind} {w : World} {a : Option Addr} {len cap : Nat} {zs : List Int} (h : IsRow k w a len cap zs) : len ≤ 9223372036854775807 := by
  rcases h with ⟨-, rfl, -⟩ | ⟨x, -, h1, h2, -⟩
  · omega
  · unfold maxLen at h2; omega

theorem IsRow.cells {k : IntKind} {w : World} {a : Option Addr} {len cap : Nat} {zs : List Int} (h : IsRow k w a len cap zs) : ∀ i, i < len → ∃ b off, a = some ⟨b, off, none⟩ ∧ b < w.heap.size ∧ w.cell? ⟨b, off + i, none⟩ = some (.int k (zs.getD i 0)) := by
  intro i hi
  rcases h with ⟨-, rfl, -⟩ | ⟨x, rfl, h1, h2, h3, h4, h5⟩
  · omega
  · obtain ⟨b, off, rfl, hc⟩ := ints_at h4 (by omega)
    exact ⟨b, off, rfl, cell_lt (hc i (by omega)), hc i (by omega)⟩

/-- The bytes of a slice of bytes. -/
def bytesOf (zs : List Int) (i : Nat) : Nat := (zs.getD i 0).toNat
theorem IsRow.bytes {w : World} {a : Option Addr} {len cap : Nat} {zs : List Int} (h : IsRow .u8 w a len cap zs) : ∀ i, i < len → bytesOf zs i < 256 ∧ ∃ b off, a = some ⟨b, off, none⟩ ∧ b < w.heap.size ∧ w.cell? ⟨b, off + i, none⟩ = some (.int .u8 (bytesOf zs i : Int)) := by
  intro i hi
  obtain ⟨b, off, h1, h2, h3⟩ := h.cells i hi
  have hw : (Lit.int .u8 (zs.getD i 0)).wf = true := by
    rcases h with ⟨-, rfl, -⟩ | ⟨x, -, h1, -, h3, -, h5⟩
    · omega
    · have hlt : i < zs.length := by omega
      have : zs.getD i 0 = zs[i] := by simp [hlt]
      rw [this]
      exact h5 _ (List.getElem_mem hlt)
  have hb : 0 ≤ zs.getD i 0 ∧ zs.getD i 0 ≤ 255 := by
    simp only [Lit.wf, Bool.and_eq_true, decide_eq_true_eq] at hw
    exact hw
  refine ⟨by unfold bytesOf; omega, b, off, h1, h2, ?_⟩
  rw [h3]
  congr 2
  unfold bytesOf
  omega

/-- A slice of bytes that came in: these bytes. -/
structure ArgB (w : World) (tad : Option Addr) (len cap : Nat) (bs : List Nat) : Prop where
  len : len = bs.length
  lt : ∀ b ∈ bs, b < 256
  src : Src w tad cap bs
  bound : bs.length ≤ 140737488351232
  cap : bs.length ≤ cap

theorem argB_of {w : World} {a : Option Addr} {len cap : Nat} {zs : List Int} (h : IsRow .u8 w a len cap zs) (hb : cap ≤ 140737488351232) : ∃ bs, ArgB w a len cap bs := by
  have hlc : len ≤ cap := by
    rcases h with ⟨-, rfl, rfl, -⟩ | ⟨x, -, h, -⟩
    · omega
    · exact h
  refine ⟨(List.range len).map (bytesOf zs), by simp, ?_, ⟨?_⟩, by simp; omega, by simpa using hlc⟩
  · intro b hb
    simp only [List.mem_map, List.mem_range] at hb
    obtain ⟨i, hi, rfl⟩ := hb
    exact (h.bytes i hi).1
  · rcases h with ⟨rfl, rfl, rfl, rfl⟩ | ⟨x, rfl, h1⟩
    · exact .inl ⟨rfl, by simp, rfl⟩
    · refine .inr ⟨x, rfl, fun j u hj => ?_⟩
      have hj' := vl_lt hj
      simp only [List.length_map, List.length_range] at hj'
      have hr : IsRow .u8 w (some x) len cap zs := .inr ⟨x, rfl, h1⟩
      obtain ⟨-, b, off, he, -, hc⟩ := hr.bytes j hj'
      simp only [Option.some.injEq] at he
      subst he
      rw [add_lit, hc]
      rw [vl_get _ _ (by simpa using hj')] at hj
      simp [hj'] at hj
      rw [hj]

theorem wfI {n : Int} (h : (Lit.int .i64 n).wf = true) : -9223372036854775808 ≤ n ∧ n ≤ 9223372036854775807 := by
  simp [Lit.wf] at h
  exact h
theorem bytesB : Try.prog.bytesOf 5 = 1 := by kernel_rfl
theorem ArgB.off {w w' : World} {tad : Option Addr} {len cap : Nat} {bs : List Nat} (h : ArgB w tad len cap bs) (o : Off (fun _ => False) w w') : ArgB w' tad len cap bs :=
  ⟨h.len, h.lt, h.src.off o (fun _ _ _ h => h), h.bound, h.cap⟩
theorem ArgB.inp {w : World} {tad : Option Addr} {len cap : Nat} {bs : List Nat} (h : ArgB w tad len cap bs) : Inp w tad cap bs := ⟨h.src, h.cap, h.lt⟩
theorem wfU8 {n : Int} (h : (Lit.int .u8 n).wf = true) : ∃ x : Nat, n = (x : Int) ∧ x < 256 := by
  have hb : 0 ≤ n ∧ n ≤ 255 := by
    simp only [Lit.wf, Bool.and_eq_true, decide_eq_true_eq] at h
    exact h
  exact ⟨n.toNat, by omega, by omega⟩

section
variable {H : Type} {enc : TypeId × Value → H}
theorem oneB : Try.prog.cellsOf 23 = 1 := by kernel_rfl

theorem elem_of {w : World} {n : Nat} {vs : List Value} {d : DataW H} {pl : List MemPlace} {a : Addr} (h : DataW.trod enc Try.prog w 0 (fun _ => true) true n 23 vs = some (d, pl))
    (hc : ∀ k v, vs[k]? = some v → w.cell? (a.add k) = some v) : ∃ b off, a = ⟨b, off, none⟩ ∧ ∃ x : B, w.cell? ⟨b, off, none⟩ = some (.slice x.ad x.data.length x.cap) ∧ Inp w x.ad x.cap x.data ∧ x.data.length ≤ 9223372036854775807 := by
  obtain ⟨tt, len, tc, zs, rfl, hr, hmax, hlc⟩ : ∃ tt len tc zs, vs = [.slice tt len tc] ∧ IsRow .u8 w tt len tc zs ∧ len ≤ maxLen ∧ len ≤ tc := by
    rcases open_ints Try.underlying23 Try.underlying5 (by kernel_rfl) h with ⟨hcs, -⟩ | ⟨x, l, c, zs, hcs, _, hl, hm, hz, hx, hcell, hwz⟩
    · exact ⟨none, 0, 0, [], hcs, .inl ⟨rfl, rfl, rfl, rfl⟩, by omega, by omega⟩
    · simp only [if_true] at hz
      exact ⟨_, _, _, zs, hcs, .inr ⟨_, rfl, hl, hm, hz, hcell, hwz⟩, by omega, hl⟩
  have k0 := hc 0 _ rfl
  obtain ⟨b, off, spot⟩ := a
  have hspot : spot = none := by simpa [Addr.add] using World.cell?_spot k0
  subst hspot
  rw [add_lit, Nat.add_zero] at k0
  refine ⟨b, off, rfl, ?_⟩
  have hb : ∀ i, i < len → bytesOf zs i < 256 := fun i hi => (hr.bytes i hi).1
  have hsrc : Src w tt tc ((List.range len).map (bytesOf zs)) := by
    refine ⟨?_⟩
    rcases hr with ⟨rfl, rfl, rfl, rfl⟩ | ⟨x, rfl, h1⟩
    · exact .inl ⟨rfl, by simp, rfl⟩
    · refine .inr ⟨x, rfl, fun j u hj => ?_⟩
      have hj' := vl_lt hj
      simp only [List.length_map, List.length_range] at hj'
      have hr : IsRow .u8 w (some x) len tc zs := .inr ⟨x, rfl, h1⟩
      obtain ⟨-, b, off, he, -, hcc⟩ := hr.bytes j hj'
      simp only [Option.some.injEq] at he
      subst he
      rw [add_lit, hcc]
      rw [vl_get _ _ (by simpa using hj')] at hj
      simp [hj'] at hj
      rw [hj]
  unfold maxLen at hmax
  refine ⟨⟨tt, tc, (List.range len).map (bytesOf zs)⟩, by simpa using k0, ⟨hsrc, by simpa using hlc, fun x hx => ?_⟩, by simp; omega⟩
  simp only [List.mem_map, List.mem_range] at hx
  obtain ⟨i, hi, rfl⟩ := hx
  exact hb i hi

theorem argL_of {w : World} {fuel : Nat} {a : Option Addr} {len cap : Nat} {d : DataW H} {pl : List MemPlace} (h : DataW.trod enc Try.prog w 0 (fun _ => true) true fuel 22 [.slice a len cap] = some (d, pl)) :
    ∃ bl, len = bl.length ∧ ArgL w a bl := by
  haveI : Inhabited B := ⟨⟨none, 0, []⟩⟩
  rcases Go.Deep.open_slice Try.underlying22 h with ⟨hcs, -⟩ | ⟨x, l, c, m, n, D, Pl, hcs, -, hl, hm, hmm, hx, hel⟩
  · simp at hcs
    obtain ⟨rfl, rfl, rfl⟩ := hcs
    exact ⟨[], rfl, ⟨by simp, fun i x hx => by simp at hx, by simp, by simp⟩⟩
  · simp at hcs
    obtain ⟨rfl, rfl, rfl⟩ := hcs
    simp only [if_true] at hmm
    unfold maxLen at hm
    have each : ∀ i, i < len → ∃ y : B, (∃ b off, x.add (i * 1) = ⟨b, off, none⟩ ∧ w.cell? ⟨b, off, none⟩ = some (.slice y.ad y.data.length y.cap) ∧ Inp w y.ad y.cap y.data ∧ y.data.length ≤ 9223372036854775807) := by
      intro i hi
      obtain ⟨vs, hv, ht⟩ := hel i (by omega)
      rw [oneB] at hv
      obtain ⟨-, hvl, hcell⟩ := World.cells?_some hv
      obtain ⟨b, off, e, y, h1, h2, h3⟩ := elem_of ht (fun k v hk => by
        have : k < 1 := by
          obtain ⟨h, -⟩ := List.getElem?_eq_some_iff.1 hk
          omega
        rw [hcell k this]
        exact hk)
      exact ⟨y, b, off, e, h1, h2, h3⟩
    obtain ⟨cs, hc⟩ := Go.Deep.choose_lt each
    have hat : ∀ i y, ((List.range len).map cs)[i]? = some y → i < len ∧ y = cs i := fun i y hy => by
      obtain ⟨h1, h2⟩ := List.getElem?_eq_some_iff.1 hy
      simp at h1 h2
      exact ⟨h1, h2.symm⟩
    refine ⟨(List.range len).map cs, by simp, ⟨by simp; omega, fun i y hy => ?_, fun y hy => ?_, fun y hy => ?_⟩⟩
    · obtain ⟨hi, rfl⟩ := hat i y hy
      obtain ⟨b0, off0, e0, -⟩ := hc 0 (by omega)
      obtain ⟨b, off, e, hk, -⟩ := hc i hi
      simp only [Nat.zero_mul] at e0
      obtain ⟨bx, ox, sx⟩ := x
      have e0' : (⟨bx, ox, sx⟩ : Addr) = ⟨b0, off0, none⟩ := by simpa [Addr.add] using e0
      simp only [Addr.mk.injEq] at e0'
      obtain ⟨rfl, rfl, rfl⟩ := e0'
      rw [add_lit, Nat.mul_one] at e
      simp only [Addr.mk.injEq, and_true] at e
      obtain ⟨rfl, rfl⟩ := e
      exact ⟨bx, ox, rfl, hk⟩
    · simp only [List.mem_map, List.mem_range] at hy
      obtain ⟨i, hi, rfl⟩ := hy
      obtain ⟨b, off, -, -, h, -⟩ := hc i hi
      exact h
    · simp only [List.mem_map, List.mem_range] at hy
      obtain ⟨i, hi, rfl⟩ := hy
      obtain ⟨b, off, -, -, -, h⟩ := hc i hi
      exact h
end
end Go.Proofs.Ytmdhcoplhibbeaa
