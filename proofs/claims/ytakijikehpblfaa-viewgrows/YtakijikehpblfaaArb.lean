/- Bytes that came in. -/
import Derived.Test.YtakijikehpblfaaArg9
import Derived.WalkKit
import Derived.ProofKit
import Derived.OpenShut
import Derived.ShutString
import Derived.ChangeOld
import Derived.Below
namespace Go.Proofs.Ytakijikehpblfaa
open Go.ChangeShapes Go.WideShapes Go.ChangeAt Go.RowKit

/-- It is nil; or it leads to a row of 'cap' cells, the numbers 'zs', each fitting its kind. -/
def IsRow (k : IntKind) (w : World) (a : Option Addr) (len cap : Nat) (zs : List Int) : Prop :=
  (a = none ∧ len = 0 ∧ cap = 0 ∧ zs = []) ∨
  ∃ x, a = some x ∧ len ≤ cap ∧ cap ≤ maxLen ∧ zs.length = cap ∧ (∀ i, i < zs.length → w.cell? (x.add i) = some (.int k (zs.getD i 0))) ∧ ∀ n ∈ zs, (Lit.int k n).wf = true

theorem IsRow.len {k : IntKind} {w : World} {a : Option Addr} {len cap : Nat} {zs : List Int} (h : IsRow k w a len cap zs) : len ≤ 9223372036854775807 := by
  rcases h with ⟨-, rfl, -⟩ | ⟨x, -, h1, h2, -⟩
  · omega
  · unfold maxLen at h2; omega

theorem IsRow.cells {k : IntKind} {w : World} {a : Option Addr} {len cap : Nat} {zs : List Int} (h : IsRow k w a len cap zs) : ∀ i, i < len → ∃ b off, a = some ⟨b, off, none⟩ ∧ b < w.heap.size ∧ w.cell? ⟨b, off + i, none⟩ = some (.int k (zs.getD i 0)) := by
  intro i hi
  rcases h with ⟨-, rfl, -⟩ | ⟨x, rfl, h1, h2, h3, h4, h5⟩
  · omega
  · obtain ⟨b, off, rfl, hc⟩ := ints_at h4 (by omega)
    exact ⟨b, off, rfl, cell_lt (hc i (by omega)), hc i (by omega)⟩

/-- The bytes of a slice of bytes. -/
def bytesOf (zs : List Int) (i : Nat) : Nat := (zs.getD i 0).toNat
theorem IsRow.bytes {w : World} {a : Option Addr} {len cap : Nat} {zs : List Int} (h : IsRow .u8 w a len cap zs) : ∀ i, i < len → bytesOf zs i < 256 ∧ ∃ b off, a = some ⟨b, off, none⟩ ∧ b < w.heap.size ∧ w.cell? ⟨b, off + i, none⟩ = some (.int .u8 (bytesOf zs i : Int)) := by
  intro i hi
  obtain ⟨b, off, h1, h2, h3⟩ := h.cells i hi
  have hw : (Lit.int .u8 (zs.getD i 0)).wf = true := by
    rcases h with ⟨-, rfl, -⟩ | ⟨x, -, h1, -, h3, -, h5⟩
    · omega
    · have hlt : i < zs.length := by omega
      have : zs.getD i 0 = zs[i] := by simp [hlt]
      rw [this]
      exact h5 _ (List.getElem_mem hlt)
  have hb : 0 ≤ zs.getD i 0 ∧ zs.getD i 0 ≤ 255 := by
    simp only [Lit.wf, Bool.and_eq_true, decide_eq_true_eq] at hw
    exact hw
  refine ⟨by unfold bytesOf; omega, b, off, h1, h2, ?_⟩
  rw [h3]
  congr 2
  unfold bytesOf
  omega

/-- A slice of bytes that came in: these bytes. -/
structure ArgB (w : World) (tad : Option Addr) (len cap : Nat) (bs : List Nat) : Prop where
  len : len = bs.length
  lt : ∀ b ∈ bs, b < 256
  src : Src w tad cap bs
  bound : bs.length ≤ 140737488351232
  cap : bs.length ≤ cap

theorem argB_of {w : World} {a : Option Addr} {len cap : Nat} {zs : List Int} (h : IsRow .u8 w a len cap zs) (hb : cap ≤ 140737488351232) : ∃ bs, ArgB w a len cap bs := by
  have hlc : len ≤ cap := by
    rcases h with ⟨-, rfl, rfl, -⟩ | ⟨x, -, h, -⟩
    · omega
    · exact h
  refine ⟨(List.range len).map (bytesOf zs), by simp, ?_, ⟨?_⟩, by simp; omega, by simpa using hlc⟩
  · intro b hb
    simp only [List.mem_map, List.mem_range] at hb
    obtain ⟨i, hi, rfl⟩ := hb
    exact (h.bytes i hi).1
  · rcases h with ⟨rfl, rfl, rfl, rfl⟩ | ⟨x, rfl, h1⟩
    · exact .inl ⟨rfl, by simp, rfl⟩
    · refine .inr ⟨x, rfl, fun j u hj => ?_⟩
      have hj' := vl_lt hj
      simp only [List.length_map, List.length_range] at hj'
      have hr : IsRow .u8 w (some x) len cap zs := .inr ⟨x, rfl, h1⟩
      obtain ⟨-, b, off, he, -, hc⟩ := hr.bytes j hj'
      simp only [Option.some.injEq] at he
      subst he
      rw [add_lit, hc]
      rw [vl_get _ _ (by simpa using hj')] at hj
      simp [hj'] at hj
      rw [hj]

theorem bytesB : Try.prog.bytesOf 5 = 1 := by kernel_rfl
theorem Src.pre {w : World} {t : Option Addr} {c : Nat} {x l : List Nat} (h : Src w t c (x ++ l)) : Src w t c x := by
  rcases h.is with ⟨h1, h2, h3⟩ | ⟨ad, h1, h2⟩
  · exact ⟨.inl ⟨h1, (List.append_eq_nil_iff.1 h2).1, h3⟩⟩
  · refine ⟨.inr ⟨ad, h1, fun j u hj => h2 j u ?_⟩⟩
    have := vl_lt hj
    rw [vl_append, List.getElem?_append_left (by rw [vl_len]; exact this)]
    exact hj
end Go.Proofs.Ytakijikehpblfaa
