/- Items of several texts. -/
import Derived.OpenShut
import Derived.ShutString
import Derived.ChangeOld
import Derived.ChangeSame
import Derived.SizedLaws
import Derived.Deep.Slices
import Derived.Lib.SlBytesConst
import Derived.Test.YtpnnpdfmoldiiaaDLiv
namespace Go.Proofs.Ytpnnpdfmoldiiaa
open Go.ChangeShapes Go.WideShapes Go.ChangeAt Go.RowKit
def IsRow (k : IntKind) (w : World) (a : Option Addr) (len cap : Nat) (zs : List Int) : Prop :=
 (a = none ∧ len = 0 ∧ cap = 0 ∧ zs = []) ∨
 ∃ x, a = some x ∧ len ≤ cap ∧ cap ≤ maxLen ∧ zs.length = cap ∧ (∀ i, i < zs.length → w.cell? (x.add i) = some (.int k (zs.getD i 0))) ∧ ∀ n ∈ zs, (Lit.int k n).wf = true
theorem IsRow.cells {k : IntKind} {w : World} {a : Option Addr} {len cap : Nat} {zs : List Int} (h : IsRow k w a len cap zs) : ∀ i, i < len → ∃ b off, a = some ⟨b, off, none⟩ ∧ b < w.heap.size ∧ w.cell? ⟨b, off + i, none⟩ = some (.int k (zs.getD i 0)) := by
 intro i hi
 rcases h with ⟨-, rfl, -⟩ | ⟨x, rfl, h1, h2, h3, h4, h5⟩
 ·omega
 ·obtain ⟨b, off, rfl, hc⟩ := ints_at h4 (by omega)
  exact ⟨b, off, rfl, cell_lt (hc i (by omega)), hc i (by omega)⟩
def bytesOf (zs : List Int) (i : Nat) : Nat := (zs.getD i 0).toNat
theorem IsRow.bytes {w : World} {a : Option Addr} {len cap : Nat} {zs : List Int} (h : IsRow .u8 w a len cap zs) : ∀ i, i < len → bytesOf zs i < 256 ∧ ∃ b off, a = some ⟨b, off, none⟩ ∧ b < w.heap.size ∧ w.cell? ⟨b, off + i, none⟩ = some (.int .u8 (bytesOf zs i : Int)) := by
 intro i hi
 obtain ⟨b, off, h1, h2, h3⟩ := h.cells i hi
 have hw : (Lit.int .u8 (zs.getD i 0)).wf = true := by
  rcases h with ⟨-, rfl, -⟩ | ⟨x, -, h1, -, h3, -, h5⟩
  ·omega
  ·have hlt : i < zs.length := by omega
   have : zs.getD i 0 = zs[i] := by simp [hlt]
   rw [this]
   exact h5 _ (List.getElem_mem hlt)
 have hb : 0 ≤ zs.getD i 0 ∧ zs.getD i 0 ≤ 255 := by
  simp only [Lit.wf, Bool.and_eq_true, decide_eq_true_eq] at hw
  exact hw
 refine ⟨by unfold bytesOf; omega, b, off, h1, h2, ?_⟩
 rw [h3]
 congr 2
 unfold bytesOf
 omega
structure ArgB (w : World) (tad : Option Addr) (len cap : Nat) (bs : List Nat) : Prop where
 len : len = bs.length
 lt : ∀ b ∈ bs, b < 256
 src : Src w tad cap bs
 bound : bs.length ≤ 140737488351232
theorem argB_of {w : World} {a : Option Addr} {len cap : Nat} {zs : List Int} (h : IsRow .u8 w a len cap zs) (hb : cap ≤ 140737488351232) : ∃ bs, ArgB w a len cap bs := by
 have hlc : len ≤ cap := by
  rcases h with ⟨-, rfl, rfl, -⟩ | ⟨x, -, h, -⟩
  ·omega
  ·exact h
 refine ⟨(List.range len).map (bytesOf zs), by simp, ?_, ⟨?_⟩, by simp; omega⟩
 ·intro b hb
  simp only [List.mem_map, List.mem_range] at hb
  obtain ⟨i, hi, rfl⟩ := hb
  exact (h.bytes i hi).1
 ·rcases h with ⟨rfl, rfl, rfl, rfl⟩ | ⟨x, rfl, h1⟩
  ·exact .inl ⟨rfl, by simp, rfl⟩
  ·refine .inr ⟨x, rfl, fun j u hj => ?_⟩
   have hj' := vl_lt hj
   simp only [List.length_map, List.length_range] at hj'
   have hr : IsRow .u8 w (some x) len cap zs := .inr ⟨x, rfl, h1⟩
   obtain ⟨-, b, off, he, -, hc⟩ := hr.bytes j hj'
   simp only [Option.some.injEq] at he
   subst he
   rw [add_lit, hc]
   rw [vl_get _ _ (by simpa using hj')] at hj
   simp [hj'] at hj
   rw [hj]
theorem cellsV : Try.prog.cellsOf 24 = 8 := by kernel_rfl
theorem cellsD : Try.prog.cellsOf 81 = 2 := by kernel_rfl
theorem cells2 : Try.prog.cellsOf 2 = 1 := by kernel_rfl
theorem cells3 : Try.prog.cellsOf 3 = 1 := by kernel_rfl
theorem list2 {α : Type} (l : List α) (h : (⟨l⟩ : Array α).size = 2) : ∃ a b, l = [a, b] := by
 match l, h with
 | [a, b], _ => exact ⟨a, b, rfl⟩
def fn8 (a b c d e f g i : Int) : Nat → Int
 | 0 => a
 | 1 => b
 | 2 => c
 | 3 => d
 | 4 => e
 | 5 => f
 | 6 => g
 | _ => i
theorem wfI {n : Int} (h : (Lit.int .i64 n).wf = true) : -9223372036854775808 ≤ n ∧ n ≤ 9223372036854775807 := by
 simp [Lit.wf] at h
 exact h
theorem list3 {α : Type} (l : List α) (h : l.length = 3) : ∃ a b c, l = [a, b, c] := by
 match l, h with
 | [a, b, c], _ => exact ⟨a, b, c, rfl⟩
theorem bytesB : Try.prog.bytesOf 5 = 1 := by kernel_rfl
section
variable {H : Type} {enc : TypeId × Value → H}
set_option maxRecDepth 100000 in
theorem vec_cells {W : World} {B fuel : Nat} {spare : Nat → Bool} {held : Bool} {c0 c1 c2 c3 c4 c5 c6 c7 : Value} {x : DataW H × List MemPlace} (hf : DataW.trod enc Try.prog W B spare held fuel 24 [c0, c1, c2, c3, c4, c5, c6, c7] = some x) :
  ∃ f : Nat → Int, [c0, c1, c2, c3, c4, c5, c6, c7] = (#[.int .i64 (f 0), .int .i64 (f 1), .int .i64 (f 2), .int .i64 (f 3), .int .i64 (f 4), .int .i64 (f 5), .int .i64 (f 6), .int .i64 (f 7)] : Array Value).toList ∧ ∀ j, j < 8 → -9223372036854775808 ≤ f j ∧ f j ≤ 9223372036854775807 := by
 obtain ⟨xs, m, -, -, -, hlen, hel⟩ := DataW.trod_array Try.underlying24 hf
 rw [cells2] at hel
 have get : ∀ (i : Nat) (c : Value), i < 8 → (([c0, c1, c2, c3, c4, c5, c6, c7] : List Value).drop (i * 1)).take 1 = [c] → ∃ n : Int, c = .int .i64 n ∧ -9223372036854775808 ≤ n ∧ n ≤ 9223372036854775807 := by
  intro i c hi hc
  have h := hel i hi
  rw [hc, List.getElem?_eq_getElem (by omega)] at h
  obtain ⟨n, e, -, wf⟩ := DataW.trod_int Try.underlying2 h
  refine ⟨n, (List.cons.inj e).1, ?_⟩
  exact wfI wf
 obtain ⟨n0, rfl, r0⟩ := get 0 c0 (by omega) rfl
 obtain ⟨n1, rfl, r1⟩ := get 1 c1 (by omega) rfl
 obtain ⟨n2, rfl, r2⟩ := get 2 c2 (by omega) rfl
 obtain ⟨n3, rfl, r3⟩ := get 3 c3 (by omega) rfl
 obtain ⟨n4, rfl, r4⟩ := get 4 c4 (by omega) rfl
 obtain ⟨n5, rfl, r5⟩ := get 5 c5 (by omega) rfl
 obtain ⟨n6, rfl, r6⟩ := get 6 c6 (by omega) rfl
 obtain ⟨n7, rfl, r7⟩ := get 7 c7 (by omega) rfl
 refine ⟨fn8 n0 n1 n2 n3 n4 n5 n6 n7, rfl, fun j hj => ?_⟩
 obtain rfl | rfl | rfl | rfl | rfl | rfl | rfl | rfl : j = 0 ∨ j = 1 ∨ j = 2 ∨ j = 3 ∨ j = 4 ∨ j = 5 ∨ j = 6 ∨ j = 7 := by omega
 all_goals assumption
theorem sized_arg {P : Program} {ts : List TypeId} {ds : List (DataW H)} (h : (DataW.weightsEach P ts ds).all (· ≤ reachBytes) = true) {j : Nat} {t : TypeId} {d : DataW H} (ht : ts[j]? = some t) (hd : ds[j]? = some d) : ∀ n ∈ d.weights P t, n ≤ reachBytes := fun n hn => by
 have := List.all_eq_true.1 h _ (DataW.weights_mem_each ht hd n hn)
 simpa using this
end
end Go.Proofs.Ytpnnpdfmoldiiaa
