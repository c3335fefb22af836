/- What the arguments of the laws are: a slice of strings. -/
import Derived.Test.YtpiknkgnmjcjjaaArg9
namespace Go.Proofs.Ytpiknkgnmjcjjaa
open Go.ChangeShapes Go.WideShapes Go.ChangeAt Go.RowKit

theorem cells9 : Try.prog.cellsOf 9 = 1 := by kernel_rfl
section
variable {H : Type} {enc : TypeId × Value → H}
theorem weights_all {P : Program} {e : TypeId} : ∀ {ds : List (DataW H)} {d : DataW H}, d ∈ ds → ∀ n ∈ d.weights P e, n ∈ DataW.weightsAll P e ds
  | d0 :: ds, d, hd, n, hn => by
    simp only [DataW.weightsAll, List.mem_append]
    rcases List.mem_cons.1 hd with rfl | h
    · exact .inl hn
    · exact .inr (weights_all h n hn)
theorem sized_arg {P : Program} {ts : List TypeId} {ds : List (DataW H)} (h : (DataW.weightsEach P ts ds).all (· ≤ reachBytes) = true) {j : Nat} {t : TypeId} {d : DataW H} (ht : ts[j]? = some t) (hd : ds[j]? = some d) : ∀ n ∈ d.weights P t, n ≤ reachBytes := fun n hn => by
  have := List.all_eq_true.1 h _ (DataW.weights_mem_each ht hd n hn)
  simpa using this
/-- A slice of strings. -/
structure Strs (w : World) (a : Option Addr) (cap : Nat) (ss : List ByteArray) : Prop where
  len : ss.length ≤ cap
  bound : cap ≤ 9223372036854775807
  at_ : ∀ i s, ss[i]? = some s → ∃ b off, a = some ⟨b, off, none⟩ ∧ w.cell? ⟨b, off + i, none⟩ = some (.string s) ∧ s.size ≤ reachBytes
theorem Strs.offD {D : Nat → Prop} {w w' : World} {a : Option Addr} {cap : Nat} {ss : List ByteArray} (h : Strs w a cap ss) (o : Off D w w') (hD : ∀ c, c < w.heap.size → ¬ D c) : Strs w' a cap ss :=
  ⟨h.len, h.bound, fun i s hi => by
    obtain ⟨b, off, ea, h1, h2⟩ := h.at_ i s hi
    refine ⟨b, off, ea, ?_, h2⟩
    rw [← h1]
    exact World.cell?_of_block (a := ⟨b, off + i, none⟩) (o.block b (cell_lt h1) (hD b (cell_lt h1)))⟩
theorem argT {w : World} {fuel : Nat} {a : Option Addr} {len cap : Nat} {d : DataW H} {pl : List MemPlace} (h : DataW.trod enc Try.prog w 0 (fun _ => true) true fuel 35 [.slice a len cap] = some (d, pl)) (hz : ∀ n ∈ d.weights Try.prog 35, n ≤ reachBytes) :
    ∃ ss : List ByteArray, ss.length = len ∧ Strs w a cap ss := by
  rcases Go.Deep.open_slice Try.underlying35 h with ⟨hcs, -⟩ | ⟨x, l, c, m, n, D, Pl, hcs, -, hl, hm, hmm, hx, hel⟩
  · simp at hcs
    obtain ⟨rfl, rfl, rfl⟩ := hcs
    exact ⟨[], rfl, ⟨by simp, by omega, fun i s hi => by simp at hi⟩⟩
  · simp at hcs
    obtain ⟨rfl, rfl, rfl⟩ := hcs
    simp only [if_true] at hmm
    unfold maxLen at hm
    simp only [Prod.mk.injEq] at hx
    obtain ⟨rfl, -⟩ := hx
    have each : ∀ i, i < len → ∃ s : ByteArray, ∃ b off, x.add i = ⟨b, off, none⟩ ∧ w.cell? ⟨b, off, none⟩ = some (.string s) ∧ s.size ≤ reachBytes := by
      intro i hi
      obtain ⟨vs, hv, ht⟩ := hel i (by omega)
      rw [cells9, Nat.mul_one] at hv
      obtain ⟨-, hvl, hcell⟩ := World.cells?_some hv
      have hzi : ∀ n ∈ (D i).weights Try.prog 9, n ≤ reachBytes := fun n hn => hz n (by
          simp only [DataW.weights, Try.underlying35, List.mem_cons, List.mem_append]
          exact .inr (.inl (weights_all (List.mem_map.2 ⟨i, List.mem_range.2 hi, rfl⟩) n hn)))
      obtain ⟨s, rfl, hdd, -⟩ := DataW.trod_string Try.underlying9 ht
      have hsz : s.size ≤ reachBytes := by
        simp only [Prod.mk.injEq] at hdd
        rw [hdd.1] at hzi
        have := hzi s.data.toList.length (by simp [DataW.weights])
        rw [Array.length_toList] at this
        exact this
      have k0 := hcell 0 (by omega)
      simp only [List.getElem?_cons_zero] at k0
      generalize x.add i = y at k0 ⊢
      obtain ⟨b, off, spot⟩ := y
      have hspot : spot = none := by simpa [Addr.add] using World.cell?_spot k0
      subst hspot
      exact ⟨s, b, off, rfl, by rwa [add_lit] at k0, hsz⟩
    haveI : Inhabited ByteArray := ⟨⟨#[]⟩⟩
    obtain ⟨vs, hv⟩ := Go.Deep.choose_lt each
    refine ⟨(List.range len).map vs, by simp, ⟨by simp; omega, by omega, fun i u hi => ?_⟩⟩
    have hlt : i < len := by
      obtain ⟨h, -⟩ := List.getElem?_eq_some_iff.1 hi
      simpa using h
    simp [hlt] at hi
    subst hi
    obtain ⟨b0, off0, e0, -⟩ := hv 0 (by omega)
    obtain ⟨b, off, e, hk, hok⟩ := hv i hlt
    obtain ⟨bx, ox, sx⟩ := x
    have e0' : (⟨bx, ox, sx⟩ : Addr) = ⟨b0, off0, none⟩ := by simpa [Addr.add] using e0
    simp only [Addr.mk.injEq] at e0'
    obtain ⟨rfl, rfl, rfl⟩ := e0'
    rw [add_lit] at e
    simp only [Addr.mk.injEq, and_true] at e
    obtain ⟨rfl, rfl⟩ := e
    exact ⟨bx, ox, rfl, hk, hok⟩
end
end Go.Proofs.Ytpiknkgnmjcjjaa
