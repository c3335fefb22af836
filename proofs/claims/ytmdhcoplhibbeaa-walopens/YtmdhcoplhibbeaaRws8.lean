/- Small rows of bytes, their records one behind the other. -/
import Derived.Test.YtmdhcoplhibbeaaArg8
namespace Go.Proofs.Ytmdhcoplhibbeaa
open Go.RowKit

/-- Small rows in a row of the call's own. -/
structure Rws (w : World) (t : Option Addr) (c : Nat) (sl : List B) : Prop where
  own : OwnG 23 1 bcs w t c sl
  inp : ∀ x ∈ sl, Inp w x.ad x.cap x.data
  len : sl.length ≤ 30
  five : ∀ x ∈ sl, x.data.length ≤ 400
theorem Rws.off {w w' : World} {t : Option Addr} {c : Nat} {sl : List B} (h : Rws w t c sl) (o : Off (fun _ => False) w w') : Rws w' t c sl :=
  ⟨h.own.off o (fun _ _ _ h => h), fun x hx => (h.inp x hx).free o, h.len, h.five⟩
theorem Rws.rec_ {w : World} {t : Option Addr} {c : Nat} {sl : List B} (h : Rws w t c sl) : ∀ r ∈ sl.map B.data, Rec r := by
  intro r hr
  simp only [List.mem_map] at hr
  obtain ⟨x, hx, rfl⟩ := hr
  exact ⟨by have := h.five x hx; omega, (h.inp x hx).lt⟩
theorem Rws.at_ {w : World} {t : Option Addr} {c : Nat} {sl : List B} (h : Rws w t c sl) {i : Nat} (hi : i < sl.length) :
    ∃ x g, sl[i]? = some x ∧ x ∈ sl ∧ t = some ⟨g, 0, none⟩ ∧ w.cell? ⟨g, i, none⟩ = some (.slice x.ad x.data.length x.cap) := by
  obtain ⟨x, hx⟩ : ∃ x, sl[i]? = some x := ⟨_, List.getElem?_eq_getElem hi⟩
  obtain ⟨g, e, k⟩ := h.own.at_ bcs_len hx
  have k0 := k 0 _ rfl
  simp only [Nat.mul_one, Nat.add_zero] at k0
  exact ⟨x, g, hx, List.mem_of_getElem? hx, e, k0⟩
theorem smallB_any {w : World} {a : Option Addr} (cap : Nat) {bl : List B} (h : ArgL w a bl) :
    Calls Try.prog 9 #[.slice a bl.length cap] w fun e w' => ∃ (t : Option Addr) (c : Nat) (sl : List B), e = .returned (.slice t sl.length c) ∧ Rws w' t c sl ∧ (∀ x ∈ sl, x ∈ bl) ∧ (∀ k, blk t = some k → w.heap.size ≤ k) ∧ sl.map B.data = smL (bl.map B.data) ∧ Off (fun _ => False) w w' := by
  refine (small_any cap h).mono ?_
  rintro e w' ⟨t, c, sl, rfl, own, fr, l20, hin, hd, o⟩
  exact ⟨t, c, sl, rfl, ⟨own, fun x hx => (hin x hx).1, l20, fun x hx => (hin x hx).2.1⟩, fun x hx => (hin x hx).2.2, fr, hd, o⟩
theorem smallR_any {w : World} {a : Option Addr} (cap : Nat) {bl : List B} (h : ArgL w a bl) :
    Calls Try.prog 9 #[.slice a bl.length cap] w fun e w' => ∃ (t : Option Addr) (c : Nat) (sl : List B), e = .returned (.slice t sl.length c) ∧ Rws w' t c sl ∧ (∀ k, blk t = some k → w.heap.size ≤ k) ∧ sl.map B.data = smL (bl.map B.data) ∧ Off (fun _ => False) w w' := by
  refine (smallB_any cap h).mono ?_
  rintro e w' ⟨t, c, sl, rfl, rw, -, fr, hd, o⟩
  exact ⟨t, c, sl, rfl, rw, fr, hd, o⟩

/-- The records of the first i of them. -/
def fr (sl : List B) (i : Nat) : List Nat := frs ((sl.map B.data).take i)
theorem fr_zero (sl : List B) : fr sl 0 = [] := rfl
theorem fr_succ {sl : List B} {i : Nat} {x : B} (h : sl[i]? = some x) : fr sl (i + 1) = fr sl i ++ frm x.data := by
  have e : (sl.map B.data)[i]? = some x.data := by rw [List.getElem?_map, h]; rfl
  rw [fr, fr, List.take_add_one, e]
  exact frs_snoc _ _
theorem fr_all (sl : List B) : fr sl sl.length = frs (sl.map B.data) := by rw [fr, List.take_of_length_le (by simp)]
theorem Rws.fr_lt {w : World} {t : Option Addr} {c : Nat} {sl : List B} (h : Rws w t c sl) (i : Nat) : ∀ x ∈ fr sl i, x < 256 :=
  frs_lt (fun r hr => h.rec_ r (List.mem_of_mem_take hr))
theorem Rws.fr_len {w : World} {t : Option Addr} {c : Nat} {sl : List B} (h : Rws w t c sl) (i : Nat) : (fr sl i).length ≤ 12240 := by
  have h1 : (fr sl i).length ≤ ((sl.map B.data).take i).length * (400 + 8) := frs_len (fun r hr => by
    have := List.mem_of_mem_take hr
    simp only [List.mem_map] at this
    obtain ⟨x, hx, rfl⟩ := this
    exact h.five x hx)
  have h2 : ((sl.map B.data).take i).length ≤ 30 := by
    rw [List.length_take, List.length_map]
    have := h.len
    omega
  omega
/-- The rows' first k. -/
theorem Rws.take {w : World} {t : Option Addr} {c : Nat} {sl : List B} (h : Rws w t c sl) {k : Nat} (hk : k ≤ sl.length) :
    (∀ W, (Instr.slice 22 (.slice t sl.length c) none (some (.int .i64 (k : Int))) none).run Try.prog W = .ok (.slice t (sl.take k).length c) W) ∧ Rws w t c (sl.take k) := by
  have hl : (sl.take k).length = k := by rw [List.length_take]; omega
  refine ⟨fun W => ?_, ⟨h.own.take bcs_len hk, fun x hx => h.inp x (List.mem_of_mem_take hx), by have := h.len; omega, fun x hx => h.five x (List.mem_of_mem_take hx)⟩⟩
  have hcap : sl.length ≤ c := by
    rcases h.own.row.2 with ⟨hv, h0⟩ | ⟨g, c', cur, hv, -, -, hc, -⟩
    · omega
    · simp only [Value.slice.injEq] at hv
      obtain ⟨-, -, rfl⟩ := hv
      exact hc
  rw [run_slice_h (P := Try.prog) (t := 22) (ht := by kernel_rfl) (h0 := by omega) (h2 := by omega)]
  have hs : (sizeOf (Try.prog.elem 22)).run Try.prog W = .ok 1 W := by
    have : Try.prog.elem 22 = 23 := by kernel_rfl
    rw [this]
    obtain ⟨i0, hi, hz0, hz1, hz2⟩ := info_parts Try.infoBs
    simp [sizeOf, typeInfo, hi, hz1]
  rw [hs, hl]
  rcases h.own.row.2 with ⟨hv, h0⟩ | ⟨g, c', cur, hv, -⟩
  · simp only [Value.slice.injEq] at hv
    obtain ⟨rfl, -, rfl⟩ := hv
    obtain rfl : k = 0 := by omega
    simp [Result.andThen, sliced]
  · simp only [Value.slice.injEq] at hv
    obtain ⟨rfl, -, rfl⟩ := hv
    simp [Result.andThen, sliced, add_zero]
end Go.Proofs.Ytmdhcoplhibbeaa
