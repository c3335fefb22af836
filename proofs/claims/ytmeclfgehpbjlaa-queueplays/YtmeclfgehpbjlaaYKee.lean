/- Items of several texts. -/
import Derived.Deep.Cut
import Derived.Deep.RegionHeld
import Derived.Laws.OwnMore
import Derived.Lib.SlBytesConst
import Derived.Test.YtmeclfgehpbjlaaYOwn
import Derived.Test.YtmeclfgehpbjlaaYLiv
import Derived.Test.YtmeclfgehpbjlaaYTb
namespace Go.Proofs.Ytmeclfgehpbjlaa
open Go.RowKit
structure Far (N : Nat) (a : Option Addr) (l : List V) : Prop where
 row : ∀ x, blk a = some x → N ≤ x
 val : ∀ v ∈ l, ∀ x, blk v.ad = some x → N ≤ x
theorem Row.offF {D : Nat → Prop} {w w' : World} {N : Nat} {a : Option Addr} {cap : Nat} {l : List V} (h : Row w a cap l) (f : Far N a l) (o : Off D w w') (hD : ∀ x, N ≤ x → ¬ D x) : Row w' a cap l :=
 h.offD o (fun x _ hx => hD x (f.row x hx)) (fun v hv x _ hx => hD x (f.val v hv x hx))
theorem cell_other {w : World} {a b : Addr} {v : Value} (h : a ≠ b) : (w.setCell a v).cell? b = w.cell? b := World.cell?_setCell_other w a b v h
theorem cell_same {w : World} {a : Addr} {u v : Value} (h : w.cell? a = some u) : (w.setCell a v).cell? a = some v := World.cell?_setCell_same w a v h
theorem exec_idx10 {P : Program} {ρ : Operand → Value} {o : Oper} {t : TypeId} {x ix : Operand} {v : Value} {w : World} (ho : o.op = .indexAddr t x ix) (h : (Instr.indexAt t (ρ x) (ρ ix)).run P w = .ok v w) : Sem.run P (execOp ρ o) w = .ok (.value v) w := by
 have e : execOp ρ o = (do pure (.value (← Instr.indexAt t (ρ x) (ρ ix)))) := by unfold execOp; rw [ho]
 rw [e, Sem.run_bind, h]
 rfl
theorem idx_row {m n : Nat} (h : n < m) (c g : Nat) (W : World) : (Instr.indexAt 92 (.slice (some ⟨g, 0, none⟩) m c) (.int .i64 (n : Int))).run Try.prog W = .ok (.pointer (some ⟨g, n * 4, none⟩)) W := by
 go_simp
theorem Row.at0 {w : World} {g : Nat} {cap : Nat} {l : List V} (h : Row w (some ⟨g, 0, none⟩) cap l) {n : Nat} {v : V} (hv : l[n]? = some v) : At4 w g (n * 4) v := by
 obtain ⟨b, off, e, h1, -⟩ := h.at_ n v hv
 simp only [Option.some.injEq, Addr.mk.injEq, and_true] at e
 obtain ⟨rfl, rfl⟩ := e
 rw [Nat.zero_add] at h1
 exact h1
theorem Src.setN {w : World} {tad : Option Addr} {cap : Nat} {bs : List Nat} (h : Src w tad cap bs) {p : Addr} (hp : ∀ k n, w.cell? p ≠ some (.int k n)) (u : Value) : Src (w.setCell p u) tad cap bs := by
 rcases h.is with h0 | ⟨ad, rfl, h0⟩
 ·exact ⟨.inl h0⟩
 ·refine ⟨.inr ⟨ad, rfl, fun j x hj => ?_⟩⟩
  have h1 := h0 j x hj
  obtain ⟨y, hy⟩ : ∃ y, x = .int .u8 y := by
   simp only [vl, List.getElem?_map, Option.map_eq_some_iff] at hj
   obtain ⟨y, -, hy⟩ := hj
   exact ⟨_, hy.symm⟩
  rw [cell_other (fun e => hp _ _ (by rw [e, h1, hy]))]
  exact h1
theorem Row.setData {w : World} {g : Nat} {cap : Nat} {l : List V} (h : Row w (some ⟨g, 0, none⟩) cap l) {n : Nat} {v : V} (hv : l[n]? = some v) {t : Option Addr} {c1 : Nat} (hs : Src w t c1 v.data) :
  Row (w.setCell ⟨g, n * 4 + 2, none⟩ (.slice t v.data.length c1)) (some ⟨g, 0, none⟩) cap (l.set n (⟨v.node, v.num, t, c1, v.data, v.dead⟩ : V)) := by
 have hc := (h.at0 hv).c2
 have hni : ∀ k m, w.cell? ⟨g, n * 4 + 2, none⟩ ≠ some (.int k m) := fun k m e => by rw [hc] at e; cases e
 refine ⟨by rw [List.length_set]; exact h.len, h.bound, fun i u hi => ⟨g, 0, rfl, ?_⟩⟩
 rw [Nat.zero_add]
 by_cases e : n = i
 ·subst e
  have hlt : n < l.length := by
   obtain ⟨h, -⟩ := List.getElem?_eq_some_iff.1 hv
   exact h
  rw [List.getElem?_set_self hlt] at hi
  simp only [Option.some.injEq] at hi
  subst hi
  have k := h.at0 hv
  have o := (h.ok v (List.mem_of_getElem? hv))
  refine ⟨⟨?_, ?_, cell_same hc, ?_⟩, ⟨hs.setN hni _, o.lt, o.n0, o.n1, o.m0, o.m1, o.len⟩⟩
  ·rw [cell_other (by simp)]; exact k.c0
  ·rw [cell_other (by simp)]; exact k.c1
  ·rw [cell_other (by simp)]; exact k.c3
 ·rw [List.getElem?_set_ne e] at hi
  have k := h.at0 hi
  have o := (h.ok u (List.mem_of_getElem? hi))
  refine ⟨⟨?_, ?_, ?_, ?_⟩, ⟨o.src.setN hni _, o.lt, o.n0, o.n1, o.m0, o.m1, o.len⟩⟩
  ·rw [cell_other (by simp <;> omega)]; exact k.c0
  ·rw [cell_other (by simp <;> omega)]; exact k.c1
  ·rw [cell_other (by simp <;> omega)]; exact k.c2
  ·rw [cell_other (by simp <;> omega)]; exact k.c3
theorem cont_set {l : List V} {n : Nat} {v : V} (hv : l[n]? = some v) (t : Option Addr) (c1 : Nat) : cont (l.set n (⟨v.node, v.num, t, c1, v.data, v.dead⟩ : V)) = cont l := by
 unfold cont
 rw [List.map_set]
 have : ((⟨v.node, v.num, t, c1, v.data, v.dead⟩ : V)).abs = v.abs := rfl
 rw [this]
 refine List.ext_getElem? (fun i => ?_)
 by_cases e : n = i
 ·subst e
  have hlt : n < l.length := by
   obtain ⟨h, -⟩ := List.getElem?_eq_some_iff.1 hv
   exact h
  rw [List.getElem?_set_self (by simpa using hlt), List.getElem?_map, hv]
  rfl
 ·rw [List.getElem?_set_ne e]
theorem set_far {k : List V} {n : Nat} {v : V} {N : Nat} {t : Option Addr} {c1 : Nat} (hv : k[n]? = some v) (h : ∀ i v, i < n → k[i]? = some v → ∀ x, blk v.ad = some x → N ≤ x) (ht : ∀ x, blk t = some x → N ≤ x) :
  ∀ i u, i < n + 1 → (k.set n (⟨v.node, v.num, t, c1, v.data, v.dead⟩ : V))[i]? = some u → ∀ x, blk u.ad = some x → N ≤ x := by
 intro i u hi hu x hx
 by_cases e : n = i
 ·subst e
  have hlt : n < k.length := by
   obtain ⟨h, -⟩ := List.getElem?_eq_some_iff.1 hv
   exact h
  rw [List.getElem?_set_self hlt] at hu
  simp only [Option.some.injEq] at hu
  subst hu
  exact ht x hx
 ·rw [List.getElem?_set_ne e] at hu
  exact h i u (by omega) hu x hx
end Go.Proofs.Ytmeclfgehpbjlaa
