/- Four readers side by side; a rule for a region in which four blocks are made in whatever order. -/
import Derived.Test.YtkjinhbhlcbfdaaOnce1
import Derived.Test.YtkjinhbhlcbfdaaOnceP
import Derived.Test.YtkjinhbhlcbfdaaReg
import Derived.Deep.Cut
namespace Go.Proofs.Ytkjinhbhlcbfdaa
open Go.RowKit

/-- What stands behind a region may be told of every state by itself: once, and used from all roads that lead to it. -/
theorem dp_intro {P : Program} {md : Region.Mode} {ops : Array Oper} {Q : Exit → Act → World → Prop} {S : World → Prop} {fuel : Nat} {listed : Array Bool} {a : Act} {w : World}
    (R : ∀ F : Nat → Array Bool → Act → World → Prop, Hid (∀ f l a w, wpAnyH P md ops Q S f l a w → F f l a w) → Hid (∀ f l a w, F f l a w → wpAnyH P md ops Q S f l a w) → F fuel listed a w) : wpAnyH P md ops Q S fuel listed a w :=
  R (fun f l a w => wpAnyH P md ops Q S f l a w) (fun _ _ _ _ h => h) (fun _ _ _ _ h => h)

theorem cel_ne {a b : Nat} {t t' : TypeId} {cs cs' : Array Value} {w : World} (h : Cel a t cs w) (k : Cel b t' cs' w) (ht : t ≠ t') : a ≠ b := by
  intro e
  subst e
  have := h.is.symm.trans k.is
  simp only [Option.some.injEq, Obj.cells.injEq] at this
  exact ht this.2.1
theorem own_ne {w : World} {t : Option Addr} {c : Nat} {bs : List Nat} (h : OwnR w t c bs) {a : Nat} {ty : TypeId} {cs : Array Value} (k : Cel a ty cs w) (ht : ty ≠ 5) : blk t ≠ some a := by
  intro e
  rcases h.row.2 with ⟨hv, -⟩ | ⟨g, cap, cur, hv, -, hh, -⟩
  · simp only [Value.slice.injEq] at hv
    rw [hv.1] at e
    simp [blk] at e
  · simp only [Value.slice.injEq] at hv
    rw [hv.1] at e
    simp [blk] at e
    subst e
    have := k.is.symm.trans hh
    simp only [Option.some.injEq, Obj.cells.injEq] at this
    exact ht this.2.1

def B4 (b0 b1 b2 b3 : Nat) (c : Nat) : Prop := c = b0 ∨ c = b1 ∨ c = b2 ∨ c = b3
structure Apart (V : World) (D0 D1 D2 D3 : Nat → Prop) (b0 b1 b2 b3 : Nat) : Prop where
  ne : b0 ≠ b1 ∧ b0 ≠ b2 ∧ b0 ≠ b3 ∧ b1 ≠ b2 ∧ b1 ≠ b3 ∧ b2 ≠ b3
  n0 : ∀ c, D0 c → ¬ (c = b1 ∨ c = b2 ∨ c = b3)
  n1 : ∀ c, D1 c → ¬ (c = b0 ∨ c = b2 ∨ c = b3)
  n2 : ∀ c, D2 c → ¬ (c = b0 ∨ c = b1 ∨ c = b3)
  n3 : ∀ c, D3 c → ¬ (c = b0 ∨ c = b1 ∨ c = b2)
  lt : b0 < V.heap.size ∧ b1 < V.heap.size ∧ b2 < V.heap.size ∧ b3 < V.heap.size
/-- Four readers, each where it is, since the world V. -/
structure Inv (V v : World) (D0 D1 D2 D3 : Nat → Prop) (b0 b1 b2 b3 : Nat) (s0 s1 s2 s3 : RS) : Prop where
  ap : Apart V D0 D1 D2 D3 b0 b1 b2 b3
  r0 : Rdr 65 D0 b0 s0 v
  r1 : Rdr 65 D1 b1 s1 v
  r2 : Rdr 65 D2 b2 s2 v
  r3 : Rdr 65 D3 b3 s3 v
  off : Off (B4 b0 b1 b2 b3) V v
section
variable {V v v' : World} {D0 D1 D2 D3 : Nat → Prop} {b0 b1 b2 b3 : Nat} {s0 s1 s2 s3 s' : RS}
theorem Inv.free (h : Inv V v D0 D1 D2 D3 b0 b1 b2 b3 s0 s1 s2 s3) (o : Off (fun _ => False) v v') : Inv V v' D0 D1 D2 D3 b0 b1 b2 b3 s0 s1 s2 s3 :=
  ⟨h.ap, h.r0.off o (fun h => h) (fun _ _ _ h => h), h.r1.off o (fun h => h) (fun _ _ _ h => h), h.r2.off o (fun h => h) (fun _ _ _ h => h), h.r3.off o (fun h => h) (fun _ _ _ h => h), h.off.trans (o.mono (fun _ _ h => h.elim)) (fun _ _ h => h)⟩
theorem Inv.go0 (h : Inv V v D0 D1 D2 D3 b0 b1 b2 b3 s0 s1 s2 s3) (o : Off (fun c => c = b0) v v') (r : Rdr 65 D0 b0 s' v') : Inv V v' D0 D1 D2 D3 b0 b1 b2 b3 s' s1 s2 s3 :=
  ⟨h.ap, r, h.r1.off o (Ne.symm h.ap.ne.1) (fun c _ hc e => h.ap.n1 c hc (.inl e)), h.r2.off o (Ne.symm h.ap.ne.2.1) (fun c _ hc e => h.ap.n2 c hc (.inl e)), h.r3.off o (Ne.symm h.ap.ne.2.2.1) (fun c _ hc e => h.ap.n3 c hc (.inl e)), h.off.trans o (fun _ _ h => .inl h)⟩
theorem Inv.go1 (h : Inv V v D0 D1 D2 D3 b0 b1 b2 b3 s0 s1 s2 s3) (o : Off (fun c => c = b1) v v') (r : Rdr 65 D1 b1 s' v') : Inv V v' D0 D1 D2 D3 b0 b1 b2 b3 s0 s' s2 s3 :=
  ⟨h.ap, h.r0.off o h.ap.ne.1 (fun c _ hc e => h.ap.n0 c hc (.inl e)), r, h.r2.off o (Ne.symm h.ap.ne.2.2.2.1) (fun c _ hc e => h.ap.n2 c hc (.inr (.inl e))), h.r3.off o (Ne.symm h.ap.ne.2.2.2.2.1) (fun c _ hc e => h.ap.n3 c hc (.inr (.inl e))), h.off.trans o (fun _ _ h => .inr (.inl h))⟩
theorem Inv.go2 (h : Inv V v D0 D1 D2 D3 b0 b1 b2 b3 s0 s1 s2 s3) (o : Off (fun c => c = b2) v v') (r : Rdr 65 D2 b2 s' v') : Inv V v' D0 D1 D2 D3 b0 b1 b2 b3 s0 s1 s' s3 :=
  ⟨h.ap, h.r0.off o h.ap.ne.2.1 (fun c _ hc e => h.ap.n0 c hc (.inr (.inl e))), h.r1.off o h.ap.ne.2.2.2.1 (fun c _ hc e => h.ap.n1 c hc (.inr (.inl e))), r, h.r3.off o (Ne.symm h.ap.ne.2.2.2.2.2) (fun c _ hc e => h.ap.n3 c hc (.inr (.inr e))), h.off.trans o (fun _ _ h => .inr (.inr (.inl h)))⟩
theorem Inv.go3 (h : Inv V v D0 D1 D2 D3 b0 b1 b2 b3 s0 s1 s2 s3) (o : Off (fun c => c = b3) v v') (r : Rdr 65 D3 b3 s' v') : Inv V v' D0 D1 D2 D3 b0 b1 b2 b3 s0 s1 s2 s' :=
  ⟨h.ap, h.r0.off o h.ap.ne.2.2.1 (fun c _ hc e => h.ap.n0 c hc (.inr (.inr e))), h.r1.off o h.ap.ne.2.2.2.2.1 (fun c _ hc e => h.ap.n1 c hc (.inr (.inr e))), h.r2.off o h.ap.ne.2.2.2.2.2 (fun c _ hc e => h.ap.n2 c hc (.inr (.inr e))), r, h.off.trans o (fun _ _ h => .inr (.inr (.inr h)))⟩
/-- A block that was made since V. -/
structure New (V v : World) (q : Nat) (t : TypeId) (z : Value) : Prop where
  cel : Cel q t #[z] v
  lo : V.heap.size ≤ q
theorem New.free {q : Nat} {t : TypeId} {z : Value} (h : New V v q t z) (o : Off (fun _ => False) v v') : New V v' q t z := ⟨h.cel.off o (fun h => h), h.lo⟩
theorem New.go {q b : Nat} {t : TypeId} {z : Value} (h : New V v q t z) (hb : b < V.heap.size) (o : Off (fun c => c = b) v v') : New V v' q t z := ⟨h.cel.off o (fun e => by have := h.lo; omega), h.lo⟩
end
end Go.Proofs.Ytkjinhbhlcbfdaa
