/- Items of several texts. -/
import Derived.Test.YtmjmgdbhmbjmaabACov
namespace Go.Proofs.Ytmjmgdbhmbjmaab
open Go.RowKit
structure A where
 node : Int
 num : Int
 data : List Nat
 dead : Bool
structure V where
 node : Int
 num : Int
 ad : Option Addr
 cap : Nat
 data : List Nat
 dead : Bool
def V.abs (v : V) : A := ⟨v.node, v.num, v.data, v.dead⟩
def cont (l : List V) : List A := l.map V.abs
theorem cont_len (l : List V) : (cont l).length = l.length := by simp [cont]
structure VOk (w : World) (v : V) : Prop where
 src : Src w v.ad v.cap v.data
 lt : ∀ x ∈ v.data, x < 256
 n0 : -9223372036854775808 ≤ v.node
 n1 : v.node ≤ 9223372036854775807
 m0 : -9223372036854775808 ≤ v.num
 m1 : v.num ≤ 9223372036854775807
 len : v.data.length ≤ 140737488351232
structure At4 (w : World) (b o : Nat) (v : V) : Prop where
 c0 : w.cell? ⟨b, o, none⟩ = some (.int .i64 v.node)
 c1 : w.cell? ⟨b, o + 1, none⟩ = some (.int .i64 v.num)
 c2 : w.cell? ⟨b, o + 2, none⟩ = some (.slice v.ad v.data.length v.cap)
 c3 : w.cell? ⟨b, o + 3, none⟩ = some (.bool v.dead)
structure Row (w : World) (a : Option Addr) (cap : Nat) (l : List V) : Prop where
 len : l.length ≤ cap
 bound : cap ≤ 9223372036854775807
 at_ : ∀ i v, l[i]? = some v → ∃ b off, a = some ⟨b, off, none⟩ ∧ At4 w b (off + i * 4) v ∧ VOk w v
theorem VOk.off {D : Nat → Prop} {w w' : World} {v : V} (h : VOk w v) (o : Off D w w') (hD : ∀ c, c < w.heap.size → blk v.ad = some c → ¬ D c) : VOk w' v :=
 ⟨h.src.off o hD, h.lt, h.n0, h.n1, h.m0, h.m1, h.len⟩
theorem At4.off {D : Nat → Prop} {w w' : World} {b o : Nat} {v : V} (h : At4 w b o v) (k : Off D w w') (hD : b < w.heap.size → ¬ D b) : At4 w' b o v := by
 have e : ∀ j u, w.cell? ⟨b, j, none⟩ = some u → w'.cell? ⟨b, j, none⟩ = some u := fun j u e => by
  have := cell_lt e
  rw [← e]
  exact World.cell?_of_block (a := ⟨b, j, none⟩) (k.block b this (hD this))
 exact ⟨e _ _ h.c0, e _ _ h.c1, e _ _ h.c2, e _ _ h.c3⟩
theorem Row.off {w w' : World} {a : Option Addr} {cap : Nat} {l : List V} (h : Row w a cap l) (o : Off (fun _ => False) w w') : Row w' a cap l :=
 ⟨h.len, h.bound, fun i v hv => by
  obtain ⟨b, off, e, h1, h2⟩ := h.at_ i v hv
  exact ⟨b, off, e, h1.off o (fun _ h => h), h2.off o (fun _ _ _ h => h)⟩⟩
theorem Row.offD {D : Nat → Prop} {w w' : World} {a : Option Addr} {cap : Nat} {l : List V} (h : Row w a cap l) (o : Off D w w') (ha : ∀ c, c < w.heap.size → blk a = some c → ¬ D c) (hv : ∀ v ∈ l, ∀ c, c < w.heap.size → blk v.ad = some c → ¬ D c) : Row w' a cap l :=
 ⟨h.len, h.bound, fun i v hi => by
  obtain ⟨b, off, e, h1, h2⟩ := h.at_ i v hi
  exact ⟨b, off, e, h1.off o (fun hb => ha b hb (by rw [e]; rfl)), h2.off o (hv v (List.mem_of_getElem? hi))⟩⟩
theorem Row.nil (w : World) (a : Option Addr) (cap : Nat) (h : cap ≤ 9223372036854775807) : Row w a cap [] := ⟨by simp, h, fun i v h => by simp at h⟩
theorem Try.infoV : (Try.prog.info? 56).map (fun i => (i.zero, i.size, i.bytes)) = some (some (.agg #[.int .i64 0, .int .i64 0, .slice none 0 0, .bool false]), 4, 48) := by kernel_rfl
theorem Row.tail {w : World} {a : Option Addr} {cap : Nat} {v : V} {l : List V} (h : Row w a cap (v :: l)) :
  ∃ a', (∀ W, (Instr.slice 28 (.slice a (v :: l).length cap) (some (.int .i64 1)) none none).run Try.prog W = .ok (.slice a' l.length (cap - 1)) W) ∧ Row w a' (cap - 1) l ∧ blk a' = blk a := by
 have hc := h.len
 have hb := h.bound
 simp only [List.length_cons] at hc
 obtain ⟨b, off, rfl, -, -⟩ := h.at_ 0 v rfl
 refine ⟨if cap = 1 then some ⟨b, off, none⟩ else some ⟨b, off + 4, none⟩, fun W => ?_, ⟨by omega, by omega, fun i u hi => ?_⟩, by split <;> rfl⟩
 ·rw [run_slice_l (P := Try.prog) (t := 28) (ht := by kernel_rfl) (h0 := by omega) (h1 := by simp only [List.length_cons]; omega)]
  have hs : (sizeOf (Try.prog.elem 28)).run Try.prog W = .ok 4 W := by
   have : Try.prog.elem 28 = 56 := by kernel_rfl
   rw [this]
   obtain ⟨i0, hi, hz0, hz1, hz2⟩ := info_parts Try.infoV
   simp [sizeOf, typeInfo, hi, hz1]
  rw [hs]
  simp [Result.andThen, sliced, Addr.add]
 ·obtain ⟨b', off', e, h1, h2⟩ := h.at_ (i + 1) u (by simpa using hi)
  simp only [Option.some.injEq, Addr.mk.injEq, and_true] at e
  obtain ⟨rfl, rfl⟩ := e
  have hl : i < l.length := by
   obtain ⟨h, -⟩ := List.getElem?_eq_some_iff.1 hi
   exact h
  rw [if_neg (by omega)]
  refine ⟨b, off + 4, rfl, ?_, h2⟩
  rw [show off + 4 + i * 4 = off + (i + 1) * 4 by omega]
  exact h1
theorem cel9 {b : Nat} {t : TypeId} {f : Nat → Int} {s : Value} {w : World} (h : Cel b t #[.int .i64 (f 0), .int .i64 (f 1), .int .i64 (f 2), .int .i64 (f 3), .int .i64 (f 4), .int .i64 (f 5), .int .i64 (f 6), .int .i64 (f 7), s] w) : w.cell? ⟨b, 0, none⟩ = some (.int .i64 (f 0)) ∧ w.cell? ⟨b, 1, none⟩ = some (.int .i64 (f 1)) ∧ w.cell? ⟨b, 2, none⟩ = some (.int .i64 (f 2)) ∧ w.cell? ⟨b, 3, none⟩ = some (.int .i64 (f 3)) ∧ w.cell? ⟨b, 4, none⟩ = some (.int .i64 (f 4)) ∧ w.cell? ⟨b, 5, none⟩ = some (.int .i64 (f 5)) ∧ w.cell? ⟨b, 6, none⟩ = some (.int .i64 (f 6)) ∧ w.cell? ⟨b, 7, none⟩ = some (.int .i64 (f 7)) ∧ w.cell? ⟨b, 8, none⟩ = some s :=
 ⟨h.cell 0, h.cell 1, h.cell 2, h.cell 3, h.cell 4, h.cell 5, h.cell 6, h.cell 7, h.cell 8⟩
theorem cel4 {b : Nat} {t : TypeId} {v : V} {w : World} (h : Cel b t #[.int .i64 v.node, .int .i64 v.num, .slice v.ad v.data.length v.cap, .bool v.dead] w) : w.cell? ⟨b, 0, none⟩ = some (.int .i64 v.node) ∧ w.cell? ⟨b, 1, none⟩ = some (.int .i64 v.num) ∧ w.cell? ⟨b, 2, none⟩ = some (.slice v.ad v.data.length v.cap) ∧ w.cell? ⟨b, 3, none⟩ = some (.bool v.dead) :=
 ⟨h.cell 0, h.cell 1, h.cell 2, h.cell 3⟩
def okData (n : Nat) (dead : Bool) : Bool := if dead then decide (n = 0) else decide (n ≤ 200)
theorem mayData_any (a : Option Addr) (n cap : Nat) (dead : Bool) (w : World) : Calls Try.prog 36 #[.slice a n cap, .bool dead] w fun e w' => e = .returned (.bool (okData n dead)) ∧ w' = w := by
 cases dead
 ·by_cases h : n ≤ 200
  ·have e1 : decide ((n : Int) ≤ 200) = true := by simp; omega
   have e2 : decide (n ≤ 200) = true := by simp; omega
   go_enter Try.func36, Try.ntmps36
   go_wp2
   go_ret
   exact ⟨by simp [okData, h], rfl⟩
  ·have e1 : decide ((n : Int) ≤ 200) = false := by simp; omega
   have e2 : decide (n ≤ 200) = false := by simp; omega
   go_enter Try.func36, Try.ntmps36
   go_wp2
   go_ret
   exact ⟨by simp [okData, h], rfl⟩
 ·by_cases h : n = 0
  ·subst h
   go_enter Try.func36, Try.ntmps36
   go_wp2
   go_ret
   exact ⟨by simp [okData], rfl⟩
  ·have e1 : ((n : Int) == 0) = false := by rw [beq_eq_false_iff_ne]; omega
   go_enter Try.func36, Try.ntmps36
   go_wp2
   go_ret
   exact ⟨by simp [okData, h], rfl⟩
end Go.Proofs.Ytmjmgdbhmbjmaab
