/- Items of several texts. -/
import Derived.Deep.RegionWith
import Derived.Lib.Bytealg
import Derived.Lib.BytesEntry
import Derived.Laws.Externs
import Derived.Deep.Cut
import Derived.Test.YtpnnpdfmoldiiaaDCov
namespace Go.Proofs.Ytpnnpdfmoldiiaa
open Go.RowKit
structure A where
 node : Int
 num : Int
 data : List Nat
 dead : Bool
structure V where
 node : Int
 num : Int
 ad : Option Addr
 cap : Nat
 data : List Nat
 dead : Bool
def V.abs (v : V) : A := ⟨v.node, v.num, v.data, v.dead⟩
def cont (l : List V) : List A := l.map V.abs
structure VOk (w : World) (v : V) : Prop where
 src : Src w v.ad v.cap v.data
 lt : ∀ x ∈ v.data, x < 256
 n0 : -9223372036854775808 ≤ v.node
 n1 : v.node ≤ 9223372036854775807
 m0 : -9223372036854775808 ≤ v.num
 m1 : v.num ≤ 9223372036854775807
 len : v.data.length ≤ 140737488351232
structure At4 (w : World) (b o : Nat) (v : V) : Prop where
 c0 : w.cell? ⟨b, o, none⟩ = some (.int .i64 v.node)
 c1 : w.cell? ⟨b, o + 1, none⟩ = some (.int .i64 v.num)
 c2 : w.cell? ⟨b, o + 2, none⟩ = some (.slice v.ad v.data.length v.cap)
 c3 : w.cell? ⟨b, o + 3, none⟩ = some (.bool v.dead)
structure Row (w : World) (a : Option Addr) (cap : Nat) (l : List V) : Prop where
 len : l.length ≤ cap
 bound : cap ≤ 9223372036854775807
 at_ : ∀ i v, l[i]? = some v → ∃ b off, a = some ⟨b, off, none⟩ ∧ At4 w b (off + i * 4) v ∧ VOk w v
theorem VOk.off {D : Nat → Prop} {w w' : World} {v : V} (h : VOk w v) (o : Off D w w') (hD : ∀ c, c < w.heap.size → blk v.ad = some c → ¬ D c) : VOk w' v :=
 ⟨h.src.off o hD, h.lt, h.n0, h.n1, h.m0, h.m1, h.len⟩
theorem At4.off {D : Nat → Prop} {w w' : World} {b o : Nat} {v : V} (h : At4 w b o v) (k : Off D w w') (hD : b < w.heap.size → ¬ D b) : At4 w' b o v := by
 have e : ∀ j u, w.cell? ⟨b, j, none⟩ = some u → w'.cell? ⟨b, j, none⟩ = some u := fun j u e => by
  have := cell_lt e
  rw [← e]
  exact World.cell?_of_block (a := ⟨b, j, none⟩) (k.block b this (hD this))
 exact ⟨e _ _ h.c0, e _ _ h.c1, e _ _ h.c2, e _ _ h.c3⟩
theorem Row.off {w w' : World} {a : Option Addr} {cap : Nat} {l : List V} (h : Row w a cap l) (o : Off (fun _ => False) w w') : Row w' a cap l :=
 ⟨h.len, h.bound, fun i v hv => by
  obtain ⟨b, off, e, h1, h2⟩ := h.at_ i v hv
  exact ⟨b, off, e, h1.off o (fun _ h => h), h2.off o (fun _ _ _ h => h)⟩⟩
theorem Row.nil (w : World) (a : Option Addr) (cap : Nat) (h : cap ≤ 9223372036854775807) : Row w a cap [] := ⟨by simp, h, fun i v h => by simp at h⟩
theorem cel4 {b : Nat} {t : TypeId} {v : V} {w : World} (h : Cel b t #[.int .i64 v.node, .int .i64 v.num, .slice v.ad v.data.length v.cap, .bool v.dead] w) : w.cell? ⟨b, 0, none⟩ = some (.int .i64 v.node) ∧ w.cell? ⟨b, 1, none⟩ = some (.int .i64 v.num) ∧ w.cell? ⟨b, 2, none⟩ = some (.slice v.ad v.data.length v.cap) ∧ w.cell? ⟨b, 3, none⟩ = some (.bool v.dead) :=
 ⟨h.cell 0, h.cell 1, h.cell 2, h.cell 3⟩
end Go.Proofs.Ytpnnpdfmoldiiaa

namespace Go.Proofs.Ytpnnpdfmoldiiaa
open Go.RowKit
theorem wp_append_if {P : Program} {o : Oper} {a : Act} {w w' : World} {K : Act → World → Prop} {Q : Exit → Act → World → Prop} {y : Nat → Option Bool} {E : Prop} (hw : Region.wanted o y = true) (s x : Operand) {t u : TypeId}
  (ho : o.op = .call { callee := .builtin .append, args := #[s, x], argTypes := #[t, u] }) {v v' X : Value} (hs : a.eval s = v) (hx : a.eval x = X) (hr : (Builtin.append_ #[t, u] o.type #[v, X]).run P w = .ok v' w')
  (d : Nat) (hd : o.dst = some d) (h : K (a.put (some d) v') w') : if Region.wanted o y = true then Oper.wp P o a w K Q else E := by
 rw [if_pos hw]
 unfold Oper.wp execOp
 simp only [ho, resolve, invoke, builtin, Sem.run_bind, Sem.run_pure, Result.andThen_ok, List.map_toArray, List.map_cons, List.map_nil, hs, hx, hr]
 rw [← hd] at h
 exact h
theorem cont_append (a b : List V) : cont (a ++ b) = cont a ++ cont b := by simp [cont]
end Go.Proofs.Ytpnnpdfmoldiiaa

namespace Go.Proofs.Ytpnnpdfmoldiiaa
open Go.RowKit
theorem cel2 {b : Nat} {t : TypeId} {x y : Value} {w : World} (h : Cel b t #[x, y] w) : w.cell? ⟨b, 0, none⟩ = some x ∧ w.cell? ⟨b, 1, none⟩ = some y := ⟨h.cell 0, h.cell 1⟩
end Go.Proofs.Ytpnnpdfmoldiiaa
