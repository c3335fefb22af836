/- Items of several texts. -/
import Derived.Deep.RegionWith
import Derived.Test.YtmeclfgehpbjlaaYCpy
namespace Go.Proofs.Ytmeclfgehpbjlaa
open Go.RowKit
def vcs : List V → List Value
 | [] => []
 | v :: l => .int .i64 v.node :: .int .i64 v.num :: .slice v.ad v.data.length v.cap :: .bool v.dead :: vcs l
theorem vcs_get {l : List V} {i : Nat} {v : V} (h : l[i]? = some v) : (vcs l)[i * 4]? = some (.int .i64 v.node) ∧ (vcs l)[i * 4 + 1]? = some (.int .i64 v.num) ∧ (vcs l)[i * 4 + 2]? = some (.slice v.ad v.data.length v.cap) ∧ (vcs l)[i * 4 + 3]? = some (.bool v.dead) := by
 induction l generalizing i with
 | nil => simp at h
 | cons u l ih =>
  cases i with
  | zero => simp at h; subst h; simp [vcs]
  | succ i =>
   have := ih (i := i) (by simpa using h)
   simpa [vcs, Nat.succ_mul, Nat.add_right_comm] using this
structure OwnV (w : World) (a : Option Addr) (cap : Nat) (l : List V) : Prop where
 row : w.ownsRow 0 120 4 (.slice a l.length cap) l.length (vcs l)
theorem OwnV.toRow {w : World} {a : Option Addr} {cap : Nat} {l : List V} (h : OwnV w a cap l) (hk : ∀ v ∈ l, VOk w v) : Row w a cap l := by
 rcases h.row.2 with ⟨hv, h0⟩ | ⟨g, c, cur, hv, hb, hh, hc, hm, -⟩
 ·simp only [Value.slice.injEq] at hv
  obtain rfl : l = [] := List.eq_nil_of_length_eq_zero h0
  exact ⟨by simp, by omega, fun i v h => by simp at h⟩
 ·simp only [Value.slice.injEq] at hv
  obtain ⟨rfl, -, rfl⟩ := hv
  refine ⟨hc, by unfold maxLen at hm; omega, fun i v hi => ⟨g, 0, rfl, ?_, hk v (List.mem_of_getElem? hi)⟩⟩
  have hx := World.ownsRow.cells h.row (g := g) rfl
  obtain ⟨g0, g1, g2, g3⟩ := vcs_get hi
  have k0 := hx _ _ g0
  have k1 := hx _ _ g1
  have k2 := hx _ _ g2
  have k3 := hx _ _ g3
  rw [add_lit] at k0 k1 k2 k3
  exact ⟨k0, k1, k2, k3⟩
theorem wp_append_if {P : Program} {o : Oper} {a : Act} {w w' : World} {K : Act → World → Prop} {Q : Exit → Act → World → Prop} {y : Nat → Option Bool} {E : Prop} (hw : Region.wanted o y = true) (s x : Operand) {t u : TypeId}
  (ho : o.op = .call { callee := .builtin .append, args := #[s, x], argTypes := #[t, u] }) {v v' X : Value} (hs : a.eval s = v) (hx : a.eval x = X) (hr : (Builtin.append_ #[t, u] o.type #[v, X]).run P w = .ok v' w')
  (d : Nat) (hd : o.dst = some d) (h : K (a.put (some d) v') w') : if Region.wanted o y = true then Oper.wp P o a w K Q else E := by
 rw [if_pos hw]
 unfold Oper.wp execOp
 simp only [ho, resolve, invoke, builtin, Sem.run_bind, Sem.run_pure, Result.andThen_ok, List.map_toArray, List.map_cons, List.map_nil, hs, hx, hr]
 rw [← hd] at h
 exact h
end Go.Proofs.Ytmeclfgehpbjlaa
