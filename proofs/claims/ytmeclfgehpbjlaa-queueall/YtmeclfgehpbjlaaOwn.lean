/- The contracts of newTo, what it makes, and of merge's take. -/
import Derived.Test.YtmeclfgehpbjlaaFst
import Derived.Deep.RegionWith
namespace Go.Proofs.Ytmeclfgehpbjlaa
open Go.RowKit

/-- The cells of values. -/
def vcs : List V → List Value
  | [] => []
  | v :: l => .int .i64 v.node :: .int .i64 v.num :: .slice v.ad v.data.length v.cap :: .bool v.dead :: vcs l
theorem vcs_append (a b : List V) : vcs (a ++ b) = vcs a ++ vcs b := by
  induction a with
  | nil => rfl
  | cons v l ih => simp [vcs, ih]
theorem vcs_len (l : List V) : (vcs l).length = l.length * 4 := by
  induction l with
  | nil => rfl
  | cons v l ih => simp [vcs, ih]; omega
theorem vcs_get {l : List V} {i : Nat} {v : V} (h : l[i]? = some v) : (vcs l)[i * 4]? = some (.int .i64 v.node) ∧ (vcs l)[i * 4 + 1]? = some (.int .i64 v.num) ∧ (vcs l)[i * 4 + 2]? = some (.slice v.ad v.data.length v.cap) ∧ (vcs l)[i * 4 + 3]? = some (.bool v.dead) := by
  induction l generalizing i with
  | nil => simp at h
  | cons u l ih =>
    cases i with
    | zero => simp at h; subst h; simp [vcs]
    | succ i =>
      have := ih (i := i) (by simpa using h)
      simpa [vcs, Nat.succ_mul, Nat.add_right_comm] using this
/-- A row of values of the call's own. -/
structure OwnV (w : World) (a : Option Addr) (cap : Nat) (l : List V) : Prop where
  row : w.ownsRow 0 120 4 (.slice a l.length cap) l.length (vcs l)
theorem OwnV.off {D : Nat → Prop} {w w' : World} {a : Option Addr} {cap : Nat} {l : List V} (h : OwnV w a cap l) (k : Off D w w') (hD : ∀ c, blk a = some c → ¬ D c) : OwnV w' a cap l := by
  refine ⟨h.row.1, ?_⟩
  rcases h.row.2 with h2 | ⟨g, c, cur, hv, hg, hh, r⟩
  · exact .inl h2
  · have hlt := lt_of_block hh
    simp only [Value.slice.injEq] at hv
    obtain ⟨rfl, -, rfl⟩ := hv
    exact .inr ⟨g, _, cur, rfl, hg, (k.block g hlt (hD g rfl)).trans hh, r⟩
theorem OwnV.nil (w : World) : OwnV w none 0 [] := ⟨World.ownsRow_nil w 0 _ 4⟩
theorem OwnV.lt {w : World} {a : Option Addr} {cap : Nat} {l : List V} (h : OwnV w a cap l) : ∀ c, blk a = some c → c < w.heap.size := fun c hc =>
  (World.ownsRow.lt h.row c (by rw [blk_own]; exact hc)).2
theorem OwnV.toRow {w : World} {a : Option Addr} {cap : Nat} {l : List V} (h : OwnV w a cap l) (hk : ∀ v ∈ l, VOk w v) : Row w a cap l := by
  rcases h.row.2 with ⟨hv, h0⟩ | ⟨g, c, cur, hv, hb, hh, hc, hm, -⟩
  · simp only [Value.slice.injEq] at hv
    obtain rfl : l = [] := List.eq_nil_of_length_eq_zero h0
    exact ⟨by simp, by omega, fun i v h => by simp at h⟩
  · simp only [Value.slice.injEq] at hv
    obtain ⟨rfl, -, rfl⟩ := hv
    refine ⟨hc, by unfold maxLen at hm; omega, fun i v hi => ⟨g, 0, rfl, ?_, hk v (List.mem_of_getElem? hi)⟩⟩
    have hx := World.ownsRow.cells h.row (g := g) rfl
    obtain ⟨g0, g1, g2, g3⟩ := vcs_get hi
    have k0 := hx _ _ g0
    have k1 := hx _ _ g1
    have k2 := hx _ _ g2
    have k3 := hx _ _ g3
    rw [add_lit] at k0 k1 k2 k3
    exact ⟨k0, k1, k2, k3⟩

theorem own_slice {w : World} {v : Value} {n : Nat} {xs : List Value} (h : w.ownsRow 0 120 4 v (n + 1) xs) : ∃ a c, v = .slice a (n + 1) c := by
  rcases h.2 with ⟨-, h0⟩ | ⟨g, c, cur, hv, -⟩
  · omega
  · exact ⟨_, _, hv⟩
theorem own_snoc {w : World} {a : Option Addr} {c : Nat} {l : List V} {u : V} (h : w.ownsRow 0 120 4 (.slice a (l.length + 1) c) (l.length + 1) (vcs l ++ (#[.int .i64 u.node, .int .i64 u.num, .slice u.ad u.data.length u.cap, .bool u.dead] : Array Value).toList)) : OwnV w a c (l ++ [u]) := by
  constructor
  rw [vcs_append]
  simpa [vcs] using h
theorem at_far {a a2 : Option Addr} {N B M Mm m2 : Nat} (h3 : ∀ k, blk a = some k → N ≤ k ∧ k ≠ B ∧ k < Mm) (hb : B < M ∧ (∀ k, blk a = some k → k < M) ∧ N ≤ M) (hs : M ≤ m2 + 1) (at2 : blk a2 = blk a ∨ blk a2 = some (m2 + 1)) : ∀ k, blk a2 = some k → N ≤ k ∧ k ≠ B := by
  intro k hk
  rcases at2 with e | e
  · exact ⟨(h3 k (e ▸ hk)).1, (h3 k (e ▸ hk)).2.1⟩
  · rw [e] at hk
    simp at hk
    omega

theorem wp_append_if {P : Program} {o : Oper} {a : Act} {w w' : World} {K : Act → World → Prop} {Q : Exit → Act → World → Prop} {y : Nat → Option Bool} {E : Prop} (hw : Region.wanted o y = true) (s x : Operand) {t u : TypeId}
    (ho : o.op = .call { callee := .builtin .append, args := #[s, x], argTypes := #[t, u] }) {v v' X : Value} (hs : a.eval s = v) (hx : a.eval x = X) (hr : (Builtin.append_ #[t, u] o.type #[v, X]).run P w = .ok v' w')
    (d : Nat) (hd : o.dst = some d) (h : K (a.put (some d) v') w') : if Region.wanted o y = true then Oper.wp P o a w K Q else E := by
  rw [if_pos hw]
  unfold Oper.wp execOp
  simp only [ho, resolve, invoke, builtin, Sem.run_bind, Sem.run_pure, Result.andThen_ok, List.map_toArray, List.map_cons, List.map_nil, hs, hx, hr]
  rw [← hd] at h
  exact h

/-- A variable that holds a row of the call's own: it and the row lie between N and M, the values' bytes at N or later. -/
structure Out (N M B : Nat) (l : List V) (w : World) : Prop where
  lo : N ≤ B ∧ B < M
  is : ∃ a cap, Cel B 92 #[.slice a l.length cap] w ∧ OwnV w a cap l ∧ (∀ k, blk a = some k → N ≤ k ∧ k ≠ B ∧ k < M) ∧ ∀ v ∈ l, VOk w v ∧ OwnR w v.ad v.cap v.data ∧ ∀ k, blk v.ad = some k → N ≤ k ∧ k ≠ B ∧ blk a ≠ some k
theorem Out.off {N M B : Nat} {l : List V} {w w' : World} (h : Out N M B l w) (o : Off (fun _ => False) w w') : Out N M B l w' := by
  obtain ⟨h0, a, cap, h1, h2, h3, h4⟩ := h
  exact ⟨h0, a, cap, h1.off o (fun h => h), h2.off o (fun _ _ h => h), h3, fun v hv => ⟨(h4 v hv).1.off o (fun _ _ _ h => h), (h4 v hv).2.1.off o (fun _ _ _ h => h), (h4 v hv).2.2⟩⟩
theorem Out.up {N M M' B : Nat} {l : List V} {w : World} (h : Out N M B l w) (hM : M ≤ M') : Out N M' B l w := by
  obtain ⟨h0, a, cap, h1, h2, h3, h4⟩ := h
  exact ⟨⟨h0.1, by omega⟩, a, cap, h1, h2, fun k hk => ⟨(h3 k hk).1, (h3 k hk).2.1, by have := (h3 k hk).2.2; omega⟩, h4⟩

/-- What is added. -/
def keep (b : Bool) (x : A) : List A := if b then [x] else []
theorem cont_append (a b : List V) : cont (a ++ b) = cont a ++ cont b := by simp [cont]
end Go.Proofs.Ytmeclfgehpbjlaa
