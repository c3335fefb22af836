/- The contracts of keep, of slices.Clone at values, of copyOf. -/
import Derived.Test.YtmeclfgehpbjlaaTb
import Derived.Test.YtmeclfgehpbjlaaInsP
import Derived.Deep.Cut
import Derived.Deep.RegionHeld
namespace Go.Proofs.Ytmeclfgehpbjlaa
open Go.RowKit

/-- A row that was made since N. -/
structure Far (N : Nat) (a : Option Addr) (l : List V) : Prop where
  row : ∀ x, blk a = some x → N ≤ x
  val : ∀ v ∈ l, ∀ x, blk v.ad = some x → N ≤ x
theorem Far.mono {N M : Nat} {a : Option Addr} {l : List V} (h : Far N a l) (hM : M ≤ N) : Far M a l := ⟨fun x hx => Nat.le_trans hM (h.row x hx), fun v hv x hx => Nat.le_trans hM (h.val v hv x hx)⟩
theorem Row.offF {D : Nat → Prop} {w w' : World} {N : Nat} {a : Option Addr} {cap : Nat} {l : List V} (h : Row w a cap l) (f : Far N a l) (o : Off D w w') (hD : ∀ x, N ≤ x → ¬ D x) : Row w' a cap l :=
  h.offD o (fun x _ hx => hD x (f.row x hx)) (fun v hv x _ hx => hD x (f.val v hv x hx))
theorem Made.far {N : Nat} {w : World} {a : Option Addr} {cap : Nat} {l : List V} (h : Made N w a cap l) : Far N a l := ⟨h.lo, fun v hv x hx => ((h.own v hv).2 x hx).1⟩
theorem Far.nil (N : Nat) : Far N none [] := ⟨fun x hx => by simp [blk] at hx, fun v hv => by simp at hv⟩
theorem eql_nilV (a : Option Addr) (l c : Nat) (W : World) : (binOp .eql 92 (.slice a l c) (.slice none 0 0)).run Try.prog W = .ok (.bool a.isNone) W := by
  have h : binOp .eql 92 (.slice a l c) (.slice none 0 0) = (do pure (.bool (← Op.equal 92 (.slice a l c) (.slice none 0 0)))) := rfl
  rw [h]
  simp [run_equal_slice_nil W 92 120 a l c Try.underlying92, Result.andThen]
theorem wpList_appV {w : World} {ops : Array Oper} {rest : List Oper} {o : Oper} {a : Act} {Q : Exit → Act → World → Prop} (hgd : o.guard = none) (s x : Operand)
    (ho : o.op = .call { callee := .builtin .append, args := #[s, x], argTypes := #[92, 92] })
    (tad : Option Addr) (cap : Nat) (l : List V) (hs : a.eval s = .slice tad l.length cap) (hown : OwnV w tad cap l)
    (xt : Option Addr) (xc : Nat) (k : List V) (hx : a.eval x = .slice xt k.length xc) (hr : Row w xt xc k) (hz : xt = none → xc = 0) (hb : l.length + k.length ≤ 1000000)
    (h : ∀ t' c' w' ys, Hid (ys = l ++ k) → OwnV w' t' c' ys → Off (fun c => blk tad = some c) w w' → (blk t' = blk tad ∨ blk t' = some w.heap.size) → wpList Try.prog ops Q rest (a.put o.dst (.slice t' ys.length c')) w') :
    wpList Try.prog ops Q (o :: rest) a w := by
  obtain ⟨a', c', w', hrun, own, off, hat⟩ := app_runV hown hr hz hb o.type
  refine wpList_plain hgd fun K' hK' => ?_
  unfold Oper.wp
  simp only [execOp, ho, resolve, invoke, builtin, Sem.run_bind, Sem.run_pure, Result.andThen_ok, List.map_toArray, List.map_cons, List.map_nil, hs, hx, hrun]
  exact hK' _ _ (h a' c' w' _ (show l ++ k = l ++ k from rfl) own off hat)
theorem vclone_any (t : Option Addr) (c : Nat) (l : List V) (hb : l.length ≤ 1000) (w : World) (hs : Row w t c l) :
    Calls Try.prog 51 #[.slice t l.length c] w fun e w' => ∃ t' c', e = .returned (.slice t' l.length c') ∧ OwnV w' t' c' l ∧ (∀ k, blk t' = some k → w.heap.size ≤ k) ∧ Off (fun _ => False) w w' := by
  have hq := eql_nilV
  cases t with
  | none =>
    obtain rfl : l = [] := by
      cases l with
      | nil => rfl
      | cons v l => obtain ⟨b, off, e, -⟩ := hs.at_ 0 v rfl; cases e
    go_enter Try.func51, Try.ntmps51
    go_wp2
    go_ret
    exact ⟨none, 0, rfl, OwnV.nil w, fun k hk => by simp [blk] at hk, Off.refl _ w⟩
  | some ad =>
    have HS : Hid (Row w (some ad) c l) := hs
    clear hs
    have L0 : OwnV (w.alloc (.cells #[] 120)) (some ⟨w.heap.size, 0, none⟩) 0 [] := ⟨World.ownsRow_lit w #[] 0 (Nat.zero_le _) (by decide) rfl⟩
    have O0 : Off (fun _ => False) w (w.alloc (.cells #[] 120)) := (Off.refl _ w).alloc _
    go_enter Try.func51, Try.ntmps51
    go_wp2_with (at_builtin; refine wpList_appV rfl (.tmp 5) (.tmp 6) rfl _ 0 [] rfl L0 _ c l rfl (HS.out.off O0) (fun h => by cases h) (by simp; omega) ?_; intro t' c' w' ys hys own' off' at')
    go_ret
    obtain rfl : ys = l := hys.out
    refine ⟨t', c', rfl, own', fun k hk => ?_, O0.trans off' (fun i hi hb => ?_)⟩
    · rcases at' with a | a
      · rw [a] at hk
        simp [blk] at hk
        omega
      · rw [a] at hk
        simp at hk
        omega
    · simp [blk] at hb
      omega

theorem cell_other {w : World} {a b : Addr} {v : Value} (h : a ≠ b) : (w.setCell a v).cell? b = w.cell? b := World.cell?_setCell_other w a b v h
theorem cell_same {w : World} {a : Addr} {u v : Value} (h : w.cell? a = some u) : (w.setCell a v).cell? a = some v := World.cell?_setCell_same w a v h
theorem exec_idx10 {P : Program} {ρ : Operand → Value} {o : Oper} {t : TypeId} {x ix : Operand} {v : Value} {w : World} (ho : o.op = .indexAddr t x ix) (h : (Instr.indexAt t (ρ x) (ρ ix)).run P w = .ok v w) : Sem.run P (execOp ρ o) w = .ok (.value v) w := by
  have e : execOp ρ o = (do pure (.value (← Instr.indexAt t (ρ x) (ρ ix)))) := by unfold execOp; rw [ho]
  rw [e, Sem.run_bind, h]
  rfl
theorem idx_row {m n : Nat} (h : n < m) (c g : Nat) (W : World) : (Instr.indexAt 92 (.slice (some ⟨g, 0, none⟩) m c) (.int .i64 (n : Int))).run Try.prog W = .ok (.pointer (some ⟨g, n * 4, none⟩)) W := by
  go_simp
theorem Row.at0 {w : World} {g : Nat} {cap : Nat} {l : List V} (h : Row w (some ⟨g, 0, none⟩) cap l) {n : Nat} {v : V} (hv : l[n]? = some v) : At4 w g (n * 4) v := by
  obtain ⟨b, off, e, h1, -⟩ := h.at_ n v hv
  simp only [Option.some.injEq, Addr.mk.injEq, and_true] at e
  obtain ⟨rfl, rfl⟩ := e
  rw [Nat.zero_add] at h1
  exact h1
theorem Src.setN {w : World} {tad : Option Addr} {cap : Nat} {bs : List Nat} (h : Src w tad cap bs) {p : Addr} (hp : ∀ k n, w.cell? p ≠ some (.int k n)) (u : Value) : Src (w.setCell p u) tad cap bs := by
  rcases h.is with h0 | ⟨ad, rfl, h0⟩
  · exact ⟨.inl h0⟩
  · refine ⟨.inr ⟨ad, rfl, fun j x hj => ?_⟩⟩
    have h1 := h0 j x hj
    obtain ⟨y, hy⟩ : ∃ y, x = .int .u8 y := by
      simp only [vl, List.getElem?_map, Option.map_eq_some_iff] at hj
      obtain ⟨y, -, hy⟩ := hj
      exact ⟨_, hy.symm⟩
    rw [cell_other (fun e => hp _ _ (by rw [e, h1, hy]))]
    exact h1
theorem Row.setData {w : World} {g : Nat} {cap : Nat} {l : List V} (h : Row w (some ⟨g, 0, none⟩) cap l) {n : Nat} {v : V} (hv : l[n]? = some v) {t : Option Addr} {c1 : Nat} (hs : Src w t c1 v.data) :
    Row (w.setCell ⟨g, n * 4 + 2, none⟩ (.slice t v.data.length c1)) (some ⟨g, 0, none⟩) cap (l.set n (⟨v.node, v.num, t, c1, v.data, v.dead⟩ : V)) := by
  have hc := (h.at0 hv).c2
  have hni : ∀ k m, w.cell? ⟨g, n * 4 + 2, none⟩ ≠ some (.int k m) := fun k m e => by rw [hc] at e; cases e
  refine ⟨by rw [List.length_set]; exact h.len, h.bound, fun i u hi => ⟨g, 0, rfl, ?_⟩⟩
  rw [Nat.zero_add]
  by_cases e : n = i
  · subst e
    have hlt : n < l.length := by
      obtain ⟨h, -⟩ := List.getElem?_eq_some_iff.1 hv
      exact h
    rw [List.getElem?_set_self hlt] at hi
    simp only [Option.some.injEq] at hi
    subst hi
    have k := h.at0 hv
    have o := (h.ok v (List.mem_of_getElem? hv))
    refine ⟨⟨?_, ?_, cell_same hc, ?_⟩, ⟨hs.setN hni _, o.lt, o.n0, o.n1, o.m0, o.m1, o.len⟩⟩
    · rw [cell_other (by simp)]; exact k.c0
    · rw [cell_other (by simp)]; exact k.c1
    · rw [cell_other (by simp)]; exact k.c3
  · rw [List.getElem?_set_ne e] at hi
    have k := h.at0 hi
    have o := (h.ok u (List.mem_of_getElem? hi))
    refine ⟨⟨?_, ?_, ?_, ?_⟩, ⟨o.src.setN hni _, o.lt, o.n0, o.n1, o.m0, o.m1, o.len⟩⟩
    · rw [cell_other (by simp <;> omega)]; exact k.c0
    · rw [cell_other (by simp <;> omega)]; exact k.c1
    · rw [cell_other (by simp <;> omega)]; exact k.c2
    · rw [cell_other (by simp <;> omega)]; exact k.c3
theorem cont_set {l : List V} {n : Nat} {v : V} (hv : l[n]? = some v) (t : Option Addr) (c1 : Nat) : cont (l.set n (⟨v.node, v.num, t, c1, v.data, v.dead⟩ : V)) = cont l := by
  unfold cont
  rw [List.map_set]
  have : ((⟨v.node, v.num, t, c1, v.data, v.dead⟩ : V)).abs = v.abs := rfl
  rw [this]
  refine List.ext_getElem? (fun i => ?_)
  by_cases e : n = i
  · subst e
    have hlt : n < l.length := by
      obtain ⟨h, -⟩ := List.getElem?_eq_some_iff.1 hv
      exact h
    rw [List.getElem?_set_self (by simpa using hlt), List.getElem?_map, hv]
    rfl
  · rw [List.getElem?_set_ne e]

theorem set_far {k : List V} {n : Nat} {v : V} {N : Nat} {t : Option Addr} {c1 : Nat} (hv : k[n]? = some v) (h : ∀ i v, i < n → k[i]? = some v → ∀ x, blk v.ad = some x → N ≤ x) (ht : ∀ x, blk t = some x → N ≤ x) :
    ∀ i u, i < n + 1 → (k.set n (⟨v.node, v.num, t, c1, v.data, v.dead⟩ : V))[i]? = some u → ∀ x, blk u.ad = some x → N ≤ x := by
  intro i u hi hu x hx
  by_cases e : n = i
  · subst e
    have hlt : n < k.length := by
      obtain ⟨h, -⟩ := List.getElem?_eq_some_iff.1 hv
      exact h
    rw [List.getElem?_set_self hlt] at hu
    simp only [Option.some.injEq] at hu
    subst hu
    exact ht x hx
  · rw [List.getElem?_set_ne e] at hu
    exact h i u (by omega) hu x hx
end Go.Proofs.Ytmeclfgehpbjlaa
