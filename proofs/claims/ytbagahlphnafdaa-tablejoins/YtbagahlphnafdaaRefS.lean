/- Writes into a row of entries; a sorted row with one entry set or put in. -/
import Derived.Test.YtbagahlphnafdaaRefT
import Derived.Test.YtbagahlphnafdaaInsP
namespace Go.Proofs.Ytbagahlphnafdaa
open Go.RowKit

/-- Values written one behind the other. -/
def wrs (g : Nat) : Nat → List Value → World → World
  | _, [], w => w
  | o, u :: us, w => wrs g (o + 1) us (w.setCell ⟨g, o, none⟩ u)
theorem wrs_out {g : Nat} {c : Addr} : ∀ {us : List Value} {o : Nat} {w : World}, (c.block = g → c.off < o ∨ o + us.length ≤ c.off) → (wrs g o us w).cell? c = w.cell? c
  | [], _, _, _ => rfl
  | u :: us, o, w, h => by
    unfold wrs
    rw [List.length_cons] at h
    rw [wrs_out (fun e => by have := h e; omega), cell_other]
    intro e
    subst e
    have := h rfl
    simp at this
    omega
theorem wrs_in {g : Nat} : ∀ {us : List Value} {o : Nat} {w : World}, (∀ i, i < us.length → ∃ v, w.cell? ⟨g, o + i, none⟩ = some v) → ∀ i u, us[i]? = some u → (wrs g o us w).cell? ⟨g, o + i, none⟩ = some u
  | [], _, _, _, i, u, hu => by simp at hu
  | x :: us, o, w, h, i, u, hu => by
    unfold wrs
    cases i with
    | zero =>
      simp at hu
      subst hu
      rw [wrs_out (fun _ => by simp)]
      obtain ⟨v, hv⟩ := h 0 (by simp)
      exact cell_same hv
    | succ i =>
      rw [show o + (i + 1) = (o + 1) + i by omega]
      refine wrs_in (fun j hj => ?_) i u (by simpa using hu)
      obtain ⟨v, hv⟩ := h (j + 1) (by simpa using hj)
      refine ⟨v, ?_⟩
      rw [cell_other (by intro e; simp only [Addr.mk.injEq, true_and, and_true] at e; omega), ← hv, show o + 1 + j = o + (j + 1) by omega]
theorem off_wrs {D : Nat → Prop} {a : World} {g : Nat} : ∀ {us : List Value} {o : Nat} {w : World}, Off D a w → (D g ∨ a.heap.size ≤ g) → Off D a (wrs g o us w)
  | [], _, _, h, _ => h
  | u :: us, o, w, h, hg => by
    unfold wrs
    exact off_wrs (h.setCell (p := ⟨g, o, none⟩) hg u) hg
/-- The nine cells behind an entry's key. -/
def sib9 (f : Nat → Int) (s : Value) : List Value := [.int .i64 (f 0), .int .i64 (f 1), .int .i64 (f 2), .int .i64 (f 3), .int .i64 (f 4), .int .i64 (f 5), .int .i64 (f 6), .int .i64 (f 7), s]
theorem ecs_sib (v : E) : ecs v = .string v.key :: sib9 v.f (.slice v.a v.l.length v.cap) := rfl
theorem ens_set {w V : World} {g cap : Nat} {xs : List E} (h : OwnG 37 10 ecs w (some ⟨g, 0, none⟩) cap xs) {n : Nat} {x v : E} (hx : xs[n]? = some x) (hk : v.key = x.key)
    (hV : ∀ o, V.cell? ⟨g, o, none⟩ = (wrs g (n * 10 + 1) (sib9 v.f (.slice v.a v.l.length v.cap)) w).cell? ⟨g, o, none⟩) (hr : ∀ e ∈ xs, Row V e.a e.cap e.l) (hv : Row V v.a v.cap v.l) : Ens V (some ⟨g, 0, none⟩) cap (xs.set n v) := by
  have hb : xs.length ≤ cap ∧ cap ≤ 9223372036854775807 := by
    rcases h.row.2 with ⟨hv, h0⟩ | ⟨g, c, cur, hv, hb, hh, hc, hm, -⟩
    · simp only [Value.slice.injEq] at hv
      omega
    · simp only [Value.slice.injEq] at hv
      unfold maxLen at hm
      omega
  have hlt : n < xs.length := by
    obtain ⟨h, -⟩ := List.getElem?_eq_some_iff.1 hx
    exact h
  refine ⟨by rw [List.length_set]; exact hb.1, hb.2, fun i e hi => ?_⟩
  by_cases hin : i = n
  · subst hin
    rw [List.getElem?_set_self hlt] at hi
    cases hi
    obtain ⟨g', eg, h1⟩ := h.at_ ecs_len hx
    simp only [Option.some.injEq, Addr.mk.injEq, and_true] at eg
    subst eg
    refine ⟨g, 0, rfl, fun j u hj => ?_, hv⟩
    rw [Nat.zero_add, hV]
    rw [ecs_sib] at hj
    cases j with
    | zero =>
      rw [wrs_out (fun _ => .inl (by simp)), h1 0 _ rfl, ← hk]
      simpa using hj
    | succ j =>
      rw [show i * 10 + (j + 1) = i * 10 + 1 + j by omega]
      refine wrs_in (fun r hr => ?_) j u (by simpa using hj)
      have hr' : r < 9 := hr
      have hl : r + 1 < (ecs x).length := by rw [ecs_len]; omega
      exact ⟨_, by rw [show i * 10 + 1 + r = i * 10 + (r + 1) by omega]; exact h1 (r + 1) _ (List.getElem?_eq_getElem hl)⟩
  · rw [List.getElem?_set_ne (fun e => hin e.symm)] at hi
    obtain ⟨g', eg, h1⟩ := h.at_ ecs_len hi
    simp only [Option.some.injEq, Addr.mk.injEq, and_true] at eg
    subst eg
    refine ⟨g, 0, rfl, fun j u hj => ?_, hr e (List.mem_of_getElem? hi)⟩
    have hj' : j < 10 := by
      obtain ⟨h, -⟩ := List.getElem?_eq_some_iff.1 hj
      rwa [ecs_len] at h
    rw [Nat.zero_add, hV, wrs_out (fun _ => ?_), h1 j u hj]
    show _ < _ ∨ n * 10 + 1 + 9 ≤ _
    simp only
    omega
section
variable {α : Type} (key : α → ByteArray)
theorem sor_keys {t : List α} : Sor id (t.map key) ↔ Sor key t := map_sor (key := key) (key' := id) (fun _ => rfl)
theorem sor_at {t : List α} (h : Sor key t) {i j : Nat} {x y : α} (hx : t[i]? = some x) (hy : t[j]? = some y) (hij : i ≠ j) : key x ≠ key y := by
  obtain ⟨hi, ex⟩ := List.getElem?_eq_some_iff.1 hx
  obtain ⟨hj, ey⟩ := List.getElem?_eq_some_iff.1 hy
  have hp := List.pairwise_iff_getElem.1 h
  rcases Nat.lt_or_gt_of_ne hij with hl | hl
  · have := hp i j hi hj hl
    rw [ex, ey] at this
    exact blt_ne this
  · have := hp j i hj hi hl
    rw [ex, ey] at this
    exact (blt_ne this).symm
theorem sor_set {t : List α} (h : Sor key t) {n : Nat} {x v : α} (hx : t[n]? = some x) (hk : key v = key x) : Sor key (t.set n v) := by
  rw [← sor_keys] at h ⊢
  have : (t.set n v).map key = t.map key := by
    rw [List.map_set, hk]
    apply List.ext_getElem?
    intro i
    by_cases hin : n = i
    · subst hin
      obtain ⟨hl, -⟩ := List.getElem?_eq_some_iff.1 hx
      rw [List.getElem?_set_self (by rw [List.length_map]; exact hl), List.getElem?_map, hx]
      rfl
    · rw [List.getElem?_set_ne hin]
  rw [this]
  exact h
theorem set_put {t : List α} (h : Sor key t) {n : Nat} {x v : α} (hx : t[n]? = some x) (hk : key v = key x) : t.set n v = putG key v t := by
  obtain ⟨hl, -⟩ := List.getElem?_eq_some_iff.1 hx
  refine sor_ext key (sor_set key h hx hk) (sor_putG key h) (fun z => ?_)
  rw [mem_putG]
  constructor
  · intro hz
    obtain ⟨i, hi⟩ := List.getElem?_of_mem hz
    by_cases hin : n = i
    · subst hin
      rw [List.getElem?_set_self hl] at hi
      cases hi
      exact .inl rfl
    · rw [List.getElem?_set_ne hin] at hi
      exact .inr ⟨List.mem_of_getElem? hi, by rw [hk]; exact sor_at key h hi hx (fun e => hin e.symm)⟩
  · rintro (rfl | ⟨hz, hne⟩)
    · exact List.mem_of_getElem? (List.getElem?_set_self hl)
    · obtain ⟨i, hi⟩ := List.getElem?_of_mem hz
      have hin : n ≠ i := fun e => by
        subst e
        rw [hx] at hi
        cases hi
        exact hne hk.symm
      exact List.mem_of_getElem? (i := i) (by rw [List.getElem?_set_ne hin]; exact hi)
theorem ins_put {t : List α} (h : Sor key t) {m : Nat} {v : α} (hm : m ≤ t.length) (hlo : ∀ i x, i < m → t[i]? = some x → blt (key x) (key v) = true) (hhi : ∀ i x, m ≤ i → t[i]? = some x → blt (key v) (key x) = true) : t.take m ++ v :: t.drop m = putG key v t := by
  have hne : ∀ x ∈ t, key x ≠ key v := by
    intro x hx
    obtain ⟨i, hi⟩ := List.getElem?_of_mem hx
    by_cases hl : i < m
    · exact blt_ne (hlo i x hl hi)
    · exact (blt_ne (hhi i x (by omega) hi)).symm
  have h1 : ∀ x ∈ t.take m, blt (key x) (key v) = true := by
    intro x hx
    obtain ⟨i, hi⟩ := List.getElem?_of_mem hx
    obtain ⟨hl, -⟩ := List.getElem?_eq_some_iff.1 hi
    rw [List.length_take] at hl
    rw [List.getElem?_take_of_lt (by omega)] at hi
    exact hlo i x (by omega) hi
  have h2 : ∀ x ∈ t.drop m, blt (key v) (key x) = true := by
    intro x hx
    obtain ⟨i, hi⟩ := List.getElem?_of_mem hx
    rw [List.getElem?_drop] at hi
    exact hhi _ x (by omega) hi
  have hsp : t.take m ++ t.drop m = t := List.take_append_drop m t
  refine sor_ext key ?_ (sor_putG key h) (fun z => ?_)
  · have hh := h
    unfold Sor at hh ⊢
    rw [← hsp, List.pairwise_append] at hh
    rw [List.pairwise_append, List.pairwise_cons]
    refine ⟨hh.1, ⟨h2, hh.2.1⟩, fun a ha b hb => ?_⟩
    rcases List.mem_cons.1 hb with rfl | hb
    · exact h1 a ha
    · exact hh.2.2 a ha b hb
  · rw [mem_putG, List.mem_append, List.mem_cons]
    constructor
    · rintro (h | h | h)
      · exact .inr ⟨List.mem_of_mem_take h, hne z (List.mem_of_mem_take h)⟩
      · exact .inl h
      · exact .inr ⟨List.mem_of_mem_drop h, hne z (List.mem_of_mem_drop h)⟩
    · rintro (rfl | ⟨hz, -⟩)
      · exact .inr (.inl rfl)
      · rw [← hsp, List.mem_append] at hz
        rcases hz with h | h
        · exact .inl h
        · exact .inr (.inr h)
end
theorem RTab.set {q : Nat} {xs : List E} {w V : World} (h : RTab q xs w) (o : Off (fun _ => False) w V) {g cap : Nat} {ys : List E} (he : Ens V (some ⟨g, 0, none⟩) cap ys) (hs : Sor E.key ys) (hf : ys.length ≤ 256) : RTab q ys (V.setCell ⟨q, 0, none⟩ (.slice (some ⟨g, 0, none⟩) ys.length cap)) ∧ Off (fun c => c = q) w (V.setCell ⟨q, 0, none⟩ (.slice (some ⟨g, 0, none⟩) ys.length cap)) := by
  have hv := h.free o
  obtain ⟨a, c, h1, -, -⟩ := hv.is
  have oq : Off (fun c => c = q) V (V.setCell ⟨q, 0, none⟩ (.slice (some ⟨g, 0, none⟩) ys.length cap)) := (Off.refl (fun c => c = q) V).setCell (p := ⟨q, 0, none⟩) (.inl rfl) _
  refine ⟨⟨⟨_, cap, h1.set 0 _, he.offD oq hv.noI, fun e => by cases e⟩, hs, hf⟩, (o.mono (fun _ _ h => h.elim)).trans oq (fun _ _ h => h)⟩
/-- What stands while the reference's table is written: all but q; q holds a slice. -/
structure StS (q : Nat) (V w : World) : Prop where
  off : Off (fun c => c = q) V w
  cel : ∃ a n c, Cel q 30 #[.slice a n c] w
theorem StS.step {q : Nat} {V v v' : World} {D : Nat → Prop} (h : StS q V v) (o : Off D v v') (hD : ∀ c, D c → V.heap.size ≤ c) (hq : q < V.heap.size) : StS q V v' := by
  obtain ⟨a, n, c, hc⟩ := h.cel
  exact ⟨(h.off.mono (E := fun c => c = q ∨ D c) (fun _ _ e => .inl e)).trans (o.mono (E := fun c => c = q ∨ D c) (fun _ _ e => .inr e)) (fun _ _ e => e) |>.mono (fun i hi e => e.elim id (fun hd => by have := hD i hd; omega)), a, n, c, hc.off o (fun hd => by have := hD q hd; omega)⟩
theorem StS.free {q : Nat} {V v v' : World} (h : StS q V v) (o : Off (fun _ => False) v v') (hq : q < V.heap.size) : StS q V v' := h.step o (fun _ h => h.elim) hq
theorem StS.put {q : Nat} {V v : World} (h : StS q V v) (a : Option Addr) (n c : Nat) : StS q V (v.setCell ⟨q, 0, none⟩ (.slice a n c)) := by
  obtain ⟨a0, n0, c0, hc⟩ := h.cel
  exact ⟨h.off.setCell (p := ⟨q, 0, none⟩) (.inl rfl) _, a, n, c, hc.set 0 _⟩
theorem sizeE (W : World) : (sizeOf (Try.prog.elem 22)).run Try.prog W = .ok 10 W := by
  have : Try.prog.elem 22 = 37 := by kernel_rfl
  rw [this]
  obtain ⟨i0, hi, hz0, hz1, hz2⟩ := info_parts Try.infoE
  simp [sizeOf, typeInfo, hi, hz1]
theorem Ens.slh {w : World} {a : Option Addr} {cap : Nat} {l : List E} (h : Ens w a cap l) {k : Nat} (hk : k ≤ l.length) :
    (∀ W, (Instr.slice 22 (.slice a l.length cap) none (some (.int .i64 (k : Int))) none).run Try.prog W = .ok (.slice a (l.take k).length cap) W) ∧ Ens w a cap (l.take k) := by
  have hc := h.len
  have hb := h.bound
  refine ⟨fun W => ?_, ⟨by simp; omega, hb, fun i v hi => ?_⟩⟩
  · rw [run_slice_h (P := Try.prog) (t := 22) (ht := by kernel_rfl) (h0 := by omega) (h2 := by omega), sizeE]
    have e : (l.take k).length = k := by simp; omega
    rw [e]
    cases a <;> simp [Result.andThen, sliced, add_zero5]
  · refine h.at_ i v ?_
    rw [List.getElem?_take] at hi
    split at hi
    · exact hi
    · simp at hi
theorem Ens.sll {w : World} {a : Option Addr} {cap : Nat} {l : List E} (h : Ens w a cap l) (hz : a = none → cap = 0) {k : Nat} (hk : k ≤ l.length) :
    ∃ a', (∀ W, (Instr.slice 22 (.slice a l.length cap) (some (.int .i64 (k : Int))) none none).run Try.prog W = .ok (.slice a' (l.drop k).length (cap - k)) W) ∧ Ens w a' (cap - k) (l.drop k) ∧ (a' = none → cap - k = 0) := by
  have hc := h.len
  have hb := h.bound
  refine ⟨if cap = k then a else a.map (·.add (k * 10)), fun W => ?_, ⟨by simp; omega, by omega, fun i v hi => ?_⟩, fun e => ?_⟩
  · rw [run_slice_l (P := Try.prog) (t := 22) (ht := by kernel_rfl) (h0 := by omega) (h1 := by omega), sizeE]
    simp [Result.andThen, sliced]
  · obtain ⟨b, off, rfl, h1, h2⟩ := h.at_ (k + i) v (by simpa using hi)
    have hl : k + i < l.length := by
      obtain ⟨h, -⟩ := List.getElem?_eq_some_iff.1 hi
      simp at h
      omega
    rw [if_neg (by omega)]
    refine ⟨b, off + k * 10, by simp [add_lit], fun j u hj => ?_, h2⟩
    rw [show off + k * 10 + i * 10 = off + (k + i) * 10 by omega]
    exact h1 j u hj
  · split at e
    · omega
    · rw [Option.map_eq_none_iff] at e
      have := hz e
      omega
theorem ens_one {b : Nat} {v : E} {w : World} (h : ∀ j u, (ecs v)[j]? = some u → w.cell? ⟨b, 0 + j, none⟩ = some u) (hv : Row w v.a v.cap v.l) : Ens w (some ⟨b, 0, none⟩) 1 [v] := by
  refine ⟨by simp, by omega, fun i u hi => ?_⟩
  match i, hi with
  | 0, hi =>
    simp at hi
    subst hi
    exact ⟨b, 0, rfl, h, hv⟩
theorem cel_ens {b : Nat} {v : E} {w : World} (h : Cel b 37 #[.string v.key, .int .i64 (v.f 0), .int .i64 (v.f 1), .int .i64 (v.f 2), .int .i64 (v.f 3), .int .i64 (v.f 4), .int .i64 (v.f 5), .int .i64 (v.f 6), .int .i64 (v.f 7), .slice v.a v.l.length v.cap] w) (hv : Row w v.a v.cap v.l) : Ens w (some ⟨b, 0, none⟩) 1 [v] :=
  ens_one (fun j u hj => by
    rw [Nat.zero_add, h.cell j, ← hj, List.getElem?_toArray]
    rfl) hv
theorem lss_str {a b : ByteArray} {r : Bool} (h : Op.bytesLess a.toList b.toList = r) (t : TypeId) (w : World) : (binOp .lss t (.string a) (.string b)).run Try.prog w = .ok (.bool r) w := by
  simp [binOp, Op.stringOp, h]
theorem blt_no {a b : ByteArray} (h : blt a b = false) (hne : a ≠ b) : blt b a = true := by
  rcases blt_tot hne with e | e
  · rw [h] at e
    cases e
  · exact e
theorem up_all {xs : List E} (hs : Sor E.key xs) {k : ByteArray} {m : Nat} {x : E} (hx : xs[m]? = some x) (hb : blt k x.key = true) : ∀ i z, m ≤ i → xs[i]? = some z → blt k z.key = true := by
  intro i z hi hz
  by_cases e : i = m
  · subst e
    rw [hx] at hz
    cases hz
    exact hb
  · obtain ⟨l1, e1⟩ := List.getElem?_eq_some_iff.1 hx
    obtain ⟨l2, e2⟩ := List.getElem?_eq_some_iff.1 hz
    have := List.pairwise_iff_getElem.1 hs m i l1 l2 (by omega)
    rw [e1, e2] at this
    exact blt_trans hb this
end Go.Proofs.Ytbagahlphnafdaa
