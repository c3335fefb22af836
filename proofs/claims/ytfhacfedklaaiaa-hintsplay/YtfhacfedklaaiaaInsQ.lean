/- A row that a call makes, value by value; the row of the reference's Put. -/
import Derived.Test.YtfhacfedklaaiaaInsP
namespace Go.Proofs.Ytfhacfedklaaiaa
open Go.RowKit

/-- 'append(s, x...)' of bytes, s the call's own, as a run. -/
theorem app_run {w : World} {tad : Option Addr} {cap : Nat} {bs : List Nat} (hown : OwnR w tad cap bs) {xt : Option Addr} {xc : Nat} {xs : List Nat} (hsrc : Src w xt xc xs) (hb : bs.length + xs.length ≤ 140737488355328) (ty : TypeId) :
    ∃ t' c' w', (Builtin.append_ #[56, 56] ty #[.slice tad bs.length cap, .slice xt xs.length xc]).run Try.prog w = .ok (.slice t' (bs ++ xs).length c') w' ∧ OwnR w' t' c' (bs ++ xs) ∧ Off (fun c => blk tad = some c) w w' ∧ (blk t' = blk tad ∨ blk t' = some w.heap.size) := by
  obtain ⟨i0, hi, hz0, hz1, hz2⟩ := info_parts Try.infoB
  rcases hsrc.is with ⟨rfl, rfl, rfl⟩ | ⟨ad, rfl, hc⟩
  · refine ⟨tad, cap, w, ?_, by rw [List.append_nil]; exact hown, Off.refl _ w, .inl rfl⟩
    rw [List.append_nil]
    exact run_append_owned_none (P := Try.prog) (w := w) 0 56 ty 5 i0 1 Try.underlying56 hi _ _ _ hown.row
  · obtain ⟨v', w', hr, own', grow', -, hat⟩ := run_append_own_at (P := Try.prog) w 0 56 ty 5 i0 (.int .u8 0) 1 1 Try.underlying56 hi hz0 hz1 hz2 rfl (by decide) _ _ _ hown.row ad xs.length xc (vl xs) (by simp [vl_len]) hc (vl_one xs) (by unfold maxLen; omega) (by omega) (Nat.zero_le _)
    rw [← vl_append, ← List.length_append] at own'
    obtain ⟨t', c', rfl⟩ : ∃ t' c', v' = .slice t' (bs ++ xs).length c' := by
      rcases own'.2 with ⟨rfl, h0⟩ | ⟨g, c, cur, hv, -⟩
      · exact ⟨none, 0, by rw [h0]⟩
      · exact ⟨_, _, hv⟩
    rw [blk_own, blk_own] at hat
    rw [blk_own] at grow'
    exact ⟨t', c', w', hr, ⟨own'⟩, (Off.refl _ w).grown grow' (fun k hk => .inl hk), hat⟩

/-- A row that was made since N, and its values' bytes. -/
structure Mk (N : Nat) (w : World) (a : Option Addr) (c : Nat) (l : List V) : Prop where
  own : OwnV w a c l
  lo : ∀ k, blk a = some k → N ≤ k
  val : ∀ v ∈ l, VOk w v ∧ ∀ k, blk v.ad = some k → N ≤ k ∧ k < w.heap.size ∧ blk a ≠ some k
theorem Mk.nil (N : Nat) (w : World) : Mk N w none 0 [] := ⟨OwnV.nil w, fun k hk => by simp [blk] at hk, fun v hv => by simp at hv⟩
theorem Mk.off {D : Nat → Prop} {N : Nat} {w w' : World} {a : Option Addr} {c : Nat} {l : List V} (h : Mk N w a c l) (o : Off D w w') (hD : ∀ k, N ≤ k → k < w.heap.size → ¬ D k) : Mk N w' a c l :=
  ⟨h.own.off o (fun k hk => hD k (h.lo k hk) (h.own.lt k hk)), h.lo, fun v hv => ⟨(h.val v hv).1.off o (fun k _ hk => hD k ((h.val v hv).2 k hk).1 ((h.val v hv).2 k hk).2.1), fun k hk => ⟨((h.val v hv).2 k hk).1, Nat.lt_of_lt_of_le ((h.val v hv).2 k hk).2.1 o.size, ((h.val v hv).2 k hk).2.2⟩⟩⟩
theorem Mk.free {N : Nat} {w w' : World} {a : Option Addr} {c : Nat} {l : List V} (h : Mk N w a c l) (o : Off (fun _ => False) w w') : Mk N w' a c l := h.off o (fun _ _ _ h => h)
theorem Mk.row {N : Nat} {w : World} {a : Option Addr} {c : Nat} {l : List V} (h : Mk N w a c l) : Row w a c l := h.own.toRow (fun v hv => (h.val v hv).1)
/-- Behind an append of one. -/
theorem Mk.snoc {N : Nat} {w w' : World} {a a' : Option Addr} {c c' : Nat} {l : List V} {u : V} (h : Mk N w a c l) (hN : N ≤ w.heap.size) (hu : VOk w u) (hk : ∀ k, blk u.ad = some k → N ≤ k ∧ k < w.heap.size ∧ blk a ≠ some k)
    (own : OwnV w' a' c' (l ++ [u])) (o : Off (fun k => blk a = some k) w w') (hat : blk a' = blk a ∨ blk a' = some w.heap.size) : Mk N w' a' c' (l ++ [u]) := by
  have far : ∀ k, k < w.heap.size → blk a ≠ some k → blk a' ≠ some k := fun k h1 h2 e => by
    rcases hat with h | h
    · exact h2 (h ▸ e)
    · rw [h] at e
      simp at e
      omega
  refine ⟨own, fun k hk => ?_, fun v hv => ?_⟩
  · rcases hat with e | e
    · exact h.lo k (e ▸ hk)
    · rw [e] at hk
      simp at hk
      omega
  · rw [List.mem_append, List.mem_singleton] at hv
    rcases hv with hv | rfl
    · have hx := h.val v hv
      exact ⟨hx.1.off o (fun k _ hk => (hx.2 k hk).2.2), fun k hk => ⟨(hx.2 k hk).1, Nat.lt_of_lt_of_le (hx.2 k hk).2.1 o.size, far k (hx.2 k hk).2.1 (hx.2 k hk).2.2⟩⟩
    · exact ⟨hu.off o (fun k _ h => (hk k h).2.2), fun k h => ⟨(hk k h).1, Nat.lt_of_lt_of_le (hk k h).2.1 o.size, far k (hk k h).2.1 (hk k h).2.2⟩⟩
/-- Behind an insert. -/
theorem Mk.ins {N : Nat} {w w' : World} {a a' : Option Addr} {c c' : Nat} {l : List V} {u : V} {m : Nat} (h : Mk N w a c l) (hN : N ≤ w.heap.size) (hu : VOk w u) (hk : ∀ k, blk u.ad = some k → N ≤ k ∧ k < w.heap.size)
    (own : OwnV w' a' c' (l.take m ++ u :: l.drop m)) (o : Off (fun _ => False) w w') (hat : ∀ k, blk a' = some k → w.heap.size ≤ k) : Mk N w' a' c' (l.take m ++ u :: l.drop m) := by
  refine ⟨own, fun k hk => Nat.le_trans hN (hat k hk), fun v hv => ?_⟩
  have far : ∀ k, k < w.heap.size → blk a' ≠ some k := fun k h1 e => by
    have := hat k e
    omega
  rw [ins_mem] at hv
  rcases hv with rfl | hv
  · exact ⟨hu.off o (fun _ _ _ h => h), fun k h => ⟨(hk k h).1, Nat.lt_of_lt_of_le (hk k h).2 o.size, far k (hk k h).2⟩⟩
  · have hx := h.val v hv
    exact ⟨hx.1.off o (fun _ _ _ h => h), fun k h => ⟨(hx.2 k h).1, Nat.lt_of_lt_of_le (hx.2 k h).2.1 o.size, far k (hx.2 k h).2.1⟩⟩

theorem srt_filter {l : List A} (h : Srt l) (p : A → Bool) : Srt (l.filter p) := List.Pairwise.sublist List.filter_sublist h
/-- Put's row, made by an insert. -/
theorem put_ins {f g : Nat → Int} {l : List A} {k : Nat} {node : Int} {data : List Nat} {dead : Bool} {n N : Int} (h1 : MayP f l) (hx : nextV (maxV f g) node = (n, N, 0))
    (h2 : ∀ z ∈ (l.filter (nc g)).take k, LT z ⟨n, N, data, dead⟩) (h3 : ∀ y, (l.filter (nc g))[k]? = some y → ¬ LT y ⟨n, N, data, dead⟩) :
    (l.filter (nc g)).take k ++ (⟨n, N, data, dead⟩ : A) :: (l.filter (nc g)).drop k = putR f g l node data dead := by
  have hr : putR f g l node data dead = mergeA (nc g) (nc (maxV f g)) l [⟨n, N, data, dead⟩] := by simp only [putR, putN, hx]
  have hnew := not_cov_next hx
  have hnf : coversB f n N = false := by
    cases hc : coversB f n N
    · rfl
    · have : coversB (maxV f g) n N = true := cov_max.2 (.inl hc)
      rw [hnew] at this
      cases this
  have hne : ∀ x ∈ l, ¬ EQ x (⟨n, N, data, dead⟩ : A) := fun x hx e => by
    have := cov_dot e (h1.cov x hx).1
    simp only [hnf] at this
    cases this
  have hs := may_srt h1
  have hs1 : Srt [(⟨n, N, data, dead⟩ : A)] := by simp [Srt]
  rw [hr]
  refine srt_ext (ins_srt (srt_filter hs _) h2 h3 (fun y hy => hne y ((List.mem_filter.1 hy).1))) (srt_merge _ _ _ _ hs hs1) (fun z => ?_)
  rw [ins_mem, mem_merge _ _ _ _ hs hs1]
  have hq : nc (maxV f g) (⟨n, N, data, dead⟩ : A) = true := by simp [nc, hnew]
  unfold InM
  simp only [List.mem_singleton, List.mem_filter, exists_eq_left, forall_eq]
  constructor
  · rintro (rfl | ⟨hz, hp⟩)
    · exact .inr (.inr ⟨rfl, hq, hne⟩)
    · exact .inr (.inl ⟨hz, hp, hne z hz⟩)
  · rintro (⟨x, hx, e, -⟩ | ⟨hz, hp, -⟩ | ⟨rfl, -, -⟩)
    · exact absurd e (hne x hx)
    · exact .inr ⟨hz, hp⟩
    · exact .inl rfl
theorem putE_node {f g : Nat → Int} {l : List A} {node : Int} {data : List Nat} {dead : Bool} (h : nodeB node = false) : putE f g l node data dead = 1 := by
  have e : (nextV (maxV f g) node).2.2 = 1 := by simp [nextV, h]
  unfold putE
  rw [e]
  simp
end Go.Proofs.Ytfhacfedklaaiaa
