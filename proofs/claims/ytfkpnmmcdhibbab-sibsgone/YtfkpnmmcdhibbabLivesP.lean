/- What lives and what does not, as data. -/
import Derived.Test.YtfkpnmmcdhibbabDot5
namespace Go.Proofs.Ytfkpnmmcdhibbab
open Go.RowKit

def deadN (l : List A) : Nat := (l.filter fun x => x.dead).length
theorem live_dead (l : List A) : (liveA l).length + deadN l = l.length := by
  induction l with
  | nil => rfl
  | cons x l ih =>
    unfold liveA deadN at *
    cases hd : x.dead <;> simp [hd] at * <;> omega
theorem dead_step {l : List V} {n : Nat} {v : V} (h : l[n]? = some v) : deadN (cont (l.take (n + 1))) = deadN (cont (l.take n)) + (if v.dead then 1 else 0) := by
  have : l.take (n + 1) = l.take n ++ [v] := by rw [List.take_add_one, h]; rfl
  rw [this, cont_append]
  cases hd : v.dead <;> simp [deadN, cont, V.abs, hd]
theorem dead_le (l : List A) : deadN l ≤ l.length := List.length_filter_le _ _
theorem dead_lt {l : List A} : deadN l < l.length ↔ anyA l = true := by
  have h := live_dead l
  have e : (liveA l).length = 0 ↔ anyA l = false := by
    simp [liveA, anyA]
  cases ha : anyA l
  · have := e.2 ha
    simp
    omega
  · simp
    have : ¬ (liveA l).length = 0 := fun h0 => by rw [e.1 h0] at ha; cases ha
    omega
theorem reap_yes {f : Nat → Int} {l : List A} (h : MayP f l) (ha : anyA l = true) : reapL f l = l := by simp [reapL, may_yes h, ha]
theorem reap_no {f : Nat → Int} {l : List A} (ha : anyA l = false) : reapL f l = [] := by simp [reapL, ha]
theorem reap_v {f : Nat → Int} {l : List A} (h : MayP f l) : reapV f l = f := by simp [reapV, may_yes h]
theorem reap_may {f : Nat → Int} {l : List A} (h : MayP f l) : MayP f (reapL f l) := by
  cases ha : anyA l
  · rw [reap_no ha]
    exact may_none h.seen
  · rw [reap_yes h ha]
    exact h
theorem reap_again {f : Nat → Int} {l : List A} (h : MayP f l) : reapL f (reapL f l) = reapL f l := by
  cases ha : anyA l
  · rw [reap_no ha, reap_no (by rfl)]
  · rw [reap_yes h ha, reap_yes h ha]
theorem reap_live {f : Nat → Int} {l : List A} (h : MayP f l) : liveA (reapL f l) = liveA l := by
  cases ha : anyA l
  · rw [reap_no ha]
    have h1 := live_dead l
    have h2 : ¬ deadN l < l.length := fun h3 => by rw [dead_lt.1 h3] at ha; cases ha
    have h3 := dead_le l
    have : (liveA l).length = 0 := by omega
    rw [List.eq_nil_of_length_eq_zero this]
    rfl
  · rw [reap_yes h ha]
theorem same_refl (f : Nat → Int) (l : List A) : sameS f f l l = true := same_iff.2 ⟨fun _ _ => rfl, rfl⟩
theorem neq_vec (f g : Nat → Int) (W : World) : (binOp .neq 23 (.agg #[.int .i64 (f 0), .int .i64 (f 1), .int .i64 (f 2), .int .i64 (f 3), .int .i64 (f 4), .int .i64 (f 5), .int .i64 (f 6), .int .i64 (f 7)]) (.agg #[.int .i64 (g 0), .int .i64 (g 1), .int .i64 (g 2), .int .i64 (g 3), .int .i64 (g 4), .int .i64 (g 5), .int .i64 (g 6), .int .i64 (g 7)])).run Try.prog W = .ok (.bool (!eqB f g)) W := by
  have h := eql_vec f g W
  have h1 : binOp .eql 23 (.agg #[.int .i64 (f 0), .int .i64 (f 1), .int .i64 (f 2), .int .i64 (f 3), .int .i64 (f 4), .int .i64 (f 5), .int .i64 (f 6), .int .i64 (f 7)]) (.agg #[.int .i64 (g 0), .int .i64 (g 1), .int .i64 (g 2), .int .i64 (g 3), .int .i64 (g 4), .int .i64 (g 5), .int .i64 (g 6), .int .i64 (g 7)]) = (do pure (.bool (← Op.equal 23 (.agg #[.int .i64 (f 0), .int .i64 (f 1), .int .i64 (f 2), .int .i64 (f 3), .int .i64 (f 4), .int .i64 (f 5), .int .i64 (f 6), .int .i64 (f 7)]) (.agg #[.int .i64 (g 0), .int .i64 (g 1), .int .i64 (g 2), .int .i64 (g 3), .int .i64 (g 4), .int .i64 (g 5), .int .i64 (g 6), .int .i64 (g 7)])))) := rfl
  have h2 : binOp .neq 23 (.agg #[.int .i64 (f 0), .int .i64 (f 1), .int .i64 (f 2), .int .i64 (f 3), .int .i64 (f 4), .int .i64 (f 5), .int .i64 (f 6), .int .i64 (f 7)]) (.agg #[.int .i64 (g 0), .int .i64 (g 1), .int .i64 (g 2), .int .i64 (g 3), .int .i64 (g 4), .int .i64 (g 5), .int .i64 (g 6), .int .i64 (g 7)]) = (do pure (.bool (!(← Op.equal 23 (.agg #[.int .i64 (f 0), .int .i64 (f 1), .int .i64 (f 2), .int .i64 (f 3), .int .i64 (f 4), .int .i64 (f 5), .int .i64 (f 6), .int .i64 (f 7)]) (.agg #[.int .i64 (g 0), .int .i64 (g 1), .int .i64 (g 2), .int .i64 (g 3), .int .i64 (g 4), .int .i64 (g 5), .int .i64 (g 6), .int .i64 (g 7)]))))) := rfl
  rw [h1, Sem.run_bind] at h
  rw [h2, Sem.run_bind]
  generalize (Op.equal 23 (.agg #[.int .i64 (f 0), .int .i64 (f 1), .int .i64 (f 2), .int .i64 (f 3), .int .i64 (f 4), .int .i64 (f 5), .int .i64 (f 6), .int .i64 (f 7)]) (.agg #[.int .i64 (g 0), .int .i64 (g 1), .int .i64 (g 2), .int .i64 (g 3), .int .i64 (g 4), .int .i64 (g 5), .int .i64 (g 6), .int .i64 (g 7)])).run Try.prog W = r at h ⊢
  cases r with
  | ok b w' =>
    simp only [Result.andThen_ok, Sem.run_pure, Result.ok.injEq, Value.bool.injEq] at h
    obtain ⟨rfl, rfl⟩ := h
    rfl
  | halt => simp [Result.andThen] at h
theorem eqB_refl (f : Nat → Int) : eqB f f = true := by simp [eqB]
end Go.Proofs.Ytfkpnmmcdhibbab
