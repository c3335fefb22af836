/- The walk of TableBuckets. -/
import Derived.Test.YtmeclfgehpbjlaaJns
import Derived.Test.YtmeclfgehpbjlaaArg10
import Derived.Deep.Cut
namespace Go.Proofs.Ytmeclfgehpbjlaa
open Go.RowKit

/-- How many keys lie in the buckets below. -/
def cum (X : List K) (n : Nat) : Nat := (X.filter fun e => decide (bkt (tx e.key) < n)).length
theorem cum_zero (X : List K) : cum X 0 = 0 := by
  unfold cum
  rw [List.filter_eq_nil_iff.2 (fun x _ => by simp)]
  rfl
theorem cum_le (X : List K) (n : Nat) : cum X n ≤ X.length := List.length_filter_le _ _
theorem cum_four (X : List K) : cum X 4 = X.length := by
  unfold cum
  rw [List.filter_eq_self.2 (fun x _ => decide_eq_true (bkt_lt _))]
theorem cum_step : ∀ (X : List K) (n : Nat), cum X (n + 1) = cum X n + (X.filter fun e => decide (((bkt (tx e.key) : Nat) : Int) = (n : Int))).length
  | [], n => rfl
  | x :: X, n => by
    have ih := cum_step X n
    unfold cum at ih ⊢
    rw [List.filter_cons, List.filter_cons, List.filter_cons]
    by_cases h1 : bkt (tx x.key) < n
    · have h2 : ¬ ((bkt (tx x.key) : Nat) : Int) = (n : Int) := by omega
      rw [if_pos (decide_eq_true (by omega)), if_pos (decide_eq_true h1), if_neg (by simp [h2])]
      simp only [List.length_cons]
      omega
    · by_cases h2 : bkt (tx x.key) = n
      · rw [if_pos (decide_eq_true (by omega)), if_neg (by simp [h1]), if_pos (decide_eq_true (by rw [h2]))]
        simp only [List.length_cons]
        omega
      · have h3 : ¬ ((bkt (tx x.key) : Nat) : Int) = (n : Int) := by omega
        rw [if_neg (by simp; omega), if_neg (by simp [h1]), if_neg (by simp [h3])]
        exact ih
theorem less_kb (a b : ByteArray) : Op.bytesLess a.toList b.toList = blt a b := by
  rw [toL, toL]
  unfold blt kb
  generalize a.data.toList = x
  generalize b.data.toList = y
  induction x generalizing y with
  | nil => cases y <;> rfl
  | cons c x ih =>
    cases y with
    | nil => rfl
    | cons d y =>
      show (_ || _) = (_ || _)
      rw [ih]
theorem geq_str {a b : ByteArray} (h : Op.bytesLess a.toList b.toList = true) (t : TypeId) (w : World) : (binOp .geq t (.string a) (.string b)).run Try.prog w = .ok (.bool false) w := by
  simp [binOp, Op.stringOp, h]
theorem rise {X : List K} (hs : Sor K.key X) {f : K → Bool} {rs r2 : List E} (h : absE rs = X.filter f) (he : absE r2 = absE rs) {i : Nat} {x y : E} (hy : r2[i - 1]? = some y) (hx : rs[i]? = some x) (hi : 0 < i) : blt y.key x.key = true := by
  have hs2 : Sor K.key (absE rs) := by rw [h]; exact List.Pairwise.sublist List.filter_sublist hs
  have h1 : (absE rs)[i]? = some x.abs := by simp [absE, hx]
  have h2 : (absE rs)[i - 1]? = some y.abs := by rw [← he]; simp [absE, hy]
  obtain ⟨l1, e1⟩ := List.getElem?_eq_some_iff.1 h1
  obtain ⟨l2, e2⟩ := List.getElem?_eq_some_iff.1 h2
  have := List.pairwise_iff_getElem.1 hs2 (i - 1) i l2 l1 (by omega)
  rw [e1, e2] at this
  exact this
theorem exec_bin10 {P : Program} {ρ : Operand → Value} {o : Oper} {op : BinOp} {t t2 : TypeId} {x y : Operand} {v : Value} {w : World} (ho : o.op = .binOp op t x y t2) (hg : (eqGuard op t x y (ρ x) (ρ y)).run P w = .ok () w) (h : (binOp op t (ρ x) (ρ y)).run P w = .ok v w) : Sem.run P (execOp ρ o) w = .ok (.value v) w := by
  have e : execOp ρ o = (do pure (.value (← (do eqGuard op t x y (ρ x) (ρ y); binOp op t (ρ x) (ρ y))))) := by unfold execOp; rw [ho]
  rw [e, Sem.run_bind, Sem.run_bind, hg]
  show (((binOp op t (ρ x) (ρ y)).run P w).andThen _) = _
  rw [h]
  rfl
end Go.Proofs.Ytmeclfgehpbjlaa
