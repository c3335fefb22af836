/- Items of several texts. -/
import Derived.Test.YtmjmgdbhmbjmaaaEOwn
namespace Go.Proofs.Ytmjmgdbhmbjmaaa
open Go.RowKit
def lessA (x y : A) : Bool := lessB x.node x.num y.node y.num
def nc (f : Nat → Int) (x : A) : Bool := !coversB f x.node x.num
def mergeIn (p q : A → Bool) (x : A) (xs : List A) (rest : List A → List A) : List A → List A
 | [] => (x :: xs).filter p
 | y :: ys => if lessA x y then keep (p x) x ++ rest (y :: ys) else if lessA y x then keep (q y) y ++ mergeIn p q x xs rest ys else firstA x y :: rest ys
def mergeA (p q : A → Bool) : List A → List A → List A
 | [], ys => ys.filter q
 | x :: xs, ys => mergeIn p q x xs (mergeA p q xs) ys
theorem mergeA_ind {motive : List A → List A → Prop} (case1 : ∀ ys, motive [] ys) (case2 : ∀ x xs, motive (x :: xs) []) (case3 : ∀ x xs y ys, lessA x y = true → motive xs (y :: ys) → motive (x :: xs) (y :: ys))
  (case4 : ∀ x xs y ys, ¬ lessA x y = true → lessA y x = true → motive (x :: xs) ys → motive (x :: xs) (y :: ys)) (case5 : ∀ x xs y ys, ¬ lessA x y = true → ¬ lessA y x = true → motive xs ys → motive (x :: xs) (y :: ys)) : ∀ xs ys, motive xs ys
 | [] => case1
 | x :: xs => by
  intro ys
  induction ys with
  | nil => exact case2 x xs
  | cons y ys ih =>
   by_cases h : lessA x y = true
   ·exact case3 x xs y ys h (mergeA_ind case1 case2 case3 case4 case5 xs (y :: ys))
   ·by_cases h2 : lessA y x = true
    ·exact case4 x xs y ys h h2 ih
    ·exact case5 x xs y ys h h2 (mergeA_ind case1 case2 case3 case4 case5 xs ys)
theorem mergeA_nil (p q : A → Bool) (xs ys : List A) (h : xs = [] ∨ ys = []) : mergeA p q xs ys = xs.filter p ++ ys.filter q := by
 rcases h with rfl | rfl
 ·simp [mergeA]
 ·cases xs with
  | nil => simp [mergeA]
  | cons x xs => simp [mergeA, mergeIn]
theorem mergeA_lt (p q : A → Bool) {x y : A} (xs ys : List A) (h : lessA x y = true) : mergeA p q (x :: xs) (y :: ys) = keep (p x) x ++ mergeA p q xs (y :: ys) := by simp [mergeA, mergeIn, h]
theorem mergeA_gt (p q : A → Bool) {x y : A} (xs ys : List A) (h : lessA x y = false) (h2 : lessA y x = true) : mergeA p q (x :: xs) (y :: ys) = keep (q y) y ++ mergeA p q (x :: xs) ys := by simp [mergeA, mergeIn, h, h2]
theorem mergeA_eq (p q : A → Bool) {x y : A} (xs ys : List A) (h : lessA x y = false) (h2 : lessA y x = false) : mergeA p q (x :: xs) (y :: ys) = firstA x y :: mergeA p q xs ys := by simp [mergeA, mergeIn, h, h2]
theorem cont_cons (v : V) (l : List V) : cont (v :: l) = v.abs :: cont l := rfl
theorem filter_step {p : A → Bool} {l : List V} {n : Nat} {v : V} (h : l[n]? = some v) : (cont (l.drop n)).filter p = keep (p v.abs) v.abs ++ (cont (l.drop (n + 1))).filter p := by
 obtain ⟨hn, e⟩ := List.getElem?_eq_some_iff.1 h
 rw [List.drop_eq_getElem_cons hn, e, cont_cons]
 cases hp : p v.abs <;> simp [keep, hp]
def slLen : Value → Nat
 | .slice _ n _ => n
 | _ => 0
theorem Row.tail' {w : World} {a : Option Addr} {cap : Nat} {v : V} {l l' : List V} (h : Row w a cap l) (e : l = v :: l') :
  ∃ a', (∀ W, (Instr.slice 31 (.slice a l.length cap) (some (.int .i64 1)) none none).run Try.prog W = .ok (.slice a' l'.length (cap - 1)) W) ∧ Row w a' (cap - 1) l' := by
 subst e
 obtain ⟨a', h1, h2, -⟩ := h.tail
 exact ⟨a', h1, h2⟩
theorem Row.head {w : World} {a : Option Addr} {cap : Nat} {v : V} {l l' : List V} (h : Row w a cap l) (e : l = v :: l') : ∃ b o, a = some ⟨b, o, none⟩ ∧ At4 w b o v ∧ VOk w v := by
 obtain ⟨b, o, e1, h1, h2⟩ := h.at_ 0 v (by simp [e])
 exact ⟨b, o, e1, by simpa using h1, h2⟩
theorem Out.drew {N M B : Nat} {l : List V} {w : World} (h : Out N M B l w) : Out N M B l w.drew := h.off (Off.refl _ w).drew
theorem nil_or {l : List V} : l = [] ∨ ∃ v l', l = v :: l' := by cases l <;> simp
theorem test_pos {l : List V} {v : V} {l' : List V} (e : l = v :: l') : l ≠ [] ∧ decide (0 < (l.length : Int)) = true ∧ decide (0 < l.length) = true ∧ decide (l = []) = false := by subst e; simp
theorem test_zero {l : List V} (e : l = []) : decide (0 < (l.length : Int)) = false ∧ decide (0 < l.length) = false ∧ decide (l = []) = true := by subst e; simp
theorem len_cons {l l' : List V} {v : V} (e : l = v :: l') : l.length = l'.length + 1 := by subst e; rfl
theorem abs_len {l l' : List V} {x : A} {b : Bool} (h : cont l' = cont l ++ keep b x) : l'.length ≤ l.length + 1 := by
 have := congrArg List.length h
 simp only [cont_len, List.length_append] at this
 unfold keep at this
 split at this <;> simp at this <;> omega
end Go.Proofs.Ytmjmgdbhmbjmaaa
