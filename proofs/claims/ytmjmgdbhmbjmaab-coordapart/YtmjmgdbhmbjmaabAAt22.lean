/- Items of several texts. -/
import Derived.Test.YtmjmgdbhmbjmaabACg22
import Derived.Test.YtmjmgdbhmbjmaabAAw22
namespace Go.Proofs.Ytmjmgdbhmbjmaab
set_option maxRecDepth 100000
open Go.RowKit
def own1 (x : AnA) : Bool := decide (x.op = 1)
structure ApC (c d : CA) : Prop where
 f : fndA 1 c.t = fndA 1 d.t
 an : c.an.filter own1 = d.an
theorem fnd_id {n : Int} {t : List OA} {o : OA} (h : fndA n t = some o) : o.id = n := of_decide_eq_true (List.find?_some (p := fun o : OA => decide (o.id = n)) h)
theorem fnd_rep_ne {o : OA} {n : Int} (h : o.id ≠ n) : ∀ t : List OA, fndA n (repA o t) = fndA n t
 | [] => rfl
 | y :: r => by
  have ih := fnd_rep_ne h r
  unfold fndA repA at ih ⊢
  rw [List.map_cons, List.find?_cons, List.find?_cons]
  by_cases e : y.id = o.id
  ·have h2 : decide (y.id = n) = false := decide_eq_false (fun k => h (e ▸ k))
   rw [if_pos e, decide_eq_false h, h2]
   exact ih
  ·rw [if_neg e]
   cases hd : decide (y.id = n)
   ·exact ih
   ·rfl
theorem fnd_rep {o : OA} {n : Int} (h : o.id = n) : ∀ {t : List OA} {p : OA}, fndA n t = some p → fndA n (repA o t) = some o
 | [], _, k => by cases k
 | y :: r, p, k => by
  have ih := @fnd_rep o n h r
  unfold fndA repA at ih ⊢
  unfold fndA at k
  rw [List.find?_cons] at k
  rw [List.map_cons, List.find?_cons]
  by_cases e : y.id = o.id
  ·rw [if_pos e, decide_eq_true h]
  ·have h2 : decide (y.id = n) = false := decide_eq_false (fun k => e (k.trans h.symm))
   rw [h2] at k
   rw [if_neg e, h2]
   exact ih k
theorem fnd_drop_ne {n k : Int} (h : k ≠ n) : ∀ t : List OA, fndA n (dropA k t) = fndA n t
 | [] => rfl
 | y :: r => by
  have ih := fnd_drop_ne h r
  unfold fndA dropA at ih ⊢
  rw [List.filter_cons, List.find?_cons]
  by_cases e : y.id = k
  ·have h2 : decide (y.id = n) = false := decide_eq_false (fun j => h (e ▸ j))
   rw [decide_eq_true e, h2]
   exact ih
  ·rw [decide_eq_false e]
   show List.find? _ (y :: _) = _
   rw [List.find?_cons]
   cases hd : decide (y.id = n)
   ·exact ih
   ·rfl
theorem fnd_drop (n : Int) : ∀ t : List OA, fndA n (dropA n t) = none
 | [] => rfl
 | y :: r => by
  have ih := fnd_drop n r
  unfold fndA dropA at ih ⊢
  rw [List.filter_cons]
  by_cases e : y.id = n
  ·rw [decide_eq_true e]
   exact ih
  ·rw [decide_eq_false e]
   show List.find? _ (y :: _) = _
   rw [List.find?_cons, decide_eq_false e]
   exact ih
theorem hear_id (o : OA) (node : Int) (s : SA) : (hearA o node s).id = o.id := by unfold hearA; split <;> rfl
theorem apart_other {c d : CA} (h : ApC c d) (node : Int) (key : ByteArray) (s : SA) : ApC (gotA c 2 node key s).1 d := by
 cases hf : fndA 2 c.t with
 | none => rw [gotA_none hf]; exact h
 | some o =>
  have hi : (hearA o node s).id = 2 := (hear_id o node s).trans (fnd_id hf)
  have hr : fndA 1 (repA (hearA o node s) c.t) = fndA 1 c.t := fnd_rep_ne (by rw [hi]; decide) _
  by_cases k : o.read = false ∨ key ≠ o.key ∨ (keyB key && mayA s) = false ∨ (okN node && o.who node.toNat) = true
  ·rw [gotA_no hf k]; exact h
  ·cases hb : addB o.need o.who node
   ·rw [gotA_more hf k hb]
    exact ⟨hr.trans h.f, h.an⟩
   ·rw [gotA_done hf k hb]
    refine ⟨((fnd_drop_ne (by decide) _).trans hr).trans h.f, ?_⟩
    show (c.an ++ [(⟨2, 0, (hearA o node s).kn⟩ : AnA)]).filter own1 = d.an
    rw [List.filter_append, h.an]
    exact List.append_nil _
theorem apart_own {c d : CA} (h : ApC c d) (node : Int) (key : ByteArray) (s : SA) : ApC (gotA c 1 node key s).1 (gotA d 1 node key s).1 ∧ (gotA d 1 node key s).2 = (gotA c 1 node key s).2 := by
 cases hf : fndA 1 c.t with
 | none =>
  have hd := h.f.symm.trans hf
  rw [gotA_none hf, gotA_none hd]
  exact ⟨h, rfl⟩
 | some o =>
  have hd := h.f.symm.trans hf
  have hi : (hearA o node s).id = 1 := (hear_id o node s).trans (fnd_id hf)
  by_cases k : o.read = false ∨ key ≠ o.key ∨ (keyB key && mayA s) = false ∨ (okN node && o.who node.toNat) = true
  ·rw [gotA_no hf k, gotA_no hd k]; exact ⟨h, rfl⟩
  ·cases hb : addB o.need o.who node
   ·rw [gotA_more hf k hb, gotA_more hd k hb]
    exact ⟨⟨(fnd_rep hi hf).trans (fnd_rep hi hd).symm, h.an⟩, rfl⟩
   ·rw [gotA_done hf k hb, gotA_done hd k hb]
    refine ⟨⟨(fnd_drop 1 _).trans (fnd_drop 1 _).symm, ?_⟩, rfl⟩
    show (c.an ++ [(⟨1, 0, (hearA o node s).kn⟩ : AnA)]).filter own1 = d.an ++ [(⟨1, 0, (hearA o node s).kn⟩ : AnA)]
    rw [List.filter_append, h.an]
    rfl
def kA : ByteArray := ⟨#[97]⟩
def kB : ByteArray := ⟨#[98]⟩
theorem kA_ok : keyB kA = true := by decide
theorem kB_ok : keyB kB = true := by decide
def apO (id : Int) (key : ByteArray) (m : Int) : OA := newA id true key SA.zero m 0
theorem ap_begin1 {key : ByteArray} {m : Int} (hk : keyB key = true) (h : 2 ≤ m) : beginA ⟨9, 0, [], []⟩ 0 m true key SA.zero = (⟨9, 1, [apO 1 key m], []⟩, 1, 0) := by
 rw [beginA_more (by decide) (by rw [hk, may_zero]; rfl) (by omega)]
 rfl
theorem ap_begin2 {k key : ByteArray} {j m : Int} (hk : keyB key = true) (h : 2 ≤ m) : beginA ⟨9, 1, [apO 1 k j], []⟩ 0 m true key SA.zero = (⟨9, 2, [apO 1 k j, apO 2 key m], []⟩, 2, 0) := by
 rw [beginA_more (show ¬ 64 ≤ [apO 1 k j].length by simp) (by rw [hk, may_zero]; rfl) (by omega)]
 rfl
theorem ap_start (k key : ByteArray) (j m : Int) : ApC ⟨9, 2, [apO 1 k j, apO 2 key m], []⟩ ⟨9, 1, [apO 1 k j], []⟩ := ⟨rfl, rfl⟩
end Go.Proofs.Ytmjmgdbhmbjmaab
