/- Items of several texts. -/
import Derived.Test.YtmjmgdbhmbjmaabACb22
namespace Go.Proofs.Ytmjmgdbhmbjmaab
set_option maxRecDepth 100000
open Go.RowKit
structure OA where
 id : Int
 read : Bool
 key : ByteArray
 kn : SA
 tl : Nat → SA
 need : Int
 who : Nat → Bool
 age : Int
def OpD.abs (o : OpD) : OA := ⟨o.id, o.read, o.key, o.kn.abs, fun n => (o.tl n).abs, o.need, o.who, o.age⟩
structure CA where
 wait : Int
 last : Int
 t : List OA
 an : List AnA
def CM.abs (x : CM) : CA := ⟨x.wait, x.last, x.t.map OpD.abs, x.an.map AnD.abs⟩
def fndA (n : Int) (t : List OA) : Option OA := t.find? fun o => decide (o.id = n)
def dropA (n : Int) (t : List OA) : List OA := t.filter fun o => !decide (o.id = n)
def repA (o : OA) (t : List OA) : List OA := t.map fun y => if y.id = o.id then o else y
def repO (o : OpD) (t : List OpD) : List OpD := t.map fun y => if y.id = o.id then o else y
theorem fnd_abs (n : Int) (t : List OpD) : fndA n (t.map OpD.abs) = (fndO n t).map OpD.abs := by
 unfold fndA fndO
 rw [List.find?_map]
 rfl
theorem drop_abs (n : Int) (t : List OpD) : (dropO n t).map OpD.abs = dropA n (t.map OpD.abs) := by
 unfold dropA dropO
 rw [List.filter_map]
 rfl
theorem rep_abs (o : OpD) (t : List OpD) : (repO o t).map OpD.abs = repA o.abs (t.map OpD.abs) := by
 unfold repA repO
 rw [List.map_map, List.map_map]
 congr 1
 funext y
 show OpD.abs (if y.id = o.id then o else y) = if y.id = o.id then o.abs else y.abs
 split <;> rfl
theorem rep_ids (o : OpD) (t : List OpD) : (repO o t).map OpD.id = t.map OpD.id := by
 unfold repO
 rw [List.map_map]
 congr 1
 funext y
 show OpD.id (if y.id = o.id then o else y) = y.id
 split
 ·rename_i h; exact h.symm
 ·rfl
theorem rep_len (o : OpD) (t : List OpD) : (repO o t).length = t.length := by simp [repO]
theorem rep_mem {o y : OpD} {t : List OpD} (h : y ∈ repO o t) : y = o ∨ (y ∈ t ∧ y.id ≠ o.id) := by
 unfold repO at h
 rw [List.mem_map] at h
 obtain ⟨z, hz, rfl⟩ := h
 split
 ·exact .inl rfl
 ·rename_i h
  exact .inr ⟨hz, h⟩
theorem rep_datum (o : OpD) (t : List OpD) (h : ∀ y ∈ t, y.id = o.id → y.q = o.q) : datumO (repO o t) = datumO t := by
 unfold datumO repO
 rw [List.map_map]
 congr 1
 refine List.map_congr_left fun y hy => ?_
 show prO (if y.id = o.id then o else y) = prO y
 split
 ·rename_i e
  unfold prO
  rw [e, h y hy e]
 ·rfl
theorem sor_uniq {t : List OpD} (h : SorO t) {x y : OpD} (hx : x ∈ t) (hy : y ∈ t) (e : x.id = y.id) : x = y := by
 induction t with
 | nil => simp at hx
 | cons z r ih =>
  obtain ⟨h1, h2⟩ := List.pairwise_cons.1 h
  rcases List.mem_cons.1 hx with e1 | hx'
  ·rcases List.mem_cons.1 hy with e2 | hy'
   ·rw [e1, e2]
   ·have := h1 y hy'
    rw [e1] at e
    omega
  ·rcases List.mem_cons.1 hy with e2 | hy'
   ·have := h1 x hx'
    rw [e2] at e
    omega
   ·exact ih h2 hx' hy'
theorem dif_of {t : List OpD} (h : t.Pairwise fun a b => a.q ≠ b.q ∧ a.cb ≠ b.cb) {x y : OpD} (hx : x ∈ t) (hy : y ∈ t) (e : x ≠ y) : x.q ≠ y.q ∧ x.cb ≠ y.cb := by
 induction t with
 | nil => simp at hx
 | cons z r ih =>
  obtain ⟨h1, h2⟩ := List.pairwise_cons.1 h
  rcases List.mem_cons.1 hx with e1 | hx'
  ·rcases List.mem_cons.1 hy with e2 | hy'
   ·exact absurd (e1.trans e2.symm) e
   ·rw [e1]
    exact h1 y hy'
  ·rcases List.mem_cons.1 hy with e2 | hy'
   ·rw [e2]
    exact ⟨fun e => (h1 x hx').1 e.symm, fun e => (h1 x hx').2 e.symm⟩
   ·exact ih h2 hx' hy'
theorem find_at {t : List OpD} (h : SorO t) {o : OpD} (ho : o ∈ t) : fndO o.id t = some o := by
 cases e : fndO o.id t with
 | none =>
  have := List.find?_eq_none.1 e o ho
  simp at this
 | some y =>
  obtain ⟨h1, h2⟩ := fndO_some e
  rw [sor_uniq h h1 ho h2]
theorem pair_rep {o : OpD} {t : List OpD} {R : OpD → OpD → Prop} (h : t.Pairwise R) (hr : ∀ y z, y ∈ t → z ∈ t → R y z → R (if y.id = o.id then o else y) (if z.id = o.id then o else z)) : (repO o t).Pairwise R := by
 unfold repO
 rw [List.pairwise_map]
 exact h.imp_of_mem fun {a b} ha hb k => hr a b ha hb k
theorem CST.rep {D Z : Nat → Prop} {p : Nat} {x : CM} {w w' : World} (h : CST D Z p x w) {o o' : OpD} (ho : o ∈ x.t) (hi : o'.id = o.id) (hq : o'.q = o.q) (hc : o'.cb = o.cb) (hg : 0 ≤ o'.age ∧ o'.age ≤ x.wait)
  (O : Off (fun c => c = o.q ∨ c = o.cb) w w') (A : OpAt o' w') (hk : SOk Z w' o'.kn) (ht : ∀ n, n < 8 → SOk Z w' (o'.tl n)) : CST D Z p { x with t := repO o' x.t } w' ∧ Gro D D Z Z w w' ∧ fndO o.id (repO o' x.t) = some o' := by
 obtain ⟨k1, k2, k3, k4, k5⟩ := h.op o ho
 have OD : Off D w w' := O.mono (fun c _ e => e.elim (fun e => e ▸ k2) (fun e => e ▸ k3))
 have G : Gro D D Z Z w w' := Gro.of OD
 have hf : ∀ y ∈ x.t, y.id = o'.id → y = o := fun y hy e => sor_uniq h.sor hy ho (e.trans hi)
 have np : ¬ (p = o.q ∨ p = o.cb) := fun e => e.elim (fun e => h.cel.nt k1.cel (by decide) e) (fun e => h.cel.nt k1.cnt.cel (by decide) e)
 have hd : datumO (repO o' x.t) = datumO x.t := rep_datum o' x.t (fun y hy e => by rw [hf y hy e, hq])
 have hid : (repO o' x.t).map OpD.id = x.t.map OpD.id := rep_ids o' x.t
 have hsor : SorO (repO o' x.t) := by
  refine pair_rep h.sor fun y z hy hz k => ?_
  have e : ∀ u : OpD, (if u.id = o'.id then o' else u).id = u.id := fun u => by
   split
   ·rename_i e; exact e.symm
   ·rfl
  rw [e, e]
  exact k
 have hm : o' ∈ repO o' x.t := by
  unfold repO
  rw [List.mem_map]
  exact ⟨o, ho, by rw [if_pos hi.symm]⟩
 refine ⟨⟨h.cel.off O np, fun e => by have := h.map0 e; show repO o' x.t = []; rw [this]; rfl, fun b hb => ⟨(h.map1 b hb).1, ?_⟩, fun y hy => ?_, ?_, hsor, fun y hy => ?_, by show (repO o' x.t).length ≤ 64; rw [rep_len]; exact h.few, h.ans.off O (fun c _ hc e => ?_), h.ina, fun y hy => (h.oks y hy).gro G h.sub, by show _ + ((repO o' x.t).length : Int) ≤ _; rw [rep_len]; exact h.cnt, h.num, h.wt, h.inp, h.sub, fun c hc => Nat.lt_of_lt_of_le (h.lt c hc) O.size⟩, G, ?_⟩
 ·show w'.ownsMap Try.prog _ hRO b (repO o' x.t).length (datumO (repO o' x.t))
  rw [rep_len, hd]
  exact mo_off (h.map1 b hb).2 O (fun e => e.elim (fun e => mo_ncel (h.map1 b hb).2 k1.cel e.symm) (fun e => mo_ncel (h.map1 b hb).2 k1.cnt.cel e.symm))
 ·rcases rep_mem hy with rfl | ⟨hy, hne⟩
  ·exact ⟨A, by rw [hq]; exact k2, by rw [hc]; exact k3, hk, ht⟩
  ·obtain ⟨j1, j2, j3, j4, j5⟩ := h.op y hy
   have hdf := dif_of h.dif hy ho (fun e => hne (by rw [e, hi]))
   exact ⟨j1.off O (fun e => e.elim hdf.1 (fun e => j1.cel.nt k1.cnt.cel (by decide) e)) (fun e => e.elim (fun e => j1.cnt.cel.nt k1.cel (by decide) e) hdf.2), j2, j3, j4.gro G h.sub, fun n hn => (j5 n hn).gro G h.sub⟩
 ·refine pair_rep h.dif fun y z hy hz k => ?_
  have e : ∀ u, u ∈ x.t → (if u.id = o'.id then o' else u).q = u.q ∧ (if u.id = o'.id then o' else u).cb = u.cb := fun u hu => by
   split
   ·rename_i e
    rw [hf u hu e]
    exact ⟨hq, hc⟩
   ·exact ⟨rfl, rfl⟩
  rw [(e y hy).1, (e z hz).1, (e y hy).2, (e z hz).2]
  exact k
 ·rcases rep_mem hy with rfl | ⟨hy, -⟩
  ·rw [hi]
   exact ⟨(h.ids o ho).1, (h.ids o ho).2.1, hg⟩
  ·exact h.ids y hy
 ·rcases e with e | e
  ·exact h.ans.nt k1.cel (by decide) (e ▸ hc)
  ·exact h.ans.nt k1.cnt.cel (by decide) (e ▸ hc)
 ·rw [← hi]
  exact find_at hsor hm
def finA (x : CA) (n err : Int) (s : SA) : CA := { x with t := dropA n x.t, an := x.an ++ [⟨n, err, s⟩] }
def ackA (x : CA) (n node : Int) : CA × Bool := match fndA n x.t with
 | none => (x, false)
 | some o => if o.read = true then (x, false) else if addB o.need o.who node = true then (finA { x with t := repA { o with who := adds o.who node } x.t } n 0 o.kn, true) else ({ x with t := repA { o with who := adds o.who node } x.t }, false)
def newA (id : Int) (read : Bool) (key : ByteArray) (s : SA) (need self : Int) : OA := ⟨id, read, key, s, fun n => if read = true ∧ okN self = true ∧ n = self.toNat then s else SA.zero, need, adds (fun _ => false) self, 0⟩
def beginA (x : CA) (self need : Int) (read : Bool) (key : ByteArray) (s : SA) : CA × Int × Int :=
 if 64 ≤ x.t.length then (x, 0, 7) else if (keyB key && mayA s) = false then (x, 0, 1)
 else if need ≤ 1 then ({ x with last := x.last + 1, an := x.an ++ [⟨x.last + 1, 0, s⟩] }, x.last + 1, 0)
 else ({ x with last := x.last + 1, t := x.t ++ [newA (x.last + 1) read key s need self] }, x.last + 1, 0)
def lateA (o : OA) (n : Nat) : Bool := o.who n && !sameSA (o.tl n) o.kn
def behindA (o : OA) : Nat → List Int
 | 0 => []
 | n + 1 => behindA o n ++ (if lateA o n = true then [(n : Int)] else [])
theorem behind_abs (o : OpD) : ∀ n, behindN o n = behindA o.abs n
 | 0 => rfl
 | n + 1 => by
  show behindN o n ++ _ = behindA o.abs n ++ _
  rw [behind_abs o n]
  rfl
def hearA (o : OA) (node : Int) (s : SA) : OA := if okN node = true then { o with who := adds o.who node, tl := fun j => if j = node.toNat then s else o.tl j, kn := joinS o.kn s } else o
def gotA (x : CA) (n node : Int) (key : ByteArray) (s : SA) : CA × Option (List Int) := match fndA n x.t with
 | none => (x, none)
 | some o => if o.read = false ∨ key ≠ o.key ∨ (keyB key && mayA s) = false ∨ (okN node && o.who node.toNat) = true then (x, none)
  else if addB o.need o.who node = true then (finA { x with t := repA (hearA o node s) x.t } n 0 (hearA o node s).kn, some (behindA (hearA o node s) 8)) else ({ x with t := repA (hearA o node s) x.t }, none)
end Go.Proofs.Ytmjmgdbhmbjmaab
