/- Items of several texts. -/
import Derived.Maps.OwnSet
import Derived.Maps.RangeWalk
import Derived.Maps.Ext
import Derived.Sort.KeysCollected
import Derived.Deep.RegionHeld
import Derived.Deep.Cut
import Derived.Test.YtpnnpdfmoldiiaaQSam
import Derived.Test.YtpnnpdfmoldiiaaQTxt
import Derived.Test.YtpnnpdfmoldiiaaQInsP
namespace Go.Proofs.Ytpnnpdfmoldiiaa
open Go.RowKit
structure E where
 key : ByteArray
 f : Nat → Int
 a : Option Addr
 cap : Nat
 l : List V
structure K where
 key : ByteArray
 f : Nat → Int
 l : List A
def E.abs (e : E) : K := ⟨e.key, e.f, cont e.l⟩
def absE (t : List E) : List K := t.map E.abs
theorem absE_len (t : List E) : (absE t).length = t.length := by simp [absE]
def kb (s : ByteArray) : List UInt8 := s.data.toList
theorem kb_inj {s r : ByteArray} (h : kb s = kb r) : s = r := by
 obtain ⟨⟨a⟩⟩ := s
 obtain ⟨⟨b⟩⟩ := r
 have : a = b := h
 rw [this]
def blt (a b : ByteArray) : Bool := bytesBefore (kb a) (kb b)
theorem blt_irr (a : ByteArray) : blt a a = false := WideShapes.before_irrefl (.string (kb a))
theorem blt_trans {a b c : ByteArray} (h : blt a b = true) (k : blt b c = true) : blt a c = true := WideShapes.before_trans (a := .string (kb a)) (b := .string (kb b)) (c := .string (kb c)) h k
theorem blt_tot {a b : ByteArray} (h : a ≠ b) : blt a b = true ∨ blt b a = true :=
 ChangeMaps.before_total (a := .string (kb a)) (b := .string (kb b)) ⟨_, rfl⟩ ⟨_, rfl⟩ (fun e => h (kb_inj (by simpa using e)))
theorem blt_ne {a b : ByteArray} (h : blt a b = true) : a ≠ b := fun e => by
 subst e
 rw [blt_irr] at h
 cases h
theorem blt_asym {a b : ByteArray} (h : blt a b = true) : blt b a = false := by
 cases e : blt b a
 ·rfl
 ·have := blt_trans h e
  rw [blt_irr] at this
  cases this
section
variable {α β : Type} (key : α → ByteArray)
def insG (x : α) : List α → List α
 | [] => [x]
 | y :: r => if blt (key x) (key y) then x :: y :: r else y :: insG x r
def smk (y k : ByteArray) : Bool := kb y == kb k
theorem smk_iff {y k : ByteArray} : smk y k = true ↔ y = k := by
 simp only [smk, beq_iff_eq]
 exact ⟨kb_inj, fun e => by rw [e]⟩
theorem smk_no {y k : ByteArray} : smk y k = false ↔ y ≠ k := by
 rw [← Bool.not_eq_true, smk_iff]
def putG (x : α) (t : List α) : List α := insG key x (t.filter fun y => !smk (key y) (key x))
def fndG (k : ByteArray) (t : List α) : Option α := t.find? fun y => smk (key y) k
def Sor (t : List α) : Prop := t.Pairwise fun x y => blt (key x) (key y) = true
theorem mem_insG {x z : α} : ∀ {t : List α}, z ∈ insG key x t ↔ z = x ∨ z ∈ t
 | [] => by simp [insG]
 | y :: r => by
  unfold insG
  split
  ·simp
  ·rw [List.mem_cons, mem_insG, List.mem_cons]
   constructor
   ·rintro (h | h | h)
    ·exact .inr (.inl h)
    ·exact .inl h
    ·exact .inr (.inr h)
   ·rintro (h | h | h)
    ·exact .inr (.inl h)
    ·exact .inl h
    ·exact .inr (.inr h)
theorem len_insG (x : α) : ∀ t : List α, (insG key x t).length = t.length + 1
 | [] => rfl
 | y :: r => by
  unfold insG
  split
  ·rfl
  ·simp [len_insG x r]
theorem sor_insG {x : α} : ∀ {t : List α}, Sor key t → (∀ y ∈ t, key y ≠ key x) → Sor key (insG key x t)
 | [], _, _ => by simp [insG, Sor]
 | y :: r, h, hx => by
  obtain ⟨h1, h2⟩ := List.pairwise_cons.1 h
  unfold insG
  split
  ·rename_i e
   refine List.pairwise_cons.2 ⟨fun z hz => ?_, h⟩
   rcases List.mem_cons.1 hz with rfl | hz
   ·exact e
   ·exact blt_trans e (h1 z hz)
  ·rename_i e
   refine List.pairwise_cons.2 ⟨fun z hz => ?_, sor_insG h2 (fun z hz => hx z (List.mem_cons_of_mem _ hz))⟩
   rcases (mem_insG key).1 hz with rfl | hz
   ·rcases blt_tot (hx y (List.mem_cons_self ..)) with h | h
    ·exact h
    ·exact absurd h e
   ·exact h1 z hz
theorem mem_putG {x z : α} {t : List α} : z ∈ putG key x t ↔ z = x ∨ z ∈ t ∧ key z ≠ key x := by
 unfold putG
 rw [mem_insG, List.mem_filter, Bool.not_eq_true', smk_no]
theorem sor_putG {x : α} {t : List α} (h : Sor key t) : Sor key (putG key x t) := by
 refine sor_insG key (List.Pairwise.sublist List.filter_sublist h) (fun y hy => ?_)
 rw [List.mem_filter, Bool.not_eq_true', smk_no] at hy
 exact hy.2
theorem sor_eq {t : List α} (h : Sor key t) {x y : α} (hx : x ∈ t) (hy : y ∈ t) (e : key x = key y) : x = y := by
 induction t with
 | nil => simp at hx
 | cons z r ih =>
  obtain ⟨h1, h2⟩ := List.pairwise_cons.1 h
  rcases List.mem_cons.1 hx with e1 | hx'
  ·rcases List.mem_cons.1 hy with e2 | hy'
   ·rw [e1, e2]
   ·rw [e1] at e
    exact absurd e (blt_ne (h1 y hy'))
  ·rcases List.mem_cons.1 hy with e2 | hy'
   ·rw [e2] at e
    exact absurd e.symm (blt_ne (h1 x hx'))
   ·exact ih h2 hx' hy'
theorem fnd_some {t : List α} (h : Sor key t) {k : ByteArray} {x : α} : fndG key k t = some x ↔ x ∈ t ∧ key x = k := by
 constructor
 ·intro e
  exact ⟨List.mem_of_find?_eq_some e, smk_iff.1 (List.find?_some (p := fun y => smk (key y) k) e)⟩
 ·rintro ⟨hx, hk⟩
  cases e : fndG key k t with
  | none =>
   have := List.find?_eq_none.1 e x hx
   rw [smk_iff] at this
   exact absurd hk this
  | some y =>
   have h1 : y ∈ t ∧ key y = k := ⟨List.mem_of_find?_eq_some e, smk_iff.1 (List.find?_some (p := fun y => smk (key y) k) e)⟩
   rw [sor_eq key h h1.1 hx (h1.2.trans hk.symm)]
theorem fnd_mem {t : List α} {k : ByteArray} {x : α} (e : fndG key k t = some x) : x ∈ t ∧ key x = k :=
 ⟨List.mem_of_find?_eq_some e, smk_iff.1 (List.find?_some (p := fun y => smk (key y) k) e)⟩
theorem fnd_none {t : List α} {k : ByteArray} : fndG key k t = none ↔ ∀ x ∈ t, key x ≠ k := by
 unfold fndG
 rw [List.find?_eq_none]
 simp only [smk_iff]
 try exact Iff.rfl
theorem sor_ext : ∀ {t r : List α}, Sor key t → Sor key r → (∀ z, z ∈ t ↔ z ∈ r) → t = r
 | [], [], _, _, _ => rfl
 | [], y :: r, _, _, h => by have := (h y).2 (List.mem_cons_self ..); simp at this
 | x :: t, [], _, _, h => by have := (h x).1 (List.mem_cons_self ..); simp at this
 | x :: t, y :: r, h1, h2, h => by
  obtain ⟨a1, a2⟩ := List.pairwise_cons.1 h1
  obtain ⟨b1, b2⟩ := List.pairwise_cons.1 h2
  have e : x = y := by
   rcases List.mem_cons.1 ((h x).1 (List.mem_cons_self ..)) with e | hx
   ·exact e
   ·rcases List.mem_cons.1 ((h y).2 (List.mem_cons_self ..)) with e | hy
    ·exact e.symm
    ·have c1 := a1 y hy
     have c2 := b1 x hx
     rw [blt_asym c1] at c2
     cases c2
  subst e
  congr 1
  refine sor_ext a2 b2 (fun z => ?_)
  have hz := h z
  rw [List.mem_cons, List.mem_cons] at hz
  constructor
  ·intro m
   rcases hz.1 (.inr m) with e | m'
   ·subst e
    exact absurd rfl (blt_ne (a1 z m))
   ·exact m'
  ·intro m
   rcases hz.2 (.inr m) with e | m'
   ·subst e
    exact absurd rfl (blt_ne (b1 z m))
   ·exact m'
theorem fnd_put_same {x : α} {t : List α} (h : Sor key t) : fndG key (key x) (putG key x t) = some x :=
 (fnd_some key (sor_putG key h)).2 ⟨(mem_putG key).2 (.inl rfl), rfl⟩
theorem fnd_put_other {x : α} {t : List α} (h : Sor key t) {k : ByteArray} (hk : k ≠ key x) : fndG key k (putG key x t) = fndG key k t := by
 cases e : fndG key k t with
 | none =>
  rw [fnd_none] at e ⊢
  intro z hz
  rcases (mem_putG key).1 hz with rfl | ⟨hz, -⟩
  ·exact fun e => hk e.symm
  ·exact e z hz
 | some y =>
  obtain ⟨h1, h2⟩ := (fnd_some key h).1 e
  exact (fnd_some key (sor_putG key h)).2 ⟨(mem_putG key).2 (.inr ⟨h1, fun e => hk (h2 ▸ e)⟩), h2⟩
theorem filter_len {t : List α} (h : Sor key t) (k : ByteArray) : (t.filter fun y => !smk (key y) k).length + (if (fndG key k t).isSome then 1 else 0) = t.length := by
 induction t with
 | nil => simp [fndG]
 | cons z r ih =>
  obtain ⟨h1, h2⟩ := List.pairwise_cons.1 h
  have := ih h2
  cases e : smk (key z) k
  ·have e2 : fndG key k (z :: r) = fndG key k r := by
    unfold fndG
    rw [List.find?_cons, e]
   rw [e2]
   have e3 : ((z :: r).filter fun y => !smk (key y) k).length = (r.filter fun y => !smk (key y) k).length + 1 := by
    rw [List.filter_cons, e]
    simp
   rw [e3, List.length_cons]
   omega
  ·have e2 : fndG key k r = none := (fnd_none key).2 (fun y hy => by
    rw [← smk_iff.1 e]
    exact fun e => blt_ne (h1 y hy) e.symm)
   rw [e2] at this
   simp only [fndG, List.find?_cons, e, List.filter_cons, Bool.not_true, List.length_cons]
   simpa using this
theorem len_putG {x : α} {t : List α} (h : Sor key t) : (putG key x t).length = if (fndG key (key x) t).isSome then t.length else t.length + 1 := by
 have := filter_len key h (key x)
 unfold putG
 rw [len_insG]
 split at this
 ·rename_i e
  rw [if_pos e]
  omega
 ·rename_i e
  rw [if_neg e]
  omega
variable {key} {key' : β → ByteArray} {g : α → β}
theorem map_insG (hg : ∀ x, key' (g x) = key x) (x : α) : ∀ t : List α, (insG key x t).map g = insG key' (g x) (t.map g)
 | [] => rfl
 | y :: r => by
  simp only [insG, List.map_cons, hg]
  split
  ·rfl
  ·rw [List.map_cons, map_insG hg x r]
theorem map_putG (hg : ∀ x, key' (g x) = key x) (x : α) (t : List α) : (putG key x t).map g = putG key' (g x) (t.map g) := by
 unfold putG
 rw [map_insG hg, List.filter_map]
 simp only [Function.comp_def, hg]
theorem map_fndG (hg : ∀ x, key' (g x) = key x) (k : ByteArray) (t : List α) : (fndG key k t).map g = fndG key' k (t.map g) := by
 unfold fndG
 rw [List.find?_map]
 simp only [Function.comp_def, hg]
theorem map_sor (hg : ∀ x, key' (g x) = key x) {t : List α} : Sor key' (t.map g) ↔ Sor key t := by
 unfold Sor
 rw [List.pairwise_map]
 simp only [hg]
end
theorem abs_key (e : E) : e.abs.key = e.key := rfl
theorem abs_put (x : E) (t : List E) : absE (putG E.key x t) = putG K.key x.abs (absE t) := map_putG abs_key x t
theorem abs_fnd (k : ByteArray) (t : List E) : (fndG E.key k t).map E.abs = fndG K.key k (absE t) := map_fndG abs_key k t
theorem abs_sor {t : List E} : Sor K.key (absE t) ↔ Sor E.key t := map_sor abs_key
def zE (k : ByteArray) : E := ⟨k, zer, none, 0, []⟩
def getE (t : List E) (k : ByteArray) : E := (fndG E.key k t).getD (zE k)
end Go.Proofs.Ytpnnpdfmoldiiaa

namespace Go.Proofs.Ytpnnpdfmoldiiaa
open Go.RowKit
structure NoI (D : Nat → Prop) (w : World) : Prop where
 no : ∀ x : Addr, D x.block → ∀ k n, w.cell? x ≠ some (.int k n)
theorem Src.offN {D : Nat → Prop} {w w' : World} {tad : Option Addr} {cap : Nat} {bs : List Nat} (h : Src w tad cap bs) (o : Off D w w') (hN : NoI D w) : Src w' tad cap bs := by
 rcases h.is with h0 | ⟨ad, rfl, h0⟩
 ·exact ⟨.inl h0⟩
 ·refine ⟨.inr ⟨ad, rfl, fun j u hj => ?_⟩⟩
  have h1 := h0 j u hj
  obtain ⟨x, hx⟩ : ∃ x, u = .int .u8 x := by
   simp only [vl, List.getElem?_map, Option.map_eq_some_iff] at hj
   obtain ⟨x, -, hx⟩ := hj
   exact ⟨_, hx.symm⟩
  rw [← h1]
  exact World.cell?_of_block (o.block _ (cell_lt h1) (fun e => hN.no _ e _ _ (hx ▸ h1)))
theorem Row.offN {D : Nat → Prop} {w w' : World} {a : Option Addr} {cap : Nat} {l : List V} (h : Row w a cap l) (o : Off D w w') (hN : NoI D w) : Row w' a cap l :=
 ⟨h.len, h.bound, fun i v hi => by
  obtain ⟨b, off, e, h1, h2⟩ := h.at_ i v hi
  exact ⟨b, off, e, h1.off o (fun _ hd => hN.no ⟨b, off + i * 4, none⟩ hd _ _ h1.c0), ⟨h2.src.offN o hN, h2.lt, h2.n0, h2.n1, h2.m0, h2.m1, h2.len⟩⟩⟩
theorem NoI.none (w : World) : NoI (fun _ => False) w := ⟨fun _ h => h.elim⟩
theorem Cel.noI {q : Nat} {t : TypeId} {u : Value} {w : World} (h : Cel q t #[u] w) (hu : ∀ k n, u ≠ .int k n) : NoI (fun c => c = q) w := by
 refine ⟨fun x hx k n e => ?_⟩
 obtain ⟨b, o, s⟩ := x
 have hx : b = q := hx
 subst hx
 unfold World.cell? at e
 rw [h.is] at e
 cases s with
 | some s => simp at e
 | none =>
  cases o with
  | zero => simp at e; exact hu k n e
  | succ o => simp at e
theorem put_len {t : List E} (h : Sor E.key t) (x : E) : (putG E.key x t).length ≤ t.length + 1 := by
 rw [len_putG E.key h]
 split <;> omega
end Go.Proofs.Ytpnnpdfmoldiiaa

namespace Go.Proofs.Ytpnnpdfmoldiiaa
open Go.RowKit
structure Far (N : Nat) (a : Option Addr) (l : List V) : Prop where
 row : ∀ x, blk a = some x → N ≤ x
 val : ∀ v ∈ l, ∀ x, blk v.ad = some x → N ≤ x
theorem Far.mono {N M : Nat} {a : Option Addr} {l : List V} (h : Far N a l) (hM : M ≤ N) : Far M a l := ⟨fun x hx => Nat.le_trans hM (h.row x hx), fun v hv x hx => Nat.le_trans hM (h.val v hv x hx)⟩
theorem Row.offF {D : Nat → Prop} {w w' : World} {N : Nat} {a : Option Addr} {cap : Nat} {l : List V} (h : Row w a cap l) (f : Far N a l) (o : Off D w w') (hD : ∀ x, N ≤ x → ¬ D x) : Row w' a cap l :=
 h.offD o (fun x _ hx => hD x (f.row x hx)) (fun v hv x _ hx => hD x (f.val v hv x hx))
theorem eql_nilV (a : Option Addr) (l c : Nat) (W : World) : (binOp .eql 36 (.slice a l c) (.slice none 0 0)).run Try.prog W = .ok (.bool a.isNone) W := by
 have h : binOp .eql 36 (.slice a l c) (.slice none 0 0) = (do pure (.bool (← Op.equal 36 (.slice a l c) (.slice none 0 0)))) := rfl
 rw [h]
 simp [run_equal_slice_nil W 36 117 a l c Try.underlying36, Result.andThen]
theorem wpList_appV {w : World} {ops : Array Oper} {rest : List Oper} {o : Oper} {a : Act} {Q : Exit → Act → World → Prop} (hgd : o.guard = none) (s x : Operand)
  (ho : o.op = .call { callee := .builtin .append, args := #[s, x], argTypes := #[36, 36] })
  (tad : Option Addr) (cap : Nat) (l : List V) (hs : a.eval s = .slice tad l.length cap) (hown : OwnV w tad cap l)
  (xt : Option Addr) (xc : Nat) (k : List V) (hx : a.eval x = .slice xt k.length xc) (hr : Row w xt xc k) (hz : xt = none → xc = 0) (hb : l.length + k.length ≤ 1000000)
  (h : ∀ t' c' w' ys, Hid (ys = l ++ k) → OwnV w' t' c' ys → Off (fun c => blk tad = some c) w w' → (blk t' = blk tad ∨ blk t' = some w.heap.size) → wpList Try.prog ops Q rest (a.put o.dst (.slice t' ys.length c')) w') :
  wpList Try.prog ops Q (o :: rest) a w := by
 obtain ⟨a', c', w', hrun, own, off, hat⟩ := app_runV hown hr hz hb o.type
 refine wpList_plain hgd fun K' hK' => ?_
 unfold Oper.wp
 simp only [execOp, ho, resolve, invoke, builtin, Sem.run_bind, Sem.run_pure, Result.andThen_ok, List.map_toArray, List.map_cons, List.map_nil, hs, hx, hrun]
 exact hK' _ _ (h a' c' w' _ (show l ++ k = l ++ k from rfl) own off hat)
theorem vclone_any (t : Option Addr) (c : Nat) (l : List V) (hb : l.length ≤ 1000) (w : World) (hs : Row w t c l) :
  Calls Try.prog 104 #[.slice t l.length c] w fun e w' => ∃ t' c', e = .returned (.slice t' l.length c') ∧ OwnV w' t' c' l ∧ (∀ k, blk t' = some k → w.heap.size ≤ k) ∧ Off (fun _ => False) w w' := by
 have hq := eql_nilV
 cases t with
 | none =>
  obtain rfl : l = [] := by
   cases l with
   | nil => rfl
   | cons v l => obtain ⟨b, off, e, -⟩ := hs.at_ 0 v rfl; cases e
  go_enter Try.func104, Try.ntmps104
  go_wp2
  go_ret
  exact ⟨none, 0, rfl, OwnV.nil w, fun k hk => by simp [blk] at hk, Off.refl _ w⟩
 | some ad =>
  have HS : Hid (Row w (some ad) c l) := hs
  clear hs
  have L0 : OwnV (w.alloc (.cells #[] 117)) (some ⟨w.heap.size, 0, none⟩) 0 [] := ⟨World.ownsRow_lit w #[] 0 (Nat.zero_le _) (by decide) rfl⟩
  have O0 : Off (fun _ => False) w (w.alloc (.cells #[] 117)) := (Off.refl _ w).alloc _
  go_enter Try.func104, Try.ntmps104
  go_wp2_with (at_builtin; refine wpList_appV rfl (.tmp 5) (.tmp 6) rfl _ 0 [] rfl L0 _ c l rfl (HS.out.off O0) (fun h => by cases h) (by simp; omega) ?_; intro t' c' w' ys hys own' off' at')
  go_ret
  obtain rfl : ys = l := hys.out
  refine ⟨t', c', rfl, own', fun k hk => ?_, O0.trans off' (fun i hi hb => ?_)⟩
  ·rcases at' with a | a
   ·rw [a] at hk
    simp [blk] at hk
    omega
   ·rw [a] at hk
    simp at hk
    omega
  ·simp [blk] at hb
   omega
theorem cell_other {w : World} {a b : Addr} {v : Value} (h : a ≠ b) : (w.setCell a v).cell? b = w.cell? b := World.cell?_setCell_other w a b v h
theorem cell_same {w : World} {a : Addr} {u v : Value} (h : w.cell? a = some u) : (w.setCell a v).cell? a = some v := World.cell?_setCell_same w a v h
theorem exec_idx10 {P : Program} {ρ : Operand → Value} {o : Oper} {t : TypeId} {x ix : Operand} {v : Value} {w : World} (ho : o.op = .indexAddr t x ix) (h : (Instr.indexAt t (ρ x) (ρ ix)).run P w = .ok v w) : Sem.run P (execOp ρ o) w = .ok (.value v) w := by
 have e : execOp ρ o = (do pure (.value (← Instr.indexAt t (ρ x) (ρ ix)))) := by unfold execOp; rw [ho]
 rw [e, Sem.run_bind, h]
 rfl
theorem idx_row {m n : Nat} (h : n < m) (c g : Nat) (W : World) : (Instr.indexAt 36 (.slice (some ⟨g, 0, none⟩) m c) (.int .i64 (n : Int))).run Try.prog W = .ok (.pointer (some ⟨g, n * 4, none⟩)) W := by
 go_simp
theorem Row.at0 {w : World} {g : Nat} {cap : Nat} {l : List V} (h : Row w (some ⟨g, 0, none⟩) cap l) {n : Nat} {v : V} (hv : l[n]? = some v) : At4 w g (n * 4) v := by
 obtain ⟨b, off, e, h1, -⟩ := h.at_ n v hv
 simp only [Option.some.injEq, Addr.mk.injEq, and_true] at e
 obtain ⟨rfl, rfl⟩ := e
 rw [Nat.zero_add] at h1
 exact h1
theorem Src.setN {w : World} {tad : Option Addr} {cap : Nat} {bs : List Nat} (h : Src w tad cap bs) {p : Addr} (hp : ∀ k n, w.cell? p ≠ some (.int k n)) (u : Value) : Src (w.setCell p u) tad cap bs := by
 rcases h.is with h0 | ⟨ad, rfl, h0⟩
 ·exact ⟨.inl h0⟩
 ·refine ⟨.inr ⟨ad, rfl, fun j x hj => ?_⟩⟩
  have h1 := h0 j x hj
  obtain ⟨y, hy⟩ : ∃ y, x = .int .u8 y := by
   simp only [vl, List.getElem?_map, Option.map_eq_some_iff] at hj
   obtain ⟨y, -, hy⟩ := hj
   exact ⟨_, hy.symm⟩
  rw [cell_other (fun e => hp _ _ (by rw [e, h1, hy]))]
  exact h1
theorem Row.setData {w : World} {g : Nat} {cap : Nat} {l : List V} (h : Row w (some ⟨g, 0, none⟩) cap l) {n : Nat} {v : V} (hv : l[n]? = some v) {t : Option Addr} {c1 : Nat} (hs : Src w t c1 v.data) :
  Row (w.setCell ⟨g, n * 4 + 2, none⟩ (.slice t v.data.length c1)) (some ⟨g, 0, none⟩) cap (l.set n (⟨v.node, v.num, t, c1, v.data, v.dead⟩ : V)) := by
 have hc := (h.at0 hv).c2
 have hni : ∀ k m, w.cell? ⟨g, n * 4 + 2, none⟩ ≠ some (.int k m) := fun k m e => by rw [hc] at e; cases e
 refine ⟨by rw [List.length_set]; exact h.len, h.bound, fun i u hi => ⟨g, 0, rfl, ?_⟩⟩
 rw [Nat.zero_add]
 by_cases e : n = i
 ·subst e
  have hlt : n < l.length := by
   obtain ⟨h, -⟩ := List.getElem?_eq_some_iff.1 hv
   exact h
  rw [List.getElem?_set_self hlt] at hi
  simp only [Option.some.injEq] at hi
  subst hi
  have k := h.at0 hv
  have o := (h.ok v (List.mem_of_getElem? hv))
  refine ⟨⟨?_, ?_, cell_same hc, ?_⟩, ⟨hs.setN hni _, o.lt, o.n0, o.n1, o.m0, o.m1, o.len⟩⟩
  ·rw [cell_other (by simp)]; exact k.c0
  ·rw [cell_other (by simp)]; exact k.c1
  ·rw [cell_other (by simp)]; exact k.c3
 ·rw [List.getElem?_set_ne e] at hi
  have k := h.at0 hi
  have o := (h.ok u (List.mem_of_getElem? hi))
  refine ⟨⟨?_, ?_, ?_, ?_⟩, ⟨o.src.setN hni _, o.lt, o.n0, o.n1, o.m0, o.m1, o.len⟩⟩
  ·rw [cell_other (by simp <;> omega)]; exact k.c0
  ·rw [cell_other (by simp <;> omega)]; exact k.c1
  ·rw [cell_other (by simp <;> omega)]; exact k.c2
  ·rw [cell_other (by simp <;> omega)]; exact k.c3
theorem cont_set {l : List V} {n : Nat} {v : V} (hv : l[n]? = some v) (t : Option Addr) (c1 : Nat) : cont (l.set n (⟨v.node, v.num, t, c1, v.data, v.dead⟩ : V)) = cont l := by
 unfold cont
 rw [List.map_set]
 have : ((⟨v.node, v.num, t, c1, v.data, v.dead⟩ : V)).abs = v.abs := rfl
 rw [this]
 refine List.ext_getElem? (fun i => ?_)
 by_cases e : n = i
 ·subst e
  have hlt : n < l.length := by
   obtain ⟨h, -⟩ := List.getElem?_eq_some_iff.1 hv
   exact h
  rw [List.getElem?_set_self (by simpa using hlt), List.getElem?_map, hv]
  rfl
 ·rw [List.getElem?_set_ne e]
theorem set_far {k : List V} {n : Nat} {v : V} {N : Nat} {t : Option Addr} {c1 : Nat} (hv : k[n]? = some v) (h : ∀ i v, i < n → k[i]? = some v → ∀ x, blk v.ad = some x → N ≤ x) (ht : ∀ x, blk t = some x → N ≤ x) :
  ∀ i u, i < n + 1 → (k.set n (⟨v.node, v.num, t, c1, v.data, v.dead⟩ : V))[i]? = some u → ∀ x, blk u.ad = some x → N ≤ x := by
 intro i u hi hu x hx
 by_cases e : n = i
 ·subst e
  have hlt : n < k.length := by
   obtain ⟨h, -⟩ := List.getElem?_eq_some_iff.1 hv
   exact h
  rw [List.getElem?_set_self hlt] at hu
  simp only [Option.some.injEq] at hu
  subst hu
  exact ht x hx
 ·rw [List.getElem?_set_ne e] at hu
  exact h i u (by omega) hu x hx
end Go.Proofs.Ytpnnpdfmoldiiaa
