/- Several texts in one. -/
import Derived.Test.YtbagahlphnafdaaRea
import Derived.Test.YtbagahlphnafdaaTxt
import Derived.Maps.OwnSet
import Derived.Maps.RangeWalk
import Derived.Maps.Ext
import Derived.Sort.KeysCollected
import Derived.Deep.RegionHeld
/- A table as data: entries that rise by key; one put among them, one found. -/
namespace Go.Proofs.Ytbagahlphnafdaa
open Go.RowKit

/-- What is known of a key, and where it lies. -/
structure E where
  key : ByteArray
  f : Nat → Int
  a : Option Addr
  cap : Nat
  l : List V
/-- The same as data. -/
structure K where
  key : ByteArray
  f : Nat → Int
  l : List A
def E.abs (e : E) : K := ⟨e.key, e.f, cont e.l⟩
def absE (t : List E) : List K := t.map E.abs
theorem absE_len (t : List E) : (absE t).length = t.length := by simp [absE]

/-- A key's bytes. -/
def kb (s : ByteArray) : List UInt8 := s.data.toList
theorem kb_inj {s r : ByteArray} (h : kb s = kb r) : s = r := by
  obtain ⟨⟨a⟩⟩ := s
  obtain ⟨⟨b⟩⟩ := r
  have : a = b := h
  rw [this]
/-- Does a key come ahead of another? -/
def blt (a b : ByteArray) : Bool := bytesBefore (kb a) (kb b)
theorem blt_irr (a : ByteArray) : blt a a = false := WideShapes.before_irrefl (.string (kb a))
theorem blt_trans {a b c : ByteArray} (h : blt a b = true) (k : blt b c = true) : blt a c = true := WideShapes.before_trans (a := .string (kb a)) (b := .string (kb b)) (c := .string (kb c)) h k
theorem blt_tot {a b : ByteArray} (h : a ≠ b) : blt a b = true ∨ blt b a = true :=
  ChangeMaps.before_total (a := .string (kb a)) (b := .string (kb b)) ⟨_, rfl⟩ ⟨_, rfl⟩ (fun e => h (kb_inj (by simpa using e)))
theorem blt_ne {a b : ByteArray} (h : blt a b = true) : a ≠ b := fun e => by
  subst e
  rw [blt_irr] at h
  cases h
theorem blt_asym {a b : ByteArray} (h : blt a b = true) : blt b a = false := by
  cases e : blt b a
  · rfl
  · have := blt_trans h e
    rw [blt_irr] at this
    cases this

section
variable {α β : Type} (key : α → ByteArray)
def insG (x : α) : List α → List α
  | [] => [x]
  | y :: r => if blt (key x) (key y) then x :: y :: r else y :: insG x r
def smk (y k : ByteArray) : Bool := kb y == kb k
theorem smk_iff {y k : ByteArray} : smk y k = true ↔ y = k := by
  simp only [smk, beq_iff_eq]
  exact ⟨kb_inj, fun e => by rw [e]⟩
theorem smk_no {y k : ByteArray} : smk y k = false ↔ y ≠ k := by
  rw [← Bool.not_eq_true, smk_iff]
def putG (x : α) (t : List α) : List α := insG key x (t.filter fun y => !smk (key y) (key x))
def fndG (k : ByteArray) (t : List α) : Option α := t.find? fun y => smk (key y) k
def Sor (t : List α) : Prop := t.Pairwise fun x y => blt (key x) (key y) = true

theorem mem_insG {x z : α} : ∀ {t : List α}, z ∈ insG key x t ↔ z = x ∨ z ∈ t
  | [] => by simp [insG]
  | y :: r => by
    unfold insG
    split
    · simp
    · rw [List.mem_cons, mem_insG, List.mem_cons]
      constructor
      · rintro (h | h | h)
        · exact .inr (.inl h)
        · exact .inl h
        · exact .inr (.inr h)
      · rintro (h | h | h)
        · exact .inr (.inl h)
        · exact .inl h
        · exact .inr (.inr h)
theorem len_insG (x : α) : ∀ t : List α, (insG key x t).length = t.length + 1
  | [] => rfl
  | y :: r => by
    unfold insG
    split
    · rfl
    · simp [len_insG x r]
theorem sor_insG {x : α} : ∀ {t : List α}, Sor key t → (∀ y ∈ t, key y ≠ key x) → Sor key (insG key x t)
  | [], _, _ => by simp [insG, Sor]
  | y :: r, h, hx => by
    obtain ⟨h1, h2⟩ := List.pairwise_cons.1 h
    unfold insG
    split
    · rename_i e
      refine List.pairwise_cons.2 ⟨fun z hz => ?_, h⟩
      rcases List.mem_cons.1 hz with rfl | hz
      · exact e
      · exact blt_trans e (h1 z hz)
    · rename_i e
      refine List.pairwise_cons.2 ⟨fun z hz => ?_, sor_insG h2 (fun z hz => hx z (List.mem_cons_of_mem _ hz))⟩
      rcases (mem_insG key).1 hz with rfl | hz
      · rcases blt_tot (hx y (List.mem_cons_self ..)) with h | h
        · exact h
        · exact absurd h e
      · exact h1 z hz
theorem mem_putG {x z : α} {t : List α} : z ∈ putG key x t ↔ z = x ∨ z ∈ t ∧ key z ≠ key x := by
  unfold putG
  rw [mem_insG, List.mem_filter, Bool.not_eq_true', smk_no]
theorem sor_putG {x : α} {t : List α} (h : Sor key t) : Sor key (putG key x t) := by
  refine sor_insG key (List.Pairwise.sublist List.filter_sublist h) (fun y hy => ?_)
  rw [List.mem_filter, Bool.not_eq_true', smk_no] at hy
  exact hy.2
theorem sor_eq {t : List α} (h : Sor key t) {x y : α} (hx : x ∈ t) (hy : y ∈ t) (e : key x = key y) : x = y := by
  induction t with
  | nil => simp at hx
  | cons z r ih =>
    obtain ⟨h1, h2⟩ := List.pairwise_cons.1 h
    rcases List.mem_cons.1 hx with e1 | hx'
    · rcases List.mem_cons.1 hy with e2 | hy'
      · rw [e1, e2]
      · rw [e1] at e
        exact absurd e (blt_ne (h1 y hy'))
    · rcases List.mem_cons.1 hy with e2 | hy'
      · rw [e2] at e
        exact absurd e.symm (blt_ne (h1 x hx'))
      · exact ih h2 hx' hy'
theorem fnd_some {t : List α} (h : Sor key t) {k : ByteArray} {x : α} : fndG key k t = some x ↔ x ∈ t ∧ key x = k := by
  constructor
  · intro e
    exact ⟨List.mem_of_find?_eq_some e, smk_iff.1 (List.find?_some (p := fun y => smk (key y) k) e)⟩
  · rintro ⟨hx, hk⟩
    cases e : fndG key k t with
    | none =>
      have := List.find?_eq_none.1 e x hx
      rw [smk_iff] at this
      exact absurd hk this
    | some y =>
      have h1 : y ∈ t ∧ key y = k := ⟨List.mem_of_find?_eq_some e, smk_iff.1 (List.find?_some (p := fun y => smk (key y) k) e)⟩
      rw [sor_eq key h h1.1 hx (h1.2.trans hk.symm)]
theorem fnd_mem {t : List α} {k : ByteArray} {x : α} (e : fndG key k t = some x) : x ∈ t ∧ key x = k :=
  ⟨List.mem_of_find?_eq_some e, smk_iff.1 (List.find?_some (p := fun y => smk (key y) k) e)⟩
theorem fnd_none {t : List α} {k : ByteArray} : fndG key k t = none ↔ ∀ x ∈ t, key x ≠ k := by
  unfold fndG
  rw [List.find?_eq_none]
  simp only [smk_iff]
  try exact Iff.rfl
theorem sor_ext : ∀ {t r : List α}, Sor key t → Sor key r → (∀ z, z ∈ t ↔ z ∈ r) → t = r
  | [], [], _, _, _ => rfl
  | [], y :: r, _, _, h => by have := (h y).2 (List.mem_cons_self ..); simp at this
  | x :: t, [], _, _, h => by have := (h x).1 (List.mem_cons_self ..); simp at this
  | x :: t, y :: r, h1, h2, h => by
    obtain ⟨a1, a2⟩ := List.pairwise_cons.1 h1
    obtain ⟨b1, b2⟩ := List.pairwise_cons.1 h2
    have e : x = y := by
      rcases List.mem_cons.1 ((h x).1 (List.mem_cons_self ..)) with e | hx
      · exact e
      · rcases List.mem_cons.1 ((h y).2 (List.mem_cons_self ..)) with e | hy
        · exact e.symm
        · have c1 := a1 y hy
          have c2 := b1 x hx
          rw [blt_asym c1] at c2
          cases c2
    subst e
    congr 1
    refine sor_ext a2 b2 (fun z => ?_)
    have hz := h z
    rw [List.mem_cons, List.mem_cons] at hz
    constructor
    · intro m
      rcases hz.1 (.inr m) with e | m'
      · subst e
        exact absurd rfl (blt_ne (a1 z m))
      · exact m'
    · intro m
      rcases hz.2 (.inr m) with e | m'
      · subst e
        exact absurd rfl (blt_ne (b1 z m))
      · exact m'
theorem fnd_put_same {x : α} {t : List α} (h : Sor key t) : fndG key (key x) (putG key x t) = some x :=
  (fnd_some key (sor_putG key h)).2 ⟨(mem_putG key).2 (.inl rfl), rfl⟩
theorem fnd_put_other {x : α} {t : List α} (h : Sor key t) {k : ByteArray} (hk : k ≠ key x) : fndG key k (putG key x t) = fndG key k t := by
  cases e : fndG key k t with
  | none =>
    rw [fnd_none] at e ⊢
    intro z hz
    rcases (mem_putG key).1 hz with rfl | ⟨hz, -⟩
    · exact fun e => hk e.symm
    · exact e z hz
  | some y =>
    obtain ⟨h1, h2⟩ := (fnd_some key h).1 e
    exact (fnd_some key (sor_putG key h)).2 ⟨(mem_putG key).2 (.inr ⟨h1, fun e => hk (h2 ▸ e)⟩), h2⟩
theorem filter_len {t : List α} (h : Sor key t) (k : ByteArray) : (t.filter fun y => !smk (key y) k).length + (if (fndG key k t).isSome then 1 else 0) = t.length := by
  induction t with
  | nil => simp [fndG]
  | cons z r ih =>
    obtain ⟨h1, h2⟩ := List.pairwise_cons.1 h
    have := ih h2
    cases e : smk (key z) k
    · have e2 : fndG key k (z :: r) = fndG key k r := by
        unfold fndG
        rw [List.find?_cons, e]
      rw [e2]
      have e3 : ((z :: r).filter fun y => !smk (key y) k).length = (r.filter fun y => !smk (key y) k).length + 1 := by
        rw [List.filter_cons, e]
        simp
      rw [e3, List.length_cons]
      omega
    · have e2 : fndG key k r = none := (fnd_none key).2 (fun y hy => by
        rw [← smk_iff.1 e]
        exact fun e => blt_ne (h1 y hy) e.symm)
      rw [e2] at this
      simp only [fndG, List.find?_cons, e, List.filter_cons, Bool.not_true, List.length_cons]
      simpa using this
theorem len_putG {x : α} {t : List α} (h : Sor key t) : (putG key x t).length = if (fndG key (key x) t).isSome then t.length else t.length + 1 := by
  have := filter_len key h (key x)
  unfold putG
  rw [len_insG]
  split at this
  · rename_i e
    rw [if_pos e]
    omega
  · rename_i e
    rw [if_neg e]
    omega
variable {key} {key' : β → ByteArray} {g : α → β}
theorem map_insG (hg : ∀ x, key' (g x) = key x) (x : α) : ∀ t : List α, (insG key x t).map g = insG key' (g x) (t.map g)
  | [] => rfl
  | y :: r => by
    simp only [insG, List.map_cons, hg]
    split
    · rfl
    · rw [List.map_cons, map_insG hg x r]
theorem map_putG (hg : ∀ x, key' (g x) = key x) (x : α) (t : List α) : (putG key x t).map g = putG key' (g x) (t.map g) := by
  unfold putG
  rw [map_insG hg, List.filter_map]
  simp only [Function.comp_def, hg]
theorem map_fndG (hg : ∀ x, key' (g x) = key x) (k : ByteArray) (t : List α) : (fndG key k t).map g = fndG key' k (t.map g) := by
  unfold fndG
  rw [List.find?_map]
  simp only [Function.comp_def, hg]
theorem map_sor (hg : ∀ x, key' (g x) = key x) {t : List α} : Sor key' (t.map g) ↔ Sor key t := by
  unfold Sor
  rw [List.pairwise_map]
  simp only [hg]
end
theorem abs_key (e : E) : e.abs.key = e.key := rfl
theorem abs_put (x : E) (t : List E) : absE (putG E.key x t) = putG K.key x.abs (absE t) := map_putG abs_key x t
theorem abs_fnd (k : ByteArray) (t : List E) : (fndG E.key k t).map E.abs = fndG K.key k (absE t) := map_fndG abs_key k t
theorem abs_sor {t : List E} : Sor K.key (absE t) ↔ Sor E.key t := map_sor abs_key

/-- A table as the map's datum. -/
def kl (s : ByteArray) : Lit := .string (kb s)
def E.val (e : E) : Value := .agg #[.int .i64 (e.f 0), .int .i64 (e.f 1), .int .i64 (e.f 2), .int .i64 (e.f 3), .int .i64 (e.f 4), .int .i64 (e.f 5), .int .i64 (e.f 6), .int .i64 (e.f 7), .slice e.a e.l.length e.cap]
def pr (e : E) : Lit × DataW Value := (kl e.key, .held e.val)
def datum (t : List E) : DataW Value := .map (t.map pr)
def hR (v : Value) : Option (DataW Value × List MemPlace) := some (.held v, [])
def zE (k : ByteArray) : E := ⟨k, zer, none, 0, []⟩
/-- What a look-up tells: the entry, or one of nothing. -/
def getE (t : List E) (k : ByteArray) : E := (fndG E.key k t).getD (zE k)
theorem find_datum (t : List E) (k : ByteArray) : (t.map pr).find? (fun p => p.1.sameKey (kl k)) = (fndG E.key k t).map pr := by
  unfold fndG
  rw [List.find?_map]
  rfl
theorem has_datum (t : List E) (k : ByteArray) : Maps.has (datum t) (kl k) = (fndG E.key k t).isSome := by
  show (t.map pr).any (fun p => p.1.sameKey (kl k)) = _
  rw [List.any_map]
  unfold fndG
  rw [List.isSome_find?]
  rfl
theorem at_datum (t : List E) (k : ByteArray) : (datum t).atKey (kl k) (.held (zE k).val) = .held (getE t k).val := by
  unfold datum DataW.atKey getE
  simp only [find_datum]
  cases fndG E.key k t <;> rfl
theorem ins_datum (x : E) : ∀ t : List E, DataW.insert (pr x) (t.map pr) = (insG E.key x t).map pr
  | [] => rfl
  | y :: r => by
    rw [List.map_cons]
    unfold DataW.insert insG
    have : (pr x).1.before (pr y).1 = blt x.key y.key := rfl
    rw [this]
    split
    · rfl
    · rw [List.map_cons, ins_datum x r]
theorem put_datum (x : E) (t : List E) : (datum t).put (kl x.key) (.held x.val) = datum (putG E.key x t) := by
  show DataW.map (DataW.insert (kl x.key, .held x.val) ((t.map pr).filter fun p => !p.1.sameKey (kl x.key))) = _
  have : (t.map pr).filter (fun p => !p.1.sameKey (kl x.key)) = (t.filter fun y => !smk y.key x.key).map pr := by
    rw [List.filter_map]
    rfl
  rw [this]
  exact congrArg DataW.map (ins_datum x _)
theorem size_datum (t : List E) : Maps.size (datum t) = t.length := by
  show (t.map pr).length = _
  rw [List.length_map]
theorem strKeys_datum (t : List E) : strKeys (datum t) = t.map fun e => kb e.key := by
  show (t.map pr).map (fun p => Go.strOf p.1) = _
  rw [List.map_map]
  rfl
end Go.Proofs.Ytbagahlphnafdaa

/- A table in memory: the map's block, the rows that its elements lead to; what turns, and what does not. -/
namespace Go.Proofs.Ytbagahlphnafdaa
open Go.RowKit

theorem Try.lawK : Maps.Keyed Try.prog 9 := Maps.string_keyed Try.underlying9
theorem Try.zeroS (k : ByteArray) (w : World) : (zeroValue 35).run Try.prog w = .ok (zE k).val w := by kernel_rfl

/-- No number lies in these blocks. -/
structure NoI (D : Nat → Prop) (w : World) : Prop where
  no : ∀ x : Addr, D x.block → ∀ k n, w.cell? x ≠ some (.int k n)
theorem Src.offN {D : Nat → Prop} {w w' : World} {tad : Option Addr} {cap : Nat} {bs : List Nat} (h : Src w tad cap bs) (o : Off D w w') (hN : NoI D w) : Src w' tad cap bs := by
  rcases h.is with h0 | ⟨ad, rfl, h0⟩
  · exact ⟨.inl h0⟩
  · refine ⟨.inr ⟨ad, rfl, fun j u hj => ?_⟩⟩
    have h1 := h0 j u hj
    obtain ⟨x, hx⟩ : ∃ x, u = .int .u8 x := by
      simp only [vl, List.getElem?_map, Option.map_eq_some_iff] at hj
      obtain ⟨x, -, hx⟩ := hj
      exact ⟨_, hx.symm⟩
    rw [← h1]
    exact World.cell?_of_block (o.block _ (cell_lt h1) (fun e => hN.no _ e _ _ (hx ▸ h1)))
theorem Row.offN {D : Nat → Prop} {w w' : World} {a : Option Addr} {cap : Nat} {l : List V} (h : Row w a cap l) (o : Off D w w') (hN : NoI D w) : Row w' a cap l :=
  ⟨h.len, h.bound, fun i v hi => by
    obtain ⟨b, off, e, h1, h2⟩ := h.at_ i v hi
    exact ⟨b, off, e, h1.off o (fun _ hd => hN.no ⟨b, off + i * 4, none⟩ hd _ _ h1.c0), ⟨h2.src.offN o hN, h2.lt, h2.n0, h2.n1, h2.m0, h2.m1, h2.len⟩⟩⟩
theorem NoI.none (w : World) : NoI (fun _ => False) w := ⟨fun _ h => h.elim⟩
theorem Cel.noI {q : Nat} {t : TypeId} {u : Value} {w : World} (h : Cel q t #[u] w) (hu : ∀ k n, u ≠ .int k n) : NoI (fun c => c = q) w := by
  refine ⟨fun x hx k n e => ?_⟩
  obtain ⟨b, o, s⟩ := x
  have hx : b = q := hx
  subst hx
  unfold World.cell? at e
  rw [h.is] at e
  cases s with
  | some s => simp at e
  | none =>
    cases o with
    | zero => simp at e; exact hu k n e
    | succ o => simp at e
theorem om_noI {H : Type} {k : TypeId} {R : Value → Option (DataW H × List MemPlace)} {b n : Nat} {D : DataW H} {w : World} (h : w.ownsMap Try.prog k R b n D) : NoI (fun c => c = b) w := by
  obtain ⟨es, clock, hb, -⟩ := h
  refine ⟨fun x hx k n e => ?_⟩
  have hx : x.block = b := hx
  unfold World.cell? at e
  rw [hx, hb] at e
  simp at e
theorem om_ncel {H : Type} {k : TypeId} {R : Value → Option (DataW H × List MemPlace)} {b n : Nat} {D : DataW H} {w : World} (h : w.ownsMap Try.prog k R b n D) {p : Nat} {t : TypeId} {cs : Array Value} (hp : Cel p t cs w) : p ≠ b := by
  obtain ⟨es, clock, hb, -⟩ := h
  intro e
  subst e
  rw [hp.is] at hb
  cases hb
theorem om_off {H : Type} {k : TypeId} {R : Value → Option (DataW H × List MemPlace)} {b n : Nat} {D : DataW H} {w w' : World} {X : Nat → Prop} (h : w.ownsMap Try.prog k R b n D) (o : Off X w w') (hb : ¬ X b) : w'.ownsMap Try.prog k R b n D := by
  have hlt := h.lt
  obtain ⟨es, clock, hh, r⟩ := h
  exact ⟨es, clock, (o.block b hlt hb).trans hh, r⟩

/-- A table: p its struct, b its map. -/
structure Tab (p b : Nat) (t : List E) (w : World) : Prop where
  cel : Cel p 62 #[.map (some b)] w
  own : w.ownsMap Try.prog 9 hR b t.length (datum t)
  sor : Sor E.key t
  row : ∀ e ∈ t, Row w e.a e.cap e.l
  len : ∀ e ∈ t, e.key.size ≤ 32
  few : t.length ≤ 256
theorem Tab.off {p b : Nat} {t : List E} {w w' : World} {D : Nat → Prop} (h : Tab p b t w) (o : Off D w w') (hp : ¬ D p) (hb : ¬ D b) (hN : NoI D w) : Tab p b t w' :=
  ⟨h.cel.off o hp, om_off h.own o hb, h.sor, fun e he => (h.row e he).offN o hN, h.len, h.few⟩
theorem Tab.free {p b : Nat} {t : List E} {w w' : World} (h : Tab p b t w) (o : Off (fun _ => False) w w') : Tab p b t w' := h.off o (fun h => h) (fun h => h) (NoI.none w)
theorem Tab.drew {p b : Nat} {t : List E} {w : World} (h : Tab p b t w) : Tab p b t w.drew := h.free (Off.refl _ w).drew
theorem Tab.noI {p b : Nat} {t : List E} {w : World} (h : Tab p b t w) : NoI (fun c => c = b) w := om_noI h.own
theorem Tab.ne {p b : Nat} {t : List E} {w : World} (h : Tab p b t w) {q : Nat} {ty : TypeId} {cs : Array Value} (hq : Cel q ty cs w) : q ≠ b := om_ncel h.own hq
theorem Tab.ltb {p b : Nat} {t : List E} {w : World} (h : Tab p b t w) : b < w.heap.size := h.own.lt
/-- Behind a call on another table. -/
theorem Tab.beside {p b c : Nat} {t s : List E} {q : Nat} {w w' : World} (h : Tab p b t w) (k : Tab q c s w) (o : Off (fun x => x = c) w w') (hb : b ≠ c) : Tab p b t w' :=
  h.off o (k.ne h.cel) hb k.noI
theorem getE_row {p b : Nat} {t : List E} {w : World} (h : Tab p b t w) (k : ByteArray) : Row w (getE t k).a (getE t k).cap (getE t k).l := by
  unfold getE
  cases e : fndG E.key k t with
  | none => exact Row.nil w none 0 (by omega)
  | some x => exact h.row x (fnd_mem E.key e).1
theorem kl_key {k : ByteArray} (hk : k.size ≤ maxLen) : keyOf Try.prog 9 (.string k) = some (kl k) := WideMaps.keyOf_string_mk Try.underlying9 hk
theorem Tab.look {p b : Nat} {t : List E} {w : World} (h : Tab p b t w) {k : ByteArray} (hk : k.size ≤ maxLen) :
    (Instr.lookup 60 (.map (some b)) (.string k) true).run Try.prog w = .ok (.tuple #[(getE t k).val, .bool (fndG E.key k t).isSome]) w := by
  obtain ⟨v, ps, hr, hv⟩ := h.own.look_ok Try.lawK Try.underlying60 (Try.zeroS k w) (zd := .held (zE k).val) (zp := []) rfl (kl_key hk)
  rw [has_datum] at hr
  rw [at_datum] at hv
  have e : v = (getE t k).val := by
    simp only [hR, Option.some.injEq, Prod.mk.injEq, DataW.held.injEq] at hv
    exact hv.1
  rw [e] at hr
  exact hr
theorem Tab.look1 {p b : Nat} {t : List E} {w : World} (h : Tab p b t w) {k : ByteArray} (hk : k.size ≤ maxLen) :
    (Instr.lookup 60 (.map (some b)) (.string k) false).run Try.prog w = .ok (getE t k).val w := by
  obtain ⟨v, ps, hr, hv⟩ := h.own.lookup Try.lawK Try.underlying60 (Try.zeroS k w) (zd := .held (zE k).val) (zp := []) rfl (kl_key hk)
  rw [at_datum] at hv
  have e : v = (getE t k).val := by
    simp only [hR, Option.some.injEq, Prod.mk.injEq, DataW.held.injEq] at hv
    exact hv.1
  rw [e] at hr
  exact hr
theorem Tab.len_ {p b : Nat} {t : List E} {w : World} (h : Tab p b t w) (ty : TypeId) : (Builtin.len_ #[60] ty #[.map (some b)]).run Try.prog w = .ok (.int .i64 (t.length : Int)) w := by
  have := h.own.len Try.underlying60 ty
  rw [size_datum] at this
  exact this
theorem om_tight {H : Type} {k : TypeId} {R : Value → Option (DataW H × List MemPlace)} {b n : Nat} {D : DataW H} {w : World} (h : w.ownsMap Try.prog k R b n D) : w.ownsMap Try.prog k R b (Maps.size D) D := by
  obtain ⟨es, clock, hb, F, hs, hD⟩ := h
  refine ⟨es, clock, hb, F, ?_, hD⟩
  rw [hD]
  show es.size ≤ ((es.toList.map _).foldr DataW.insert []).length
  rw [length_sorted]
  simp
theorem Tab.put {p b : Nat} {t : List E} {w : World} (h : Tab p b t w) (x : E) (hr : Row w x.a x.cap x.l) (hk : x.key.size ≤ 32) (hn : (putG E.key x t).length ≤ 256) :
    ∃ w', (Instr.mapUpdate 60 (.map (some b)) (.string x.key) x.val).run Try.prog w = .ok () w' ∧ Tab p b (putG E.key x t) w' ∧ Off (fun c => c = b) w w' := by
  obtain ⟨w', h1, h2, h3⟩ := h.own.update Try.lawK Try.underlying60 (by have := h.few; unfold maxLen; omega) (kl_key (k := x.key) (by unfold maxLen; omega)) (val := x.val) (d := .held x.val) (ps := []) rfl
  have o : Off (fun c => c = b) w w' := (Off.refl _ w).grown h3 (fun k hk => .inl (by simpa using hk.symm))
  refine ⟨w', h1, ⟨h.cel.off o (h.ne h.cel), ?_, sor_putG E.key h.sor, fun e he => ?_, fun e he => ?_, hn⟩, o⟩
  · rw [put_datum] at h2
    have := om_tight h2
    rw [size_datum] at this
    exact this
  · rcases (mem_putG E.key).1 he with rfl | ⟨he, -⟩
    · exact hr.offN o h.noI
    · exact (h.row e he).offN o h.noI
  · rcases (mem_putG E.key).1 he with rfl | ⟨he, -⟩
    · exact hk
    · exact h.len e he
theorem put_len {t : List E} (h : Sor E.key t) (x : E) : (putG E.key x t).length ≤ t.length + 1 := by
  rw [len_putG E.key h]
  split <;> omega

theorem eql_map (b : Option Nat) (W : World) : (binOp .eql 60 (.map b) (.map none)).run Try.prog W = .ok (.bool b.isNone) W := by
  cases b <;> kernel_rfl
theorem eql_ptr (a : Option Addr) (W : World) : (binOp .eql 26 (.pointer a) (.pointer none)).run Try.prog W = .ok (.bool a.isNone) W := by
  cases a <;> kernel_rfl

theorem tnew_any (w : World) : Calls Try.prog 11 #[] w fun e w' => ∃ p b, e = .returned (.pointer (some ⟨p, 0, none⟩)) ∧ Tab p b [] w' ∧ w.heap.size ≤ p ∧ w.heap.size ≤ b ∧ Off (fun _ => False) w w' := by
  have hmm := @run_makeMap Try.prog
  have C : Cel (w.heap.size + 1) 62 #[.map (some w.heap.size)] ((w.alloc (.map #[] 0)).alloc (.cells #[.map (some w.heap.size)] 62)) := by
    have := Cel.new (w.alloc (.map #[] 0)) 62 #[.map (some w.heap.size)]
    simpa using this
  have O : Off (fun _ => False) w ((w.alloc (.map #[] 0)).alloc (.cells #[.map (some w.heap.size)] 62)) := ((Off.refl _ w).alloc _).alloc _
  have M : (w.alloc (.map #[] 0)).ownsMap Try.prog 9 hR w.heap.size 0 (datum []) := World.ownsMap_made w Try.prog 9 hR
  go_enter Try.func11, Try.ntmps11
  go_wp2_with fail
  go_ret
  refine ⟨w.heap.size + 1, w.heap.size, rfl, ⟨C, M.alloc _, List.Pairwise.nil, fun e he => by simp at he, fun e he => by simp at he, by simp⟩, by omega, by omega, O⟩
end Go.Proofs.Ytbagahlphnafdaa
