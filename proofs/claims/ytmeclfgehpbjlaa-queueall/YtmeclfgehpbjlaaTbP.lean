/- A table as data: entries that rise by key; one put among them, one found. -/
import Derived.Test.YtmeclfgehpbjlaaRea
import Derived.Test.YtmeclfgehpbjlaaTxt
import Derived.Maps.OwnSet
import Derived.Maps.RangeWalk
import Derived.Maps.Ext
import Derived.Sort.KeysCollected
namespace Go.Proofs.Ytmeclfgehpbjlaa
open Go.RowKit

/-- What is known of a key, and where it lies. -/
structure E where
  key : ByteArray
  f : Nat → Int
  a : Option Addr
  cap : Nat
  l : List V
/-- The same as data. -/
structure K where
  key : ByteArray
  f : Nat → Int
  l : List A
def E.abs (e : E) : K := ⟨e.key, e.f, cont e.l⟩
def absE (t : List E) : List K := t.map E.abs
theorem absE_len (t : List E) : (absE t).length = t.length := by simp [absE]

/-- A key's bytes. -/
def kb (s : ByteArray) : List UInt8 := s.data.toList
theorem kb_inj {s r : ByteArray} (h : kb s = kb r) : s = r := by
  obtain ⟨⟨a⟩⟩ := s
  obtain ⟨⟨b⟩⟩ := r
  have : a = b := h
  rw [this]
/-- Does a key come ahead of another? -/
def blt (a b : ByteArray) : Bool := bytesBefore (kb a) (kb b)
theorem blt_irr (a : ByteArray) : blt a a = false := WideShapes.before_irrefl (.string (kb a))
theorem blt_trans {a b c : ByteArray} (h : blt a b = true) (k : blt b c = true) : blt a c = true := WideShapes.before_trans (a := .string (kb a)) (b := .string (kb b)) (c := .string (kb c)) h k
theorem blt_tot {a b : ByteArray} (h : a ≠ b) : blt a b = true ∨ blt b a = true :=
  ChangeMaps.before_total (a := .string (kb a)) (b := .string (kb b)) ⟨_, rfl⟩ ⟨_, rfl⟩ (fun e => h (kb_inj (by simpa using e)))
theorem blt_ne {a b : ByteArray} (h : blt a b = true) : a ≠ b := fun e => by
  subst e
  rw [blt_irr] at h
  cases h
theorem blt_asym {a b : ByteArray} (h : blt a b = true) : blt b a = false := by
  cases e : blt b a
  · rfl
  · have := blt_trans h e
    rw [blt_irr] at this
    cases this

section
variable {α β : Type} (key : α → ByteArray)
def insG (x : α) : List α → List α
  | [] => [x]
  | y :: r => if blt (key x) (key y) then x :: y :: r else y :: insG x r
def smk (y k : ByteArray) : Bool := kb y == kb k
theorem smk_iff {y k : ByteArray} : smk y k = true ↔ y = k := by
  simp only [smk, beq_iff_eq]
  exact ⟨kb_inj, fun e => by rw [e]⟩
theorem smk_no {y k : ByteArray} : smk y k = false ↔ y ≠ k := by
  rw [← Bool.not_eq_true, smk_iff]
def putG (x : α) (t : List α) : List α := insG key x (t.filter fun y => !smk (key y) (key x))
def fndG (k : ByteArray) (t : List α) : Option α := t.find? fun y => smk (key y) k
def Sor (t : List α) : Prop := t.Pairwise fun x y => blt (key x) (key y) = true

theorem mem_insG {x z : α} : ∀ {t : List α}, z ∈ insG key x t ↔ z = x ∨ z ∈ t
  | [] => by simp [insG]
  | y :: r => by
    unfold insG
    split
    · simp
    · rw [List.mem_cons, mem_insG, List.mem_cons]
      constructor
      · rintro (h | h | h)
        · exact .inr (.inl h)
        · exact .inl h
        · exact .inr (.inr h)
      · rintro (h | h | h)
        · exact .inr (.inl h)
        · exact .inl h
        · exact .inr (.inr h)
theorem len_insG (x : α) : ∀ t : List α, (insG key x t).length = t.length + 1
  | [] => rfl
  | y :: r => by
    unfold insG
    split
    · rfl
    · simp [len_insG x r]
theorem sor_insG {x : α} : ∀ {t : List α}, Sor key t → (∀ y ∈ t, key y ≠ key x) → Sor key (insG key x t)
  | [], _, _ => by simp [insG, Sor]
  | y :: r, h, hx => by
    obtain ⟨h1, h2⟩ := List.pairwise_cons.1 h
    unfold insG
    split
    · rename_i e
      refine List.pairwise_cons.2 ⟨fun z hz => ?_, h⟩
      rcases List.mem_cons.1 hz with rfl | hz
      · exact e
      · exact blt_trans e (h1 z hz)
    · rename_i e
      refine List.pairwise_cons.2 ⟨fun z hz => ?_, sor_insG h2 (fun z hz => hx z (List.mem_cons_of_mem _ hz))⟩
      rcases (mem_insG key).1 hz with rfl | hz
      · rcases blt_tot (hx y (List.mem_cons_self ..)) with h | h
        · exact h
        · exact absurd h e
      · exact h1 z hz
theorem mem_putG {x z : α} {t : List α} : z ∈ putG key x t ↔ z = x ∨ z ∈ t ∧ key z ≠ key x := by
  unfold putG
  rw [mem_insG, List.mem_filter, Bool.not_eq_true', smk_no]
theorem sor_putG {x : α} {t : List α} (h : Sor key t) : Sor key (putG key x t) := by
  refine sor_insG key (List.Pairwise.sublist List.filter_sublist h) (fun y hy => ?_)
  rw [List.mem_filter, Bool.not_eq_true', smk_no] at hy
  exact hy.2
theorem sor_eq {t : List α} (h : Sor key t) {x y : α} (hx : x ∈ t) (hy : y ∈ t) (e : key x = key y) : x = y := by
  induction t with
  | nil => simp at hx
  | cons z r ih =>
    obtain ⟨h1, h2⟩ := List.pairwise_cons.1 h
    rcases List.mem_cons.1 hx with e1 | hx'
    · rcases List.mem_cons.1 hy with e2 | hy'
      · rw [e1, e2]
      · rw [e1] at e
        exact absurd e (blt_ne (h1 y hy'))
    · rcases List.mem_cons.1 hy with e2 | hy'
      · rw [e2] at e
        exact absurd e.symm (blt_ne (h1 x hx'))
      · exact ih h2 hx' hy'
theorem fnd_some {t : List α} (h : Sor key t) {k : ByteArray} {x : α} : fndG key k t = some x ↔ x ∈ t ∧ key x = k := by
  constructor
  · intro e
    exact ⟨List.mem_of_find?_eq_some e, smk_iff.1 (List.find?_some (p := fun y => smk (key y) k) e)⟩
  · rintro ⟨hx, hk⟩
    cases e : fndG key k t with
    | none =>
      have := List.find?_eq_none.1 e x hx
      rw [smk_iff] at this
      exact absurd hk this
    | some y =>
      have h1 : y ∈ t ∧ key y = k := ⟨List.mem_of_find?_eq_some e, smk_iff.1 (List.find?_some (p := fun y => smk (key y) k) e)⟩
      rw [sor_eq key h h1.1 hx (h1.2.trans hk.symm)]
theorem fnd_mem {t : List α} {k : ByteArray} {x : α} (e : fndG key k t = some x) : x ∈ t ∧ key x = k :=
  ⟨List.mem_of_find?_eq_some e, smk_iff.1 (List.find?_some (p := fun y => smk (key y) k) e)⟩
theorem fnd_none {t : List α} {k : ByteArray} : fndG key k t = none ↔ ∀ x ∈ t, key x ≠ k := by
  unfold fndG
  rw [List.find?_eq_none]
  simp only [smk_iff]
  try exact Iff.rfl
theorem sor_ext : ∀ {t r : List α}, Sor key t → Sor key r → (∀ z, z ∈ t ↔ z ∈ r) → t = r
  | [], [], _, _, _ => rfl
  | [], y :: r, _, _, h => by have := (h y).2 (List.mem_cons_self ..); simp at this
  | x :: t, [], _, _, h => by have := (h x).1 (List.mem_cons_self ..); simp at this
  | x :: t, y :: r, h1, h2, h => by
    obtain ⟨a1, a2⟩ := List.pairwise_cons.1 h1
    obtain ⟨b1, b2⟩ := List.pairwise_cons.1 h2
    have e : x = y := by
      rcases List.mem_cons.1 ((h x).1 (List.mem_cons_self ..)) with e | hx
      · exact e
      · rcases List.mem_cons.1 ((h y).2 (List.mem_cons_self ..)) with e | hy
        · exact e.symm
        · have c1 := a1 y hy
          have c2 := b1 x hx
          rw [blt_asym c1] at c2
          cases c2
    subst e
    congr 1
    refine sor_ext a2 b2 (fun z => ?_)
    have hz := h z
    rw [List.mem_cons, List.mem_cons] at hz
    constructor
    · intro m
      rcases hz.1 (.inr m) with e | m'
      · subst e
        exact absurd rfl (blt_ne (a1 z m))
      · exact m'
    · intro m
      rcases hz.2 (.inr m) with e | m'
      · subst e
        exact absurd rfl (blt_ne (b1 z m))
      · exact m'
theorem fnd_put_same {x : α} {t : List α} (h : Sor key t) : fndG key (key x) (putG key x t) = some x :=
  (fnd_some key (sor_putG key h)).2 ⟨(mem_putG key).2 (.inl rfl), rfl⟩
theorem fnd_put_other {x : α} {t : List α} (h : Sor key t) {k : ByteArray} (hk : k ≠ key x) : fndG key k (putG key x t) = fndG key k t := by
  cases e : fndG key k t with
  | none =>
    rw [fnd_none] at e ⊢
    intro z hz
    rcases (mem_putG key).1 hz with rfl | ⟨hz, -⟩
    · exact fun e => hk e.symm
    · exact e z hz
  | some y =>
    obtain ⟨h1, h2⟩ := (fnd_some key h).1 e
    exact (fnd_some key (sor_putG key h)).2 ⟨(mem_putG key).2 (.inr ⟨h1, fun e => hk (h2 ▸ e)⟩), h2⟩
theorem filter_len {t : List α} (h : Sor key t) (k : ByteArray) : (t.filter fun y => !smk (key y) k).length + (if (fndG key k t).isSome then 1 else 0) = t.length := by
  induction t with
  | nil => simp [fndG]
  | cons z r ih =>
    obtain ⟨h1, h2⟩ := List.pairwise_cons.1 h
    have := ih h2
    cases e : smk (key z) k
    · have e2 : fndG key k (z :: r) = fndG key k r := by
        unfold fndG
        rw [List.find?_cons, e]
      rw [e2]
      have e3 : ((z :: r).filter fun y => !smk (key y) k).length = (r.filter fun y => !smk (key y) k).length + 1 := by
        rw [List.filter_cons, e]
        simp
      rw [e3, List.length_cons]
      omega
    · have e2 : fndG key k r = none := (fnd_none key).2 (fun y hy => by
        rw [← smk_iff.1 e]
        exact fun e => blt_ne (h1 y hy) e.symm)
      rw [e2] at this
      simp only [fndG, List.find?_cons, e, List.filter_cons, Bool.not_true, List.length_cons]
      simpa using this
theorem len_putG {x : α} {t : List α} (h : Sor key t) : (putG key x t).length = if (fndG key (key x) t).isSome then t.length else t.length + 1 := by
  have := filter_len key h (key x)
  unfold putG
  rw [len_insG]
  split at this
  · rename_i e
    rw [if_pos e]
    omega
  · rename_i e
    rw [if_neg e]
    omega
variable {key} {key' : β → ByteArray} {g : α → β}
theorem map_insG (hg : ∀ x, key' (g x) = key x) (x : α) : ∀ t : List α, (insG key x t).map g = insG key' (g x) (t.map g)
  | [] => rfl
  | y :: r => by
    simp only [insG, List.map_cons, hg]
    split
    · rfl
    · rw [List.map_cons, map_insG hg x r]
theorem map_putG (hg : ∀ x, key' (g x) = key x) (x : α) (t : List α) : (putG key x t).map g = putG key' (g x) (t.map g) := by
  unfold putG
  rw [map_insG hg, List.filter_map]
  simp only [Function.comp_def, hg]
theorem map_fndG (hg : ∀ x, key' (g x) = key x) (k : ByteArray) (t : List α) : (fndG key k t).map g = fndG key' k (t.map g) := by
  unfold fndG
  rw [List.find?_map]
  simp only [Function.comp_def, hg]
theorem map_sor (hg : ∀ x, key' (g x) = key x) {t : List α} : Sor key' (t.map g) ↔ Sor key t := by
  unfold Sor
  rw [List.pairwise_map]
  simp only [hg]
end
theorem abs_key (e : E) : e.abs.key = e.key := rfl
theorem abs_put (x : E) (t : List E) : absE (putG E.key x t) = putG K.key x.abs (absE t) := map_putG abs_key x t
theorem abs_fnd (k : ByteArray) (t : List E) : (fndG E.key k t).map E.abs = fndG K.key k (absE t) := map_fndG abs_key k t
theorem abs_sor {t : List E} : Sor K.key (absE t) ↔ Sor E.key t := map_sor abs_key

/-- A table as the map's datum. -/
def kl (s : ByteArray) : Lit := .string (kb s)
def E.val (e : E) : Value := .agg #[.int .i64 (e.f 0), .int .i64 (e.f 1), .int .i64 (e.f 2), .int .i64 (e.f 3), .int .i64 (e.f 4), .int .i64 (e.f 5), .int .i64 (e.f 6), .int .i64 (e.f 7), .slice e.a e.l.length e.cap]
def pr (e : E) : Lit × DataW Value := (kl e.key, .held e.val)
def datum (t : List E) : DataW Value := .map (t.map pr)
def hR (v : Value) : Option (DataW Value × List MemPlace) := some (.held v, [])
def zE (k : ByteArray) : E := ⟨k, zer, none, 0, []⟩
/-- What a look-up tells: the entry, or one of nothing. -/
def getE (t : List E) (k : ByteArray) : E := (fndG E.key k t).getD (zE k)
theorem find_datum (t : List E) (k : ByteArray) : (t.map pr).find? (fun p => p.1.sameKey (kl k)) = (fndG E.key k t).map pr := by
  unfold fndG
  rw [List.find?_map]
  rfl
theorem has_datum (t : List E) (k : ByteArray) : Maps.has (datum t) (kl k) = (fndG E.key k t).isSome := by
  show (t.map pr).any (fun p => p.1.sameKey (kl k)) = _
  rw [List.any_map]
  unfold fndG
  rw [List.isSome_find?]
  rfl
theorem at_datum (t : List E) (k : ByteArray) : (datum t).atKey (kl k) (.held (zE k).val) = .held (getE t k).val := by
  unfold datum DataW.atKey getE
  simp only [find_datum]
  cases fndG E.key k t <;> rfl
theorem ins_datum (x : E) : ∀ t : List E, DataW.insert (pr x) (t.map pr) = (insG E.key x t).map pr
  | [] => rfl
  | y :: r => by
    rw [List.map_cons]
    unfold DataW.insert insG
    have : (pr x).1.before (pr y).1 = blt x.key y.key := rfl
    rw [this]
    split
    · rfl
    · rw [List.map_cons, ins_datum x r]
theorem put_datum (x : E) (t : List E) : (datum t).put (kl x.key) (.held x.val) = datum (putG E.key x t) := by
  show DataW.map (DataW.insert (kl x.key, .held x.val) ((t.map pr).filter fun p => !p.1.sameKey (kl x.key))) = _
  have : (t.map pr).filter (fun p => !p.1.sameKey (kl x.key)) = (t.filter fun y => !smk y.key x.key).map pr := by
    rw [List.filter_map]
    rfl
  rw [this]
  exact congrArg DataW.map (ins_datum x _)
theorem size_datum (t : List E) : Maps.size (datum t) = t.length := by
  show (t.map pr).length = _
  rw [List.length_map]
theorem strKeys_datum (t : List E) : strKeys (datum t) = t.map fun e => kb e.key := by
  show (t.map pr).map (fun p => Go.strOf p.1) = _
  rw [List.map_map]
  rfl
end Go.Proofs.Ytmeclfgehpbjlaa
