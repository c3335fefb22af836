/- Members as data; rows of members. -/
import Derived.Test.YtakijikehpblfaaMc16
import Derived.Test.YtakijikehpblfaaGro14
import Derived.Deep.SlicePairs
import Derived.Deep.RegionHeld
import Derived.Deep.Cut
namespace Go.Proofs.Ytakijikehpblfaa
set_option maxRecDepth 100000
open Go.RowKit Go.ChangeShapes Go.WideShapes Go.ChangeAt

theorem j_comm (s i t j : Int) : jS t j s i = jS s i t j ∧ jI t j s i = jI s i t j := by
  unfold jS jI
  constructor <;> (repeat split) <;> omega
theorem j_self (s i : Int) : jS s i s i = s ∧ jI s i s i = i := by
  unfold jS jI
  constructor <;> (repeat split) <;> omega
theorem jI_max (s i t j : Int) : jI s i t j = max i j := by
  unfold jI
  (repeat split) <;> omega
theorem j_assoc (s i t j u k : Int) : jS (jS s i t j) (jI s i t j) u k = jS s i (jS t j u k) (jI t j u k) ∧ jI (jS s i t j) (jI s i t j) u k = jI s i (jS t j u k) (jI t j u k) := by
  constructor
  · rw [jI_max, jI_max]
    unfold jS
    (repeat split) <;> omega
  · simp only [jI_max]
    omega
theorem j_above (s i t j : Int) : leqM s i (jS s i t j) (jI s i t j) = true := by
  simp only [leqM, eqM, decide_eq_true_eq]
  have h := j_assoc s i s i t j
  rw [(j_self s i).1, (j_self s i).2] at h
  exact ⟨h.1.symm, h.2.symm⟩
theorem j_above2 (s i t j : Int) : leqM t j (jS s i t j) (jI s i t j) = true := by
  have := j_above t j s i
  rwa [(j_comm s i t j).1, (j_comm s i t j).2] at this
theorem leq_iff (s i t j : Int) : leqM s i t j = true ↔ jS s i t j = t ∧ jI s i t j = j := by simp [leqM, eqM]
theorem leq_tot {s i t j : Int} (h : leqM s i t j = false) : leqM t j s i = true := by
  have h : ¬ leqM s i t j = true := by simp [h]
  rw [leq_iff] at h ⊢
  revert h
  unfold jS jI
  (repeat split) <;> omega
theorem j_least {s i t j u k : Int} (h1 : leqM s i u k = true) (h2 : leqM t j u k = true) : leqM (jS s i t j) (jI s i t j) u k = true := by
  rw [leq_iff] at h1 h2 ⊢
  have h := j_assoc s i t j u k
  rw [h2.1, h2.2, h1.1, h1.2] at h
  exact h
theorem j_may {s i t j : Int} (h1 : mayB s i = true) (h2 : mayB t j = true) : mayB (jS s i t j) (jI s i t j) = true := by
  have k1 := may_of h1
  have k2 := may_of h2
  simp only [mayB, decide_eq_true_eq, jI_max]
  unfold jS
  (repeat split) <;> omega

abbrev Mb := Int × Int
def jn (p q : Mb) : Mb := (jS p.1 p.2 q.1 q.2, jI p.1 p.2 q.1 q.2)
def lq (p q : Mb) : Bool := leqM p.1 p.2 q.1 q.2
theorem lq_iff {p q : Mb} : lq p q = true ↔ jn p q = q := by
  unfold lq jn
  rw [leq_iff]
  constructor
  · rintro ⟨h1, h2⟩; exact Prod.ext h1 h2
  · intro h; exact ⟨congrArg Prod.fst h, congrArg Prod.snd h⟩
theorem jn_comm (p q : Mb) : jn q p = jn p q := Prod.ext (j_comm p.1 p.2 q.1 q.2).1 (j_comm p.1 p.2 q.1 q.2).2
theorem jn_assoc (p q r : Mb) : jn (jn p q) r = jn p (jn q r) := Prod.ext (j_assoc p.1 p.2 q.1 q.2 r.1 r.2).1 (j_assoc p.1 p.2 q.1 q.2 r.1 r.2).2
theorem jn_pick (p q : Mb) : jn p q = p ∨ jn p q = q := by
  obtain ⟨s, i⟩ := p
  obtain ⟨t, j⟩ := q
  show (jS s i t j, jI s i t j) = _ ∨ (jS s i t j, jI s i t j) = _
  simp only [Prod.mk.injEq]
  unfold jS jI
  (repeat split) <;> omega
theorem lq_left (p q : Mb) : lq p (jn p q) = true := j_above _ _ _ _
theorem lq_right (p q : Mb) : lq q (jn p q) = true := j_above2 _ _ _ _
theorem lq_trans {p q r : Mb} (h : lq p q = true) (k : lq q r = true) : lq p r = true := by
  rw [lq_iff] at h k ⊢
  rw [← k, ← jn_assoc, h]
theorem lq_anti {p q : Mb} (h : lq p q = true) (k : lq q p = true) : p = q := by
  rw [lq_iff] at h k
  rw [← h, ← jn_comm, k]
/-- The cells of a member. -/
def mcs (x : Mb) : List Value := [.int .i64 x.1, .int .i64 x.2]
theorem mcs_len (x : Mb) : (mcs x).length = 2 := rfl
theorem mcs_one (x : Mb) : ∀ u ∈ mcs x, u.oneCell' = true := by simp [mcs, Value.oneCell']
theorem Try.infoM : (Try.prog.info? 46).map (fun i => (i.zero, i.size, i.bytes)) = some (some (.agg #[.int .i64 0, .int .i64 0]), 2, 16) := by kernel_rfl
/-- A row of members. -/
structure Mls (w : World) (t : Option Addr) (c : Nat) (l : List Mb) : Prop where
  len : l.length ≤ 9223372036854775807
  at_ : ∀ i x, l[i]? = some x → ∃ g o, t = some ⟨g, o, none⟩ ∧ w.cell? ⟨g, o + i * 2, none⟩ = some (.int .i64 x.1) ∧ w.cell? ⟨g, o + i * 2 + 1, none⟩ = some (.int .i64 x.2)
theorem Mls.offD {D : Nat → Prop} {w w' : World} {t : Option Addr} {c : Nat} {l : List Mb} (h : Mls w t c l) (o : Off D w w') (hD : ∀ k, k < w.heap.size → blk t = some k → ¬ D k) : Mls w' t c l :=
  ⟨h.len, fun i x hi => by
    obtain ⟨g, of, rfl, h1, h2⟩ := h.at_ i x hi
    exact ⟨g, of, rfl, by rw [← h1]; exact World.cell?_of_block (a := ⟨g, of + i * 2, none⟩) (o.block g (cell_lt h1) (hD g (cell_lt h1) rfl)), by rw [← h2]; exact World.cell?_of_block (a := ⟨g, of + i * 2 + 1, none⟩) (o.block g (cell_lt h1) (hD g (cell_lt h1) rfl))⟩⟩
theorem OwnG.atM {e : TypeId} {w : World} {t : Option Addr} {c : Nat} {l : List Mb} (h : OwnG e 2 mcs w t c l) {i : Nat} {x : Mb} (hi : l[i]? = some x) : ∃ g, t = some ⟨g, 0, none⟩ ∧ w.cell? ⟨g, i * 2, none⟩ = some (.int .i64 x.1) ∧ w.cell? ⟨g, i * 2 + 1, none⟩ = some (.int .i64 x.2) := by
  obtain ⟨g, rfl, hc⟩ := h.at_ mcs_len hi
  have c0 := hc 0 _ rfl
  have c1 := hc 1 _ rfl
  exact ⟨g, rfl, by simpa using c0, c1⟩
theorem OwnG.first {e : TypeId} {w : World} {t : Option Addr} {c : Nat} {l : List Mb} (h : OwnG e 2 mcs w t c l) (hl : 0 < l.length) : ∃ g, t = some ⟨g, 0, none⟩ := by
  obtain ⟨g, e, -⟩ := h.atM (List.getElem?_eq_getElem hl)
  exact ⟨g, e⟩
theorem exec_idx {P : Program} {ρ : Operand → Value} {o : Oper} {t : TypeId} {x ix : Operand} {v : Value} {w : World} (ho : o.op = .indexAddr t x ix) (h : (Instr.indexAt t (ρ x) (ρ ix)).run P w = .ok v w) : Sem.run P (execOp ρ o) w = .ok (.value v) w := by
  unfold execOp
  simp only [ho, Sem.run_bind, h, Result.andThen_ok, Sem.run_pure]
theorem idx_mem {m n : Nat} (h : n < m) (c g : Nat) (W : World) : (Instr.indexAt 29 (.slice (some ⟨g, 0, none⟩) m c) (.int .i64 (n : Int))).run Try.prog W = .ok (.pointer (some ⟨g, n * 2, none⟩)) W := by
  go_simp
theorem argL {H : Type} {enc : TypeId × Value → H} {W : World} {B fuel : Nat} {spare : Nat → Bool} {held : Bool} {a : Option Addr} {len c : Nat} {x : DataW H × List MemPlace}
    (hf : DataW.trod enc Try.prog W B spare held fuel 29 (Value.slice a len c).cells.toList = some x) : ∃ ms : List Mb, ms.length = len ∧ Mls W a c ms := by
  rcases Go.Deep.open_slice_pairs Try.underlying29 Try.underlying46 (by kernel_rfl) rfl rfl (by kernel_rfl) (by kernel_rfl) hf with ⟨hcs, _⟩ | ⟨x, l, c, m, n, V0, V1, D0, D1, P0, P1, hcs, _, hl, hm, hmm, _, hx⟩
  · simp [Value.cells] at hcs
    obtain ⟨rfl, rfl, rfl⟩ := hcs
    exact ⟨[], rfl, ⟨by simp, fun i x hi => by simp at hi⟩⟩
  · simp [Value.cells] at hcs
    obtain ⟨rfl, rfl, rfl⟩ := hcs
    unfold maxLen at hm
    have key : ∀ i, i < len → ∃ y : Mb, W.cell? (x.add (i * 2)) = some (.int .i64 y.1) ∧ W.cell? (x.add (i * 2 + 1)) = some (.int .i64 y.2) := fun i hi => by
      have hlm : i < m := by rw [hmm]; split <;> omega
      obtain ⟨c0, c1, g0, g1⟩ := hx i hlm
      obtain ⟨d, e0, -, -⟩ := DataW.trod_int Try.underlying3 g0
      obtain ⟨y, e1, -, -⟩ := DataW.trod_int Try.underlying2 g1
      simp at e0 e1
      rw [e0] at c0
      rw [e1] at c1
      exact ⟨(d, y), c0, c1⟩
    obtain ⟨f, hf⟩ : ∃ f : Nat → Mb, ∀ i, i < len → W.cell? (x.add (i * 2)) = some (.int .i64 (f i).1) ∧ W.cell? (x.add (i * 2 + 1)) = some (.int .i64 (f i).2) :=
      ⟨fun i => if h : i < len then (key i h).choose else (0, 0), fun i hi => by simp only [dif_pos hi]; exact (key i hi).choose_spec⟩
    refine ⟨(List.range len).map f, by simp, ⟨by simp; omega, fun i y hi => ?_⟩⟩
    have hil : i < len := by
      obtain ⟨h, -⟩ := List.getElem?_eq_some_iff.1 hi
      simpa using h
    simp [hil] at hi
    subst hi
    obtain ⟨h0, h1⟩ := hf i hil
    obtain ⟨b, off, spot⟩ := x
    have z0 := (hf 0 (by omega)).1
    have hspot : spot = none := by simpa [Addr.add] using World.cell?_spot z0
    subst hspot
    rw [add_lit] at h0 h1
    exact ⟨b, off, rfl, h0, h1⟩
end Go.Proofs.Ytakijikehpblfaa
