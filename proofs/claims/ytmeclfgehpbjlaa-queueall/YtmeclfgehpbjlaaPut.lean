/- The contract of sibs.Put. -/
import Derived.Test.YtmeclfgehpbjlaaJoi
import Derived.Deep.Cut
namespace Go.Proofs.Ytmeclfgehpbjlaa
open Go.RowKit

theorem next_ext {f g : Nat → Int} (h : ∀ j, j < 8 → f j = g j) (n : Int) : nextV f n = nextV g n := by
  unfold nextV
  by_cases hn : nodeB n = false
  · simp [hn]
  · have : n.toNat < 8 := by
      simp [nodeB] at hn
      omega
    rw [h _ this]
theorem with_ext {f g : Nat → Int} (h : ∀ j, j < 8 → f j = g j) (n N : Int) : ∀ j, j < 8 → withV f n N j = withV g n N j := by
  intro j hj
  unfold withV
  by_cases hn : nodeB n = true
  · have : n.toNat < 8 := by
      simp [nodeB] at hn
      omega
    simp only [hn, if_true, upd]
    rw [h _ this, h j hj]
  · simp [hn, h j hj]
theorem nc_ext {f g : Nat → Int} (h : ∀ j, j < 8 → f j = g j) : nc f = nc g := by
  funext x
  unfold nc coversB
  by_cases hn : 0 ≤ x.node ∧ x.node < 8
  · rw [h _ (by omega)]
  · have e : ∀ P : Prop, ¬ (0 ≤ x.node ∧ x.node < 8 ∧ P) := fun P hp => hn ⟨hp.1, hp.2.1⟩
    simp [e]
theorem results_err9 {fn : Func} {p u : Tmp} (h : fn.results = #[.cell p 94, .tmp u]) {tmps : Array Value} {w : World} {b : Nat} (hp : tmps.getD p undef = .pointer (some ⟨b, 0, none⟩)) {v : Value} (hu : tmps.getD u undef = v) (hc : Cel b 94 #[.int .i64 0, .int .i64 0, .int .i64 0, .int .i64 0, .int .i64 0, .int .i64 0, .int .i64 0, .int .i64 0, .slice none 0 0] w) :
    (results fn tmps).run Try.prog w = .ok (.tuple #[.agg #[.int .i64 0, .int .i64 0, .int .i64 0, .int .i64 0, .int .i64 0, .int .i64 0, .int .i64 0, .int .i64 0, .slice none 0 0], v]) w := by
  rw [results_cell_tmp h]
  have ha : (asAddr (.pointer (some ⟨b, 0, none⟩))).run Try.prog w = .ok ⟨b, 0, none⟩ w := rfl
  rw [hp, hu, ha]
  obtain ⟨d, hd⟩ : ∃ d, Try.prog.underlying 94 = some (.struct d) := ⟨_, Try.underlying94⟩
  have hv := run_loadVar_row (P := Try.prog) w b 94 94 _ (0, 0) (.struct d) hc.is hd rfl (by kernel_rfl)
  simp only [Result.andThen, hv]
theorem results_sibs2 {fn : Func} {p u : Tmp} (h : fn.results = #[.cell p 94, .tmp u]) {tmps : Array Value} {w : World} {b : Nat} {f : Nat → Int} {s : Value} (hp : tmps.getD p undef = .pointer (some ⟨b, 0, none⟩)) {v : Value} (hu : tmps.getD u undef = v) (hc : Cel b 94 #[.int .i64 (f 0), .int .i64 (f 1), .int .i64 (f 2), .int .i64 (f 3), .int .i64 (f 4), .int .i64 (f 5), .int .i64 (f 6), .int .i64 (f 7), s] w) :
    (results fn tmps).run Try.prog w = .ok (.tuple #[.agg #[.int .i64 (f 0), .int .i64 (f 1), .int .i64 (f 2), .int .i64 (f 3), .int .i64 (f 4), .int .i64 (f 5), .int .i64 (f 6), .int .i64 (f 7), s], v]) w := by
  rw [results_cell_tmp h]
  have ha : (asAddr (.pointer (some ⟨b, 0, none⟩))).run Try.prog w = .ok ⟨b, 0, none⟩ w := rfl
  rw [hp, hu, ha]
  obtain ⟨d, hd⟩ : ∃ d, Try.prog.underlying 94 = some (.struct d) := ⟨_, Try.underlying94⟩
  have hv := run_loadVar_row (P := Try.prog) w b 94 94 _ (0, 0) (.struct d) hc.is hd rfl (by kernel_rfl)
  simp only [Result.andThen, hv]

/-- The new value, and the row with it. -/
def putN (f g : Nat → Int) (node : Int) (data : List Nat) (dead : Bool) : A := ⟨(nextV (maxV f g) node).1, (nextV (maxV f g) node).2.1, data, dead⟩
def putR (f g : Nat → Int) (l : List A) (node : Int) (data : List Nat) (dead : Bool) : List A := mergeA (nc g) (nc (maxV f g)) l [putN f g node data dead]
def putE (f g : Nat → Int) (l : List A) (node : Int) (data : List Nat) (dead : Bool) : Int :=
  if mayS f l = false then 1 else if mayB g = false then 1 else if okData data.length dead = false then 1 else
  if (nextV (maxV f g) node).2.2 ≠ 0 then (nextV (maxV f g) node).2.2 else if 16 < (putR f g l node data dead).length then 11 else 0
def putV (f g : Nat → Int) (l : List A) (node : Int) (data : List Nat) (dead : Bool) : Nat → Int :=
  if putE f g l node data dead = 0 then withV (maxV f g) (nextV (maxV f g) node).1 (nextV (maxV f g) node).2.1 else zer
def putL (f g : Nat → Int) (l : List A) (node : Int) (data : List Nat) (dead : Bool) : List A :=
  if putE f g l node data dead = 0 then putR f g l node data dead else []
/-- What Put tells when it refuses. -/
theorem put_no {f g : Nat → Int} {l : List A} {node : Int} {data : List Nat} {dead : Bool} {e : Int} (h : putE f g l node data dead = e) (he : e ≠ 0) : e = putE f g l node data dead ∧ zer = putV f g l node data dead ∧ cont [] = putL f g l node data dead := by
  subst h
  simp [putV, putL, he, cont]
theorem next_err (f : Nat → Int) (n : Int) : (nextV f n).2.2 = 0 ∨ (nextV f n).2.2 = 1 ∨ (nextV f n).2.2 = 11 := by
  unfold nextV
  split
  · simp
  · split <;> simp

theorem next_range {f : Nat → Int} {n nn NN ne : Int} (hf : ∀ j, j < 8 → 0 ≤ f j) (hn : -9223372036854775808 ≤ n ∧ n ≤ 9223372036854775807) (h : nextV f n = (nn, NN, ne)) : -9223372036854775808 ≤ nn ∧ nn ≤ 9223372036854775807 ∧ -9223372036854775808 ≤ NN ∧ NN ≤ 9223372036854775807 := by
  unfold nextV at h
  split at h
  · simp only [Prod.mk.injEq] at h
    omega
  · rename_i hb
    split at h
    · simp only [Prod.mk.injEq] at h
      omega
    · simp only [Prod.mk.injEq] at h
      have : n.toNat < 8 := by
        simp [nodeB] at hb
        omega
      have := hf _ this
      omega
theorem cel2 {b : Nat} {t : TypeId} {x y : Value} {w : World} (h : Cel b t #[x, y] w) : w.cell? ⟨b, 0, none⟩ = some x ∧ w.cell? ⟨b, 1, none⟩ = some y := ⟨h.cell 0, h.cell 1⟩
theorem row_one {b : Nat} {v : V} {w : World} (h : Cel b 120 #[.int .i64 v.node, .int .i64 v.num, .slice v.ad v.data.length v.cap, .bool v.dead] w) (hv : VOk w v) : Row w (some ⟨b, 0, none⟩) 1 [v] := by
  refine ⟨by simp, by omega, fun i u hi => ?_⟩
  match i, hi with
  | 0, hi =>
    simp at hi
    subst hi
    obtain ⟨x0, x1, x2, x3⟩ := cel4 h
    exact ⟨b, 0, rfl, ⟨x0, x1, x2, x3⟩, hv⟩

end Go.Proofs.Ytmeclfgehpbjlaa
