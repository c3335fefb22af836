/- What Join and Reap make of a table, as data. -/
import Derived.Test.YtmeclfgehpbjlaaKee
import Derived.Test.YtmeclfgehpbjlaaGSm
namespace Go.Proofs.Ytmeclfgehpbjlaa
open Go.RowKit

structure JR where
  x : List K
  f : Nat → Int
  l : List A
  sm : Bool
  er : Int
/-- Join of an entry. -/
def joinR (X : List K) (k : ByteArray) (f : Nat → Int) (l : List A) : JR :=
  if (keyB k && mayS f l) = false then ⟨X, zer, [], false, 1⟩
  else match fndG K.key k X with
  | none => if 256 ≤ X.length then ⟨X, zer, [], false, 11⟩ else ⟨putG K.key ⟨k, joinV zer f [] l, joinL zer f [] l⟩ X, joinV zer f [] l, joinL zer f [] l, false, 0⟩
  | some u => ⟨putG K.key ⟨k, joinV u.f f u.l l, joinL u.f f u.l l⟩ X, joinV u.f f u.l l, joinL u.f f u.l l, sameS u.f (joinV u.f f u.l l) u.l (joinL u.f f u.l l), 0⟩
theorem joinR_arg {X : List K} {k : ByteArray} {f : Nat → Int} {l : List A} (h : (keyB k && mayS f l) = false) : joinR X k f l = ⟨X, zer, [], false, 1⟩ := by
  unfold joinR
  rw [if_pos h]
theorem joinR_full {X : List K} {k : ByteArray} {f : Nat → Int} {l : List A} (h : (keyB k && mayS f l) = true) (hf : fndG K.key k X = none) (hn : 256 ≤ X.length) : joinR X k f l = ⟨X, zer, [], false, 11⟩ := by
  unfold joinR
  rw [h, if_neg (by simp), hf]
  simp [hn]
theorem joinR_new {X : List K} {k : ByteArray} {f : Nat → Int} {l : List A} (h : (keyB k && mayS f l) = true) (hf : fndG K.key k X = none) (hn : ¬ 256 ≤ X.length) : joinR X k f l = ⟨putG K.key ⟨k, joinV zer f [] l, joinL zer f [] l⟩ X, joinV zer f [] l, joinL zer f [] l, false, 0⟩ := by
  unfold joinR
  rw [h, if_neg (by simp), hf]
  simp [hn]
theorem joinR_old {X : List K} {k : ByteArray} {f : Nat → Int} {l : List A} (h : (keyB k && mayS f l) = true) {u : K} (hf : fndG K.key k X = some u) : joinR X k f l = ⟨putG K.key ⟨k, joinV u.f f u.l l, joinL u.f f u.l l⟩ X, joinV u.f f u.l l, joinL u.f f u.l l, sameS u.f (joinV u.f f u.l l) u.l (joinL u.f f u.l l), 0⟩ := by
  unfold joinR
  rw [h, if_neg (by simp), hf]
/-- Does Reap change something, and what is there then? -/
def reapB (X : List K) (k : ByteArray) : Bool := match fndG K.key k X with | none => false | some u => !sameS u.f (reapV u.f u.l) u.l (reapL u.f u.l)
def reapT (X : List K) (k : ByteArray) : List K := match fndG K.key k X with | none => X | some u => if sameS u.f (reapV u.f u.l) u.l (reapL u.f u.l) then X else putG K.key ⟨k, reapV u.f u.l, reapL u.f u.l⟩ X
/-- What Get tells. -/
def getK (X : List K) (k : ByteArray) : K := (fndG K.key k X).getD ⟨k, zer, []⟩
theorem getE_abs (t : List E) (k : ByteArray) : (getE t k).abs = getK (absE t) k := by
  unfold getE getK
  rw [← abs_fnd]
  cases fndG E.key k t <;> rfl
theorem fnd_isSome (t : List E) (k : ByteArray) : (fndG E.key k t).isSome = (fndG K.key k (absE t)).isSome := by
  rw [← abs_fnd]
  cases fndG E.key k t <;> rfl
theorem getE_key (t : List E) (k : ByteArray) : (getE t k).key = k := by
  unfold getE
  cases e : fndG E.key k t with
  | none => rfl
  | some x => exact (fnd_mem E.key e).2
theorem same_refl (f : Nat → Int) (l : List A) : sameS f f l l = true := by simp [sameS, eqB, sameR]
theorem reap_zero : sameS zer (reapV zer []) [] (reapL zer []) = true := by
  have h1 : reapV zer [] = zer := by unfold reapV; split <;> rfl
  have h2 : reapL zer [] = [] := by unfold reapL; split <;> rfl
  rw [h1, h2]
  exact same_refl _ _
theorem join_len16 {f g : Nat → Int} {l k : List A} : (joinL f g l k).length ≤ 16 := by
  unfold joinL
  split
  · rw [List.length_take]
    omega
  · simp
theorem reap_len {f : Nat → Int} {l : List A} : (reapL f l).length ≤ l.length := by
  unfold reapL
  split
  · omega
  · simp
theorem results_sibs3 {fn : Func} {p u x : Tmp} (h : fn.results = #[.cell p 94, .tmp u, .tmp x]) {tmps : Array Value} {w : World} {b : Nat} {f : Nat → Int} {s : Value} (hp : tmps.getD p undef = .pointer (some ⟨b, 0, none⟩)) {v y : Value} (hu : tmps.getD u undef = v) (hx : tmps.getD x undef = y) (hc : Cel b 94 #[.int .i64 (f 0), .int .i64 (f 1), .int .i64 (f 2), .int .i64 (f 3), .int .i64 (f 4), .int .i64 (f 5), .int .i64 (f 6), .int .i64 (f 7), s] w) :
    (results fn tmps).run Try.prog w = .ok (.tuple #[.agg #[.int .i64 (f 0), .int .i64 (f 1), .int .i64 (f 2), .int .i64 (f 3), .int .i64 (f 4), .int .i64 (f 5), .int .i64 (f 6), .int .i64 (f 7), s], v, y]) w := by
  have e : (results fn tmps).run Try.prog w = ((asAddr (tmps.getD p undef)).run Try.prog w).andThen fun a w₁ => ((loadVar 94 a).run Try.prog w₁).andThen fun v w₂ => .ok (.tuple #[v, tmps.getD u undef, tmps.getD x undef]) w₂ := by
    simp only [results, h]
    simp [Sem.run_bind, Result.andThen]
  rw [e]
  have ha : (asAddr (.pointer (some ⟨b, 0, none⟩))).run Try.prog w = .ok ⟨b, 0, none⟩ w := rfl
  rw [hp, hu, hx, ha]
  obtain ⟨d, hd⟩ : ∃ d, Try.prog.underlying 94 = some (.struct d) := ⟨_, Try.underlying94⟩
  have hv := run_loadVar_row (P := Try.prog) w b 94 94 _ (0, 0) (.struct d) hc.is hd rfl (by kernel_rfl)
  simp only [Result.andThen, hv]
theorem cel10 {b : Nat} {t : TypeId} {s0 s1 s2 s3 s4 s5 s6 s7 s8 s9 : Value} {w : World} (h : Cel b t #[s0, s1, s2, s3, s4, s5, s6, s7, s8, s9] w) : w.cell? ⟨b, 0, none⟩ = some s0 ∧ w.cell? ⟨b, 1, none⟩ = some s1 ∧ w.cell? ⟨b, 2, none⟩ = some s2 ∧ w.cell? ⟨b, 3, none⟩ = some s3 ∧ w.cell? ⟨b, 4, none⟩ = some s4 ∧ w.cell? ⟨b, 5, none⟩ = some s5 ∧ w.cell? ⟨b, 6, none⟩ = some s6 ∧ w.cell? ⟨b, 7, none⟩ = some s7 ∧ w.cell? ⟨b, 8, none⟩ = some s8 ∧ w.cell? ⟨b, 9, none⟩ = some s9 :=
  ⟨h.cell 0, h.cell 1, h.cell 2, h.cell 3, h.cell 4, h.cell 5, h.cell 6, h.cell 7, h.cell 8, h.cell 9⟩
end Go.Proofs.Ytmeclfgehpbjlaa
