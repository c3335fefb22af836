/- Members: may they be, joined, below, refuted; of the program and of the reference. -/
import Derived.Test.YtakijikehpblfaaMem
import Derived.Test.YtakijikehpblfaaTake14
import Derived.Laws.ResultCell
namespace Go.Proofs.Ytakijikehpblfaa
set_option maxRecDepth 100000
open Go.RowKit

def mayB (s i : Int) : Bool := decide (0 ≤ s ∧ s ≤ 2 ∧ 0 ≤ i ∧ i ≤ 1099511627776)
def jS (s i t j : Int) : Int := if i = j then max s t else if j < i then s else t
def jI (_s i _t j : Int) : Int := if i = j then i else if j < i then i else j
theorem Cel.new2 (w : World) (o p : Obj) (t : TypeId) (cs : Array Value) : Cel (w.heap.size + 2) t cs (((w.alloc o).alloc p).alloc (.cells cs t)) := by
  have := Cel.new ((w.alloc o).alloc p) t cs
  simp only [World.size_alloc] at this
  exact this

theorem results_mem {fn : Func} {p : Tmp} (h : fn.results = #[.cell p 46]) {tmps : Array Value} {w : World} {b : Nat} {x y : Int} (hp : tmps.getD p undef = .pointer (some ⟨b, 0, none⟩)) (hc : Cel b 46 #[.int .i64 x, .int .i64 y] w) :
    (results fn tmps).run Try.prog w = .ok (.agg #[.int .i64 x, .int .i64 y]) w := by
  obtain ⟨d, hd⟩ : ∃ d, Try.prog.underlying 46 = some (.struct d) := ⟨_, Try.underlying46⟩
  exact results_cell_row h tmps w b 46 _ (0, 0) (.struct d) hp hc.is hd rfl (by kernel_rfl)
theorem results_mem2 {fn : Func} {p u : Tmp} (h : fn.results = #[.cell p 46, .tmp u]) {tmps : Array Value} {w : World} {b : Nat} {x y : Int} (hp : tmps.getD p undef = .pointer (some ⟨b, 0, none⟩)) {v : Value} (hu : tmps.getD u undef = v) (hc : Cel b 46 #[.int .i64 x, .int .i64 y] w) :
    (results fn tmps).run Try.prog w = .ok (.tuple #[.agg #[.int .i64 x, .int .i64 y], v]) w := by
  rw [results_cell_tmp h]
  have ha : (asAddr (.pointer (some ⟨b, 0, none⟩))).run Try.prog w = .ok ⟨b, 0, none⟩ w := rfl
  rw [hp, hu, ha]
  obtain ⟨d, hd⟩ : ∃ d, Try.prog.underlying 46 = some (.struct d) := ⟨_, Try.underlying46⟩
  have hv := run_loadVar_row (P := Try.prog) w b 46 46 #[.int .i64 x, .int .i64 y] (0, 0) (.struct d) hc.is hd rfl (by kernel_rfl)
  simp only [Result.andThen, hv]
theorem Cel.st2 {b : Nat} {t : TypeId} {x y : Value} {w : World} (h : Cel b t #[x, y] w) (u v : Value) : Cel b t #[u, v] ((w.setCell ⟨b, 0, none⟩ u).setCell ⟨b, 1, none⟩ v) := (h.set 0 u).set 1 v
theorem Off.st2 {D : Nat → Prop} {a w : World} (h : Off D a w) {b : Nat} (hb : D b ∨ a.heap.size ≤ b) (u v : Value) : Off D a ((w.setCell ⟨b, 0, none⟩ u).setCell ⟨b, 1, none⟩ v) := (h.setCell hb u).setCell hb v
theorem max_int (a b : Int) : ∀ ts t W, (Builtin.max_ ts t #[.int .i64 a, .int .i64 b]).run Try.prog W = .ok (.int .i64 (max a b)) W := by
  intro ts t W
  go_simp
  split <;> omega

set_option maxHeartbeats 1000000 in
theorem may_any (s i : Int) (w : World) : Calls Try.prog 24 #[.agg #[.int .i64 s, .int .i64 i]] w fun e w' => e = .returned (.bool (mayB s i)) ∧ Off (fun _ => False) w w' := by
  have o1 : ∀ x, Off (fun _ => False) w (w.alloc x) := fun x => (Off.refl _ w).alloc _
  by_cases h1 : 0 ≤ s
  · have e1 : decide (0 ≤ s) = true := decide_eq_true h1
    by_cases h2 : s ≤ 2
    · have e2 : decide (s ≤ 2) = true := decide_eq_true h2
      by_cases h3 : 0 ≤ i
      · have e3 : decide (0 ≤ i) = true := decide_eq_true h3
        have hb : mayB s i = decide (i ≤ 1099511627776) := decide_eq_decide.2 ⟨fun h => h.2.2.2, fun h => ⟨h1, h2, h3, h⟩⟩
        rw [hb]
        clear hb
        go_enter Try.func24, Try.ntmps24
        go_wp2_with fail
        go_ret
        exact ⟨rfl, o1 _⟩
      · have e3 : decide (0 ≤ i) = false := decide_eq_false h3
        have hb : mayB s i = false := decide_eq_false (fun h => h3 h.2.2.1)
        rw [hb]
        clear hb
        go_enter Try.func24, Try.ntmps24
        go_wp2_with fail
        go_ret
        exact ⟨rfl, o1 _⟩
    · have e2 : decide (s ≤ 2) = false := decide_eq_false h2
      have hb : mayB s i = false := decide_eq_false (fun h => h2 h.2.1)
      rw [hb]
      clear hb
      go_enter Try.func24, Try.ntmps24
      go_wp2_with fail
      go_ret
      exact ⟨rfl, o1 _⟩
  · have e1 : decide (0 ≤ s) = false := decide_eq_false h1
    have hb : mayB s i = false := decide_eq_false (fun h => h1 h.1)
    rw [hb]
    clear hb
    go_enter Try.func24, Try.ntmps24
    go_wp2_with fail
    go_ret
    exact ⟨rfl, o1 _⟩

set_option maxHeartbeats 1000000 in
theorem later_any (s i t j : Int) (w : World) : Calls Try.prog 42 #[.agg #[.int .i64 s, .int .i64 i], .agg #[.int .i64 t, .int .i64 j]] w fun e w' => e = .returned (.agg #[.int .i64 (if j < i then s else t), .int .i64 (if j < i then i else j)]) ∧ Off (fun _ => False) w w' := by
  have o3 : ∀ x y z, Off (fun _ => False) w (((w.alloc x).alloc y).alloc z) := fun x y z => (((Off.refl _ w).alloc _).alloc _).alloc _
  by_cases h : j < i
  · have e1 : decide (j < i) = true := decide_eq_true h
    rw [if_pos h, if_pos h]
    go_enter Try.func42, Try.ntmps42
    go_wp2_with fail
    refine bodyPost_ret (results_mem rfl rfl (Cel.new2 w _ _ _ _)) rfl ?_
    exact ⟨rfl, o3 _ _ _⟩
  · have e1 : decide (j < i) = false := decide_eq_false h
    rw [if_neg h, if_neg h]
    go_enter Try.func42, Try.ntmps42
    go_wp2_with fail
    refine bodyPost_ret (results_mem rfl rfl (Cel.new2 w _ _ _ _)) rfl ?_
    exact ⟨rfl, o3 _ _ _⟩

set_option maxHeartbeats 1000000 in
theorem join_any (s i t j : Int) (w : World) : Calls Try.prog 36 #[.agg #[.int .i64 s, .int .i64 i], .agg #[.int .i64 t, .int .i64 j]] w fun e w' => e = .returned (.agg #[.int .i64 (jS s i t j), .int .i64 (jI s i t j)]) ∧ Off (fun _ => False) w w' := by
  have o3 : ∀ x y z, Off (fun _ => False) w (((w.alloc x).alloc y).alloc z) := fun x y z => (((Off.refl _ w).alloc _).alloc _).alloc _
  by_cases h : i = j
  · have hs : Hid (jS s i t j = max s t) := if_pos h
    have hi : Hid (jI s i t j = i) := if_pos h
    have e1 : (i != j) = false := by simp [h]
    have hx := max_int s t
    have HH : Hid _ := h
    clear h
    go_enter Try.func36, Try.ntmps36
    go_wp2_with fail
    refine bodyPost_ret (results_mem rfl rfl (Cel.new2 w _ _ _ _)) rfl ?_
    rw [hs.out, hi.out]
    exact ⟨rfl, o3 _ _ _⟩
  · have hs : Hid (jS s i t j = if j < i then s else t) := if_neg h
    have hi : Hid (jI s i t j = if j < i then i else j) := if_neg h
    have e1 : (i != j) = true := by simp [h]
    have HH : Hid _ := h
    clear h
    go_enter Try.func36, Try.ntmps36
    go_wp2_with fail
    generalize hW : ((w.alloc (.cells #[.int .i64 s, .int .i64 i] 46)).alloc (.cells #[.int .i64 t, .int .i64 j] 46)).alloc (.cells #[.int .i64 0, .int .i64 0] 46) = W
    have O : Off (fun _ => False) w W := by rw [← hW]; exact o3 _ _ _
    have C : Cel (w.heap.size + 2) 46 #[.int .i64 0, .int .i64 0] W := by rw [← hW]; exact Cel.new2 w _ _ _ _
    clear hW
    refine (later_any _ _ _ _ _).mono ?_
    generalize (if j < i then s else t) = a at hs ⊢
    generalize (if j < i then i else j) = b at hi ⊢
    rintro e w1 ⟨rfl, o1⟩
    have C1 := C.off o1 (fun h => h)
    have O1 := O.trans o1 (fun _ _ h => h)
    have c0 : w1.cell? ⟨w.heap.size + 2, 0, none⟩ = some (.int .i64 0) := C1.cell 0
    have c1 : w1.cell? ⟨w.heap.size + 2, 1, none⟩ = some (.int .i64 0) := C1.cell 1
    have fz := C1.free
    have H1 : Hid _ := C1
    have H2 : Hid _ := O1
    clear C1 O1 C O o1
    go_wp2_with fail
    refine bodyPost_ret (results_mem rfl rfl (H1.out.st2 _ _)) rfl ?_
    rw [hs.out, hi.out]
    exact ⟨rfl, H2.out.st2 (.inr (by omega)) _ _⟩
end Go.Proofs.Ytakijikehpblfaa
