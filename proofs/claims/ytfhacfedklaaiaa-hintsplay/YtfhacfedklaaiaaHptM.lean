/- Several texts in one. -/
import Derived.Test.YtfhacfedklaaiaaHm
import Derived.Test.YtfhacfedklaaiaaDel
import Derived.Test.YtfhacfedklaaiaaFnd
import Derived.Test.YtfhacfedklaaiaaSam
import Derived.Test.YtfhacfedklaaiaaJoi
/- slices.Clone at values, copyEntry, copyHint. -/
namespace Go.Proofs.Ytfhacfedklaaiaa
open Go.RowKit

theorem Cel.st10 {b : Nat} {t : TypeId} {s0 s1 s2 s3 s4 s5 s6 s7 s8 s9 : Value} {w : World} (h : Cel b t #[s0, s1, s2, s3, s4, s5, s6, s7, s8, s9] w) (x : E) : Cel b t #[.string x.key, .int .i64 (x.f 0), .int .i64 (x.f 1), .int .i64 (x.f 2), .int .i64 (x.f 3), .int .i64 (x.f 4), .int .i64 (x.f 5), .int .i64 (x.f 6), .int .i64 (x.f 7), .slice x.a x.l.length x.cap] ((((((((((w.setCell ⟨b, 0, none⟩ (.string x.key)).setCell ⟨b, 1, none⟩ (.int .i64 (x.f 0))).setCell ⟨b, 2, none⟩ (.int .i64 (x.f 1))).setCell ⟨b, 3, none⟩ (.int .i64 (x.f 2))).setCell ⟨b, 4, none⟩ (.int .i64 (x.f 3))).setCell ⟨b, 5, none⟩ (.int .i64 (x.f 4))).setCell ⟨b, 6, none⟩ (.int .i64 (x.f 5))).setCell ⟨b, 7, none⟩ (.int .i64 (x.f 6))).setCell ⟨b, 8, none⟩ (.int .i64 (x.f 7))).setCell ⟨b, 9, none⟩ (.slice x.a x.l.length x.cap)) := by
  replace h := h.set 0 (.string x.key)
  simp only [List.setIfInBounds_toArray, List.set_cons_zero] at h
  replace h := h.set 1 (.int .i64 (x.f 0))
  simp only [List.setIfInBounds_toArray, List.set_cons_zero, List.set_cons_succ] at h
  replace h := h.set 2 (.int .i64 (x.f 1))
  simp only [List.setIfInBounds_toArray, List.set_cons_zero, List.set_cons_succ] at h
  replace h := h.set 3 (.int .i64 (x.f 2))
  simp only [List.setIfInBounds_toArray, List.set_cons_zero, List.set_cons_succ] at h
  replace h := h.set 4 (.int .i64 (x.f 3))
  simp only [List.setIfInBounds_toArray, List.set_cons_zero, List.set_cons_succ] at h
  replace h := h.set 5 (.int .i64 (x.f 4))
  simp only [List.setIfInBounds_toArray, List.set_cons_zero, List.set_cons_succ] at h
  replace h := h.set 6 (.int .i64 (x.f 5))
  simp only [List.setIfInBounds_toArray, List.set_cons_zero, List.set_cons_succ] at h
  replace h := h.set 7 (.int .i64 (x.f 6))
  simp only [List.setIfInBounds_toArray, List.set_cons_zero, List.set_cons_succ] at h
  replace h := h.set 8 (.int .i64 (x.f 7))
  simp only [List.setIfInBounds_toArray, List.set_cons_zero, List.set_cons_succ] at h
  replace h := h.set 9 (.slice x.a x.l.length x.cap)
  simp only [List.setIfInBounds_toArray, List.set_cons_zero, List.set_cons_succ] at h
  exact h
theorem Cel.st10o {b c : Nat} {t : TypeId} {cs : Array Value} {w : World} (h : Cel c t cs w) (hb : c ≠ b) (x : E) : Cel c t cs ((((((((((w.setCell ⟨b, 0, none⟩ (.string x.key)).setCell ⟨b, 1, none⟩ (.int .i64 (x.f 0))).setCell ⟨b, 2, none⟩ (.int .i64 (x.f 1))).setCell ⟨b, 3, none⟩ (.int .i64 (x.f 2))).setCell ⟨b, 4, none⟩ (.int .i64 (x.f 3))).setCell ⟨b, 5, none⟩ (.int .i64 (x.f 4))).setCell ⟨b, 6, none⟩ (.int .i64 (x.f 5))).setCell ⟨b, 7, none⟩ (.int .i64 (x.f 6))).setCell ⟨b, 8, none⟩ (.int .i64 (x.f 7))).setCell ⟨b, 9, none⟩ (.slice x.a x.l.length x.cap)) := ((((((((((h.other hb _).other hb _).other hb _).other hb _).other hb _).other hb _).other hb _).other hb _).other hb _).other hb _)
theorem Off.st10 {D : Nat → Prop} {a w : World} {b : Nat} (h : Off D a w) (hb : D b ∨ a.heap.size ≤ b) (x : E) : Off D a ((((((((((w.setCell ⟨b, 0, none⟩ (.string x.key)).setCell ⟨b, 1, none⟩ (.int .i64 (x.f 0))).setCell ⟨b, 2, none⟩ (.int .i64 (x.f 1))).setCell ⟨b, 3, none⟩ (.int .i64 (x.f 2))).setCell ⟨b, 4, none⟩ (.int .i64 (x.f 3))).setCell ⟨b, 5, none⟩ (.int .i64 (x.f 4))).setCell ⟨b, 6, none⟩ (.int .i64 (x.f 5))).setCell ⟨b, 7, none⟩ (.int .i64 (x.f 6))).setCell ⟨b, 8, none⟩ (.int .i64 (x.f 7))).setCell ⟨b, 9, none⟩ (.slice x.a x.l.length x.cap)) := ((((((((((h.setCell hb _).setCell hb _).setCell hb _).setCell hb _).setCell hb _).setCell hb _).setCell hb _).setCell hb _).setCell hb _).setCell hb _)
theorem Cel.st11 {b : Nat} {t : TypeId} {s0 s1 s2 s3 s4 s5 s6 s7 s8 s9 s10 : Value} {w : World} (h : Cel b t #[s0, s1, s2, s3, s4, s5, s6, s7, s8, s9, s10] w) (x : H) : Cel b t #[.int .i64 x.node, .string x.e.key, .int .i64 (x.e.f 0), .int .i64 (x.e.f 1), .int .i64 (x.e.f 2), .int .i64 (x.e.f 3), .int .i64 (x.e.f 4), .int .i64 (x.e.f 5), .int .i64 (x.e.f 6), .int .i64 (x.e.f 7), .slice x.e.a x.e.l.length x.e.cap] (((((((((((w.setCell ⟨b, 0, none⟩ (.int .i64 x.node)).setCell ⟨b, 1, none⟩ (.string x.e.key)).setCell ⟨b, 2, none⟩ (.int .i64 (x.e.f 0))).setCell ⟨b, 3, none⟩ (.int .i64 (x.e.f 1))).setCell ⟨b, 4, none⟩ (.int .i64 (x.e.f 2))).setCell ⟨b, 5, none⟩ (.int .i64 (x.e.f 3))).setCell ⟨b, 6, none⟩ (.int .i64 (x.e.f 4))).setCell ⟨b, 7, none⟩ (.int .i64 (x.e.f 5))).setCell ⟨b, 8, none⟩ (.int .i64 (x.e.f 6))).setCell ⟨b, 9, none⟩ (.int .i64 (x.e.f 7))).setCell ⟨b, 10, none⟩ (.slice x.e.a x.e.l.length x.e.cap)) := by
  replace h := h.set 0 (.int .i64 x.node)
  simp only [List.setIfInBounds_toArray, List.set_cons_zero] at h
  replace h := h.set 1 (.string x.e.key)
  simp only [List.setIfInBounds_toArray, List.set_cons_zero, List.set_cons_succ] at h
  replace h := h.set 2 (.int .i64 (x.e.f 0))
  simp only [List.setIfInBounds_toArray, List.set_cons_zero, List.set_cons_succ] at h
  replace h := h.set 3 (.int .i64 (x.e.f 1))
  simp only [List.setIfInBounds_toArray, List.set_cons_zero, List.set_cons_succ] at h
  replace h := h.set 4 (.int .i64 (x.e.f 2))
  simp only [List.setIfInBounds_toArray, List.set_cons_zero, List.set_cons_succ] at h
  replace h := h.set 5 (.int .i64 (x.e.f 3))
  simp only [List.setIfInBounds_toArray, List.set_cons_zero, List.set_cons_succ] at h
  replace h := h.set 6 (.int .i64 (x.e.f 4))
  simp only [List.setIfInBounds_toArray, List.set_cons_zero, List.set_cons_succ] at h
  replace h := h.set 7 (.int .i64 (x.e.f 5))
  simp only [List.setIfInBounds_toArray, List.set_cons_zero, List.set_cons_succ] at h
  replace h := h.set 8 (.int .i64 (x.e.f 6))
  simp only [List.setIfInBounds_toArray, List.set_cons_zero, List.set_cons_succ] at h
  replace h := h.set 9 (.int .i64 (x.e.f 7))
  simp only [List.setIfInBounds_toArray, List.set_cons_zero, List.set_cons_succ] at h
  replace h := h.set 10 (.slice x.e.a x.e.l.length x.e.cap)
  simp only [List.setIfInBounds_toArray, List.set_cons_zero, List.set_cons_succ] at h
  exact h
theorem Cel.st11o {b c : Nat} {t : TypeId} {cs : Array Value} {w : World} (h : Cel c t cs w) (hb : c ≠ b) (x : H) : Cel c t cs (((((((((((w.setCell ⟨b, 0, none⟩ (.int .i64 x.node)).setCell ⟨b, 1, none⟩ (.string x.e.key)).setCell ⟨b, 2, none⟩ (.int .i64 (x.e.f 0))).setCell ⟨b, 3, none⟩ (.int .i64 (x.e.f 1))).setCell ⟨b, 4, none⟩ (.int .i64 (x.e.f 2))).setCell ⟨b, 5, none⟩ (.int .i64 (x.e.f 3))).setCell ⟨b, 6, none⟩ (.int .i64 (x.e.f 4))).setCell ⟨b, 7, none⟩ (.int .i64 (x.e.f 5))).setCell ⟨b, 8, none⟩ (.int .i64 (x.e.f 6))).setCell ⟨b, 9, none⟩ (.int .i64 (x.e.f 7))).setCell ⟨b, 10, none⟩ (.slice x.e.a x.e.l.length x.e.cap)) := (((((((((((h.other hb _).other hb _).other hb _).other hb _).other hb _).other hb _).other hb _).other hb _).other hb _).other hb _).other hb _)
theorem Off.st11 {D : Nat → Prop} {a w : World} {b : Nat} (h : Off D a w) (hb : D b ∨ a.heap.size ≤ b) (x : H) : Off D a (((((((((((w.setCell ⟨b, 0, none⟩ (.int .i64 x.node)).setCell ⟨b, 1, none⟩ (.string x.e.key)).setCell ⟨b, 2, none⟩ (.int .i64 (x.e.f 0))).setCell ⟨b, 3, none⟩ (.int .i64 (x.e.f 1))).setCell ⟨b, 4, none⟩ (.int .i64 (x.e.f 2))).setCell ⟨b, 5, none⟩ (.int .i64 (x.e.f 3))).setCell ⟨b, 6, none⟩ (.int .i64 (x.e.f 4))).setCell ⟨b, 7, none⟩ (.int .i64 (x.e.f 5))).setCell ⟨b, 8, none⟩ (.int .i64 (x.e.f 6))).setCell ⟨b, 9, none⟩ (.int .i64 (x.e.f 7))).setCell ⟨b, 10, none⟩ (.slice x.e.a x.e.l.length x.e.cap)) := (((((((((((h.setCell hb _).setCell hb _).setCell hb _).setCell hb _).setCell hb _).setCell hb _).setCell hb _).setCell hb _).setCell hb _).setCell hb _).setCell hb _)
theorem Cel.clr11 {b : Nat} {t : TypeId} {s0 s1 s2 s3 s4 s5 s6 s7 s8 s9 s10 : Value} {w : World} (h : Cel b t #[s0, s1, s2, s3, s4, s5, s6, s7, s8, s9, s10] w)  : Cel b t #[.int .i64 0, .string ⟨#[]⟩, .int .i64 0, .int .i64 0, .int .i64 0, .int .i64 0, .int .i64 0, .int .i64 0, .int .i64 0, .int .i64 0, .slice none 0 0] (((((((((((w.setCell ⟨b, 0, none⟩ (.int .i64 0)).setCell ⟨b, 1, none⟩ (.string ⟨#[]⟩)).setCell ⟨b, 2, none⟩ (.int .i64 0)).setCell ⟨b, 3, none⟩ (.int .i64 0)).setCell ⟨b, 4, none⟩ (.int .i64 0)).setCell ⟨b, 5, none⟩ (.int .i64 0)).setCell ⟨b, 6, none⟩ (.int .i64 0)).setCell ⟨b, 7, none⟩ (.int .i64 0)).setCell ⟨b, 8, none⟩ (.int .i64 0)).setCell ⟨b, 9, none⟩ (.int .i64 0)).setCell ⟨b, 10, none⟩ (.slice none 0 0)) := by
  replace h := h.set 0 (.int .i64 0)
  simp only [List.setIfInBounds_toArray, List.set_cons_zero] at h
  replace h := h.set 1 (.string ⟨#[]⟩)
  simp only [List.setIfInBounds_toArray, List.set_cons_zero, List.set_cons_succ] at h
  replace h := h.set 2 (.int .i64 0)
  simp only [List.setIfInBounds_toArray, List.set_cons_zero, List.set_cons_succ] at h
  replace h := h.set 3 (.int .i64 0)
  simp only [List.setIfInBounds_toArray, List.set_cons_zero, List.set_cons_succ] at h
  replace h := h.set 4 (.int .i64 0)
  simp only [List.setIfInBounds_toArray, List.set_cons_zero, List.set_cons_succ] at h
  replace h := h.set 5 (.int .i64 0)
  simp only [List.setIfInBounds_toArray, List.set_cons_zero, List.set_cons_succ] at h
  replace h := h.set 6 (.int .i64 0)
  simp only [List.setIfInBounds_toArray, List.set_cons_zero, List.set_cons_succ] at h
  replace h := h.set 7 (.int .i64 0)
  simp only [List.setIfInBounds_toArray, List.set_cons_zero, List.set_cons_succ] at h
  replace h := h.set 8 (.int .i64 0)
  simp only [List.setIfInBounds_toArray, List.set_cons_zero, List.set_cons_succ] at h
  replace h := h.set 9 (.int .i64 0)
  simp only [List.setIfInBounds_toArray, List.set_cons_zero, List.set_cons_succ] at h
  replace h := h.set 10 (.slice none 0 0)
  simp only [List.setIfInBounds_toArray, List.set_cons_zero, List.set_cons_succ] at h
  exact h
theorem Cel.clr11o {b c : Nat} {t : TypeId} {cs : Array Value} {w : World} (h : Cel c t cs w) (hb : c ≠ b)  : Cel c t cs (((((((((((w.setCell ⟨b, 0, none⟩ (.int .i64 0)).setCell ⟨b, 1, none⟩ (.string ⟨#[]⟩)).setCell ⟨b, 2, none⟩ (.int .i64 0)).setCell ⟨b, 3, none⟩ (.int .i64 0)).setCell ⟨b, 4, none⟩ (.int .i64 0)).setCell ⟨b, 5, none⟩ (.int .i64 0)).setCell ⟨b, 6, none⟩ (.int .i64 0)).setCell ⟨b, 7, none⟩ (.int .i64 0)).setCell ⟨b, 8, none⟩ (.int .i64 0)).setCell ⟨b, 9, none⟩ (.int .i64 0)).setCell ⟨b, 10, none⟩ (.slice none 0 0)) := (((((((((((h.other hb _).other hb _).other hb _).other hb _).other hb _).other hb _).other hb _).other hb _).other hb _).other hb _).other hb _)
theorem Off.clr11 {D : Nat → Prop} {a w : World} {b : Nat} (h : Off D a w) (hb : D b ∨ a.heap.size ≤ b)  : Off D a (((((((((((w.setCell ⟨b, 0, none⟩ (.int .i64 0)).setCell ⟨b, 1, none⟩ (.string ⟨#[]⟩)).setCell ⟨b, 2, none⟩ (.int .i64 0)).setCell ⟨b, 3, none⟩ (.int .i64 0)).setCell ⟨b, 4, none⟩ (.int .i64 0)).setCell ⟨b, 5, none⟩ (.int .i64 0)).setCell ⟨b, 6, none⟩ (.int .i64 0)).setCell ⟨b, 7, none⟩ (.int .i64 0)).setCell ⟨b, 8, none⟩ (.int .i64 0)).setCell ⟨b, 9, none⟩ (.int .i64 0)).setCell ⟨b, 10, none⟩ (.slice none 0 0)) := (((((((((((h.setCell hb _).setCell hb _).setCell hb _).setCell hb _).setCell hb _).setCell hb _).setCell hb _).setCell hb _).setCell hb _).setCell hb _).setCell hb _)
theorem results_entry {fn : Func} {p : Tmp} (h : fn.results = #[.cell p 37]) {tmps : Array Value} {w : World} {b : Nat} {x : E} (hp : tmps.getD p undef = .pointer (some ⟨b, 0, none⟩)) (hc : Cel b 37 #[.string x.key, .int .i64 (x.f 0), .int .i64 (x.f 1), .int .i64 (x.f 2), .int .i64 (x.f 3), .int .i64 (x.f 4), .int .i64 (x.f 5), .int .i64 (x.f 6), .int .i64 (x.f 7), .slice x.a x.l.length x.cap] w) :
    (results fn tmps).run Try.prog w = .ok (.agg #[.string x.key, .int .i64 (x.f 0), .int .i64 (x.f 1), .int .i64 (x.f 2), .int .i64 (x.f 3), .int .i64 (x.f 4), .int .i64 (x.f 5), .int .i64 (x.f 6), .int .i64 (x.f 7), .slice x.a x.l.length x.cap]) w := by
  obtain ⟨d, hd⟩ : ∃ d, Try.prog.underlying 37 = some (.struct d) := ⟨_, Try.underlying37⟩
  exact results_cell_row h tmps w b 37 _ (0, 0) (.struct d) hp hc.is hd rfl (by kernel_rfl)
theorem results_hint {fn : Func} {p : Tmp} (h : fn.results = #[.cell p 39]) {tmps : Array Value} {w : World} {b : Nat} {x : H} (hp : tmps.getD p undef = .pointer (some ⟨b, 0, none⟩)) (hc : Cel b 39 #[.int .i64 x.node, .string x.e.key, .int .i64 (x.e.f 0), .int .i64 (x.e.f 1), .int .i64 (x.e.f 2), .int .i64 (x.e.f 3), .int .i64 (x.e.f 4), .int .i64 (x.e.f 5), .int .i64 (x.e.f 6), .int .i64 (x.e.f 7), .slice x.e.a x.e.l.length x.e.cap] w) :
    (results fn tmps).run Try.prog w = .ok (.agg #[.int .i64 x.node, .string x.e.key, .int .i64 (x.e.f 0), .int .i64 (x.e.f 1), .int .i64 (x.e.f 2), .int .i64 (x.e.f 3), .int .i64 (x.e.f 4), .int .i64 (x.e.f 5), .int .i64 (x.e.f 6), .int .i64 (x.e.f 7), .slice x.e.a x.e.l.length x.e.cap]) w := by
  obtain ⟨d, hd⟩ : ∃ d, Try.prog.underlying 39 = some (.struct d) := ⟨_, Try.underlying39⟩
  exact results_cell_row h tmps w b 39 _ (0, 0) (.struct d) hp hc.is hd rfl (by kernel_rfl)
theorem eql_nilV (a : Option Addr) (l c : Nat) (W : World) : (binOp .eql 33 (.slice a l c) (.slice none 0 0)).run Try.prog W = .ok (.bool a.isNone) W := by
  have h : binOp .eql 33 (.slice a l c) (.slice none 0 0) = (do pure (.bool (← Op.equal 33 (.slice a l c) (.slice none 0 0)))) := rfl
  rw [h]
  simp [run_equal_slice_nil W 33 88 a l c Try.underlying33, Result.andThen]
theorem wpList_appV {w : World} {ops : Array Oper} {rest : List Oper} {o : Oper} {a : Act} {Q : Exit → Act → World → Prop} (hgd : o.guard = none) (s x : Operand)
    (ho : o.op = .call { callee := .builtin .append, args := #[s, x], argTypes := #[33, 33] })
    (tad : Option Addr) (cap : Nat) (l : List V) (hs : a.eval s = .slice tad l.length cap) (hown : OwnV w tad cap l)
    (xt : Option Addr) (xc : Nat) (k : List V) (hx : a.eval x = .slice xt k.length xc) (hr : Row w xt xc k) (hz : xt = none → xc = 0) (hb : l.length + k.length ≤ 1000000)
    (h : ∀ t' c' w' ys, Hid (ys = l ++ k) → OwnV w' t' c' ys → Off (fun c => blk tad = some c) w w' → (blk t' = blk tad ∨ blk t' = some w.heap.size) → wpList Try.prog ops Q rest (a.put o.dst (.slice t' ys.length c')) w') :
    wpList Try.prog ops Q (o :: rest) a w := by
  obtain ⟨a', c', w', hrun, own, off, hat⟩ := app_runV hown hr hz hb o.type
  refine wpList_plain hgd fun K' hK' => ?_
  unfold Oper.wp
  simp only [execOp, ho, resolve, invoke, builtin, Sem.run_bind, Sem.run_pure, Result.andThen_ok, List.map_toArray, List.map_cons, List.map_nil, hs, hx, hrun]
  exact hK' _ _ (h a' c' w' _ (show l ++ k = l ++ k from rfl) own off hat)
theorem vclone_any (t : Option Addr) (c : Nat) (l : List V) (hb : l.length ≤ 1000) (w : World) (hs : Row w t c l) :
    Calls Try.prog 57 #[.slice t l.length c] w fun e w' => ∃ t' c', e = .returned (.slice t' l.length c') ∧ OwnV w' t' c' l ∧ (∀ k, blk t' = some k → w.heap.size ≤ k) ∧ Off (fun _ => False) w w' := by
  have hq := eql_nilV
  cases t with
  | none =>
    obtain rfl : l = [] := by
      cases l with
      | nil => rfl
      | cons v l => obtain ⟨b, off, e, -⟩ := hs.at_ 0 v rfl; cases e
    go_enter Try.func57, Try.ntmps57
    go_wp2
    go_ret
    exact ⟨none, 0, rfl, OwnV.nil w, fun k hk => by simp [blk] at hk, Off.refl _ w⟩
  | some ad =>
    have HS : Hid (Row w (some ad) c l) := hs
    clear hs
    have L0 : OwnV (w.alloc (.cells #[] 88)) (some ⟨w.heap.size, 0, none⟩) 0 [] := ⟨World.ownsRow_lit w #[] 0 (Nat.zero_le _) (by decide) rfl⟩
    have O0 : Off (fun _ => False) w (w.alloc (.cells #[] 88)) := (Off.refl _ w).alloc _
    go_enter Try.func57, Try.ntmps57
    go_wp2_with (at_builtin; refine wpList_appV rfl (.tmp 5) (.tmp 6) rfl _ 0 [] rfl L0 _ c l rfl (HS.out.off O0) (fun h => by cases h) (by simp; omega) ?_; intro t' c' w' ys hys own' off' at')
    go_ret
    obtain rfl : ys = l := hys.out
    refine ⟨t', c', rfl, own', fun k hk => ?_, O0.trans off' (fun i hi hb => ?_)⟩
    · rcases at' with a | a
      · rw [a] at hk
        simp [blk] at hk
        omega
      · rw [a] at hk
        simp at hk
        omega
    · simp [blk] at hb
      omega

theorem idx_row {m n : Nat} (h : n < m) (c g : Nat) (W : World) : (Instr.indexAt 33 (.slice (some ⟨g, 0, none⟩) m c) (.int .i64 (n : Int))).run Try.prog W = .ok (.pointer (some ⟨g, n * 4, none⟩)) W := by
  go_simp
theorem Row.at0 {w : World} {g : Nat} {cap : Nat} {l : List V} (h : Row w (some ⟨g, 0, none⟩) cap l) {n : Nat} {v : V} (hv : l[n]? = some v) : At4 w g (n * 4) v := by
  obtain ⟨b, off, e, h1, -⟩ := h.at_ n v hv
  simp only [Option.some.injEq, Addr.mk.injEq, and_true] at e
  obtain ⟨rfl, rfl⟩ := e
  rw [Nat.zero_add] at h1
  exact h1
theorem Src.setN {w : World} {tad : Option Addr} {cap : Nat} {bs : List Nat} (h : Src w tad cap bs) {p : Addr} (hp : ∀ k n, w.cell? p ≠ some (.int k n)) (u : Value) : Src (w.setCell p u) tad cap bs := by
  rcases h.is with h0 | ⟨ad, rfl, h0⟩
  · exact ⟨.inl h0⟩
  · refine ⟨.inr ⟨ad, rfl, fun j x hj => ?_⟩⟩
    have h1 := h0 j x hj
    obtain ⟨y, hy⟩ : ∃ y, x = .int .u8 y := by
      simp only [vl, List.getElem?_map, Option.map_eq_some_iff] at hj
      obtain ⟨y, -, hy⟩ := hj
      exact ⟨_, hy.symm⟩
    rw [cell_other (fun e => hp _ _ (by rw [e, h1, hy]))]
    exact h1
theorem Row.setData {w : World} {g : Nat} {cap : Nat} {l : List V} (h : Row w (some ⟨g, 0, none⟩) cap l) {n : Nat} {v : V} (hv : l[n]? = some v) {t : Option Addr} {c1 : Nat} (hs : Src w t c1 v.data) :
    Row (w.setCell ⟨g, n * 4 + 2, none⟩ (.slice t v.data.length c1)) (some ⟨g, 0, none⟩) cap (l.set n (⟨v.node, v.num, t, c1, v.data, v.dead⟩ : V)) := by
  have hc := (h.at0 hv).c2
  have hni : ∀ k m, w.cell? ⟨g, n * 4 + 2, none⟩ ≠ some (.int k m) := fun k m e => by rw [hc] at e; cases e
  refine ⟨by rw [List.length_set]; exact h.len, h.bound, fun i u hi => ⟨g, 0, rfl, ?_⟩⟩
  rw [Nat.zero_add]
  by_cases e : n = i
  · subst e
    have hlt : n < l.length := by
      obtain ⟨h, -⟩ := List.getElem?_eq_some_iff.1 hv
      exact h
    rw [List.getElem?_set_self hlt] at hi
    simp only [Option.some.injEq] at hi
    subst hi
    have k := h.at0 hv
    have o := (h.ok v (List.mem_of_getElem? hv))
    refine ⟨⟨?_, ?_, cell_same hc, ?_⟩, ⟨hs.setN hni _, o.lt, o.n0, o.n1, o.m0, o.m1, o.len⟩⟩
    · rw [cell_other (by simp)]; exact k.c0
    · rw [cell_other (by simp)]; exact k.c1
    · rw [cell_other (by simp)]; exact k.c3
  · rw [List.getElem?_set_ne e] at hi
    have k := h.at0 hi
    have o := (h.ok u (List.mem_of_getElem? hi))
    refine ⟨⟨?_, ?_, ?_, ?_⟩, ⟨o.src.setN hni _, o.lt, o.n0, o.n1, o.m0, o.m1, o.len⟩⟩
    · rw [cell_other (by simp <;> omega)]; exact k.c0
    · rw [cell_other (by simp <;> omega)]; exact k.c1
    · rw [cell_other (by simp <;> omega)]; exact k.c2
    · rw [cell_other (by simp <;> omega)]; exact k.c3
theorem cont_set {l : List V} {n : Nat} {v : V} (hv : l[n]? = some v) (t : Option Addr) (c1 : Nat) : cont (l.set n (⟨v.node, v.num, t, c1, v.data, v.dead⟩ : V)) = cont l := by
  unfold cont
  rw [List.map_set]
  have : ((⟨v.node, v.num, t, c1, v.data, v.dead⟩ : V)).abs = v.abs := rfl
  rw [this]
  refine List.ext_getElem? (fun i => ?_)
  by_cases e : n = i
  · subst e
    have hlt : n < l.length := by
      obtain ⟨h, -⟩ := List.getElem?_eq_some_iff.1 hv
      exact h
    rw [List.getElem?_set_self (by simpa using hlt), List.getElem?_map, hv]
    rfl
  · rw [List.getElem?_set_ne e]

theorem set_far {k : List V} {n : Nat} {v : V} {N : Nat} {t : Option Addr} {c1 : Nat} (hv : k[n]? = some v) (h : ∀ i v, i < n → k[i]? = some v → ∀ x, blk v.ad = some x → N ≤ x) (ht : ∀ x, blk t = some x → N ≤ x) :
    ∀ i u, i < n + 1 → (k.set n (⟨v.node, v.num, t, c1, v.data, v.dead⟩ : V))[i]? = some u → ∀ x, blk u.ad = some x → N ≤ x := by
  intro i u hi hu x hx
  by_cases e : n = i
  · subst e
    have hlt : n < k.length := by
      obtain ⟨h, -⟩ := List.getElem?_eq_some_iff.1 hv
      exact h
    rw [List.getElem?_set_self hlt] at hu
    simp only [Option.some.injEq] at hu
    subst hu
    exact ht x hx
  · rw [List.getElem?_set_ne e] at hu
    exact h i u (by omega) hu x hx
set_option maxRecDepth 100000 in
set_option maxHeartbeats 1000000 in
theorem centry_any (key : ByteArray) (f : Nat → Int) (a : Option Addr) (cap : Nat) (l : List V) (w : World) (hr : Row w a cap l) (hl : l.length ≤ 1000) :
    Calls Try.prog 36 #[.agg #[.string key, .int .i64 (f 0), .int .i64 (f 1), .int .i64 (f 2), .int .i64 (f 3), .int .i64 (f 4), .int .i64 (f 5), .int .i64 (f 6), .int .i64 (f 7), .slice a l.length cap]] w fun e w' => ∃ (a' : Option Addr) (c' : Nat) (k : List V), e = .returned (.agg #[.string key, .int .i64 (f 0), .int .i64 (f 1), .int .i64 (f 2), .int .i64 (f 3), .int .i64 (f 4), .int .i64 (f 5), .int .i64 (f 6), .int .i64 (f 7), .slice a' k.length c']) ∧ cont k = cont l ∧ Row w' a' c' k ∧ Ter (fun x => w.heap.size ≤ x) a' k ∧ Off (fun _ => False) w w' := by
  obtain ⟨W, hW⟩ : ∃ W, W = ((w.alloc (.cells #[.string key, .int .i64 (f 0), .int .i64 (f 1), .int .i64 (f 2), .int .i64 (f 3), .int .i64 (f 4), .int .i64 (f 5), .int .i64 (f 6), .int .i64 (f 7), .slice a l.length cap] 37)).alloc (.cells #[.string ⟨#[]⟩, .int .i64 0, .int .i64 0, .int .i64 0, .int .i64 0, .int .i64 0, .int .i64 0, .int .i64 0, .int .i64 0, .slice none 0 0] 37)) := ⟨_, rfl⟩
  have O : Off (fun _ => False) w W := by rw [hW]; exact ((Off.refl _ w).alloc _).alloc _
  have C0 : Cel w.heap.size 37 #[.string key, .int .i64 (f 0), .int .i64 (f 1), .int .i64 (f 2), .int .i64 (f 3), .int .i64 (f 4), .int .i64 (f 5), .int .i64 (f 6), .int .i64 (f 7), .slice a l.length cap] W := by rw [hW]; exact (Cel.new w _ _).alloc _
  have C1 : Cel (w.heap.size + 1) 37 #[.string ⟨#[]⟩, .int .i64 0, .int .i64 0, .int .i64 0, .int .i64 0, .int .i64 0, .int .i64 0, .int .i64 0, .int .i64 0, .slice none 0 0] W := by rw [hW]; exact Cel.new1 w _ _ _
  have c8 : W.cell? ⟨w.heap.size, 9, none⟩ = some (.slice a l.length cap) := C0.cell 9
  have HC0 : Hid _ := C0
  have HC1 : Hid _ := C1
  have HR : Hid _ := hr.off O
  have HO : Hid _ := O
  have HW : Hid _ := hW
  clear hr O C0 C1 hW
  go_enter Try.func36, Try.ntmps36
  go_upto_region 1 with fail
  rw [show ((w.alloc (.cells #[.string key, .int .i64 (f 0), .int .i64 (f 1), .int .i64 (f 2), .int .i64 (f 3), .int .i64 (f 4), .int .i64 (f 5), .int .i64 (f 6), .int .i64 (f 7), .slice a l.length cap] 37)).alloc (.cells #[.string ⟨#[]⟩, .int .i64 0, .int .i64 0, .int .i64 0, .int .i64 0, .int .i64 0, .int .i64 0, .int .i64 0, .int .i64 0, .slice none 0 0] 37)) = W from HW.out.symm]
  go_wp2_with fail
  refine (vclone_any a cap l hl W HR.out).mono ?_
  rintro e w1 ⟨t, c, rfl, own, hnew, o1⟩
  have D0 := HC0.out.off o1 (fun h => h)
  have D1 := HC1.out.off o1 (fun h => h)
  have f0 := D0.free
  have d8 : w1.cell? ⟨w.heap.size, 9, none⟩ = some (.slice a l.length cap) := D0.cell 9
  obtain ⟨W1, hW1⟩ : ∃ W1, W1 = w1.setCell ⟨w.heap.size, 9, none⟩ (.slice t l.length c) := ⟨_, rfl⟩
  have hne : ∀ k, blk t = some k → k ≠ w.heap.size ∧ k ≠ w.heap.size + 1 := fun k hk => by
    have h1 := hnew k hk
    have h2 := HC1.out.lt
    constructor <;> omega
  have E0 : Cel w.heap.size 37 #[.string key, .int .i64 (f 0), .int .i64 (f 1), .int .i64 (f 2), .int .i64 (f 3), .int .i64 (f 4), .int .i64 (f 5), .int .i64 (f 6), .int .i64 (f 7), .slice t l.length c] W1 := by
    rw [hW1]
    have := D0.set 9 (.slice t l.length c)
    simpa using this
  have E1 : Cel (w.heap.size + 1) 37 #[.string ⟨#[]⟩, .int .i64 0, .int .i64 0, .int .i64 0, .int .i64 0, .int .i64 0, .int .i64 0, .int .i64 0, .int .i64 0, .slice none 0 0] W1 := by rw [hW1]; exact D1.other (by simp) _
  have OW : Off (fun _ => False) w W1 := by rw [hW1]; exact (HO.out.trans o1 (fun _ _ h => h)).setCell (.inr (Nat.le_refl _)) _
  have own1 : OwnV W1 t c l := by
    rw [hW1]
    exact own.off (D := fun k => k = w.heap.size) ((Off.refl (fun k => k = w.heap.size) w1).setCell (.inl rfl) _) (fun k hk => (hne k hk).1)
  have row1 : Row W1 t c l := by
    refine own1.toRow (fun v hv => ?_)
    have := ((HR.out.off o1).ok v hv)
    rw [hW1]
    exact ⟨this.src.setN (fun k n e => by rw [D0.cell 9] at e; simp at e) _, this.lt, this.n0, this.n1, this.m0, this.m1, this.len⟩
  have k8 : W1.cell? ⟨w.heap.size, 9, none⟩ = some (.slice t l.length c) := E0.cell 9
  have hnew2 : ∀ k, blk t = some k → w.heap.size ≤ k := fun k hk => Nat.le_trans HO.out.size (hnew k hk)
  have HE0 : Hid _ := E0
  have HE1 : Hid _ := E1
  have HOW : Hid _ := OW
  have HOWN : Hid _ := own1
  have HROW : Hid _ := row1
  have HNE : Hid _ := hne
  have HNW : Hid _ := hnew2
  have HW1 : Hid _ := hW1
  clear D0 D1 E0 E1 OW own1 row1 hne hnew hnew2 own o1 hW1 c8 HC0 HC1 HR HO HW
  have c8 : (w1.setCell ⟨w.heap.size, 9, none⟩ (.slice t l.length c)).cell? ⟨w.heap.size, 9, none⟩ = some (.slice t l.length c) := by rw [← HW1.out]; exact k8
  go_upto_region 2 with fail
  rw [← HW1.out]
  clear c8 f0 d8
  go_wp2_with fail
  go_loopw [14] (fun y wr => ∃ (n : Nat) (k : List V), y = .int .i64 (n : Int) ∧ n ≤ l.length ∧ k.length = l.length ∧ cont k = cont l ∧ (∀ i v, i < n → k[i]? = some v → ∀ x, blk v.ad = some x → w.heap.size + 2 ≤ x) ∧ Row wr t c k ∧ Cel w.heap.size 37 #[.string key, .int .i64 (f 0), .int .i64 (f 1), .int .i64 (f 2), .int .i64 (f 3), .int .i64 (f 4), .int .i64 (f 5), .int .i64 (f 6), .int .i64 (f 7), .slice t l.length c] wr ∧ Cel (w.heap.size + 1) 37 #[.string ⟨#[]⟩, .int .i64 0, .int .i64 0, .int .i64 0, .int .i64 0, .int .i64 0, .int .i64 0, .int .i64 0, .int .i64 0, .slice none 0 0] wr ∧ (∀ v ∈ l, ∃ g cur, t = some ⟨g, 0, none⟩ ∧ Cel g 88 cur wr) ∧ Off (fun _ => False) w wr) (fun y _ => (l.length - intOf y).toNat)
  case atStart =>
    refine ⟨0, l, rfl, by omega, rfl, rfl, fun i v hi => by omega, HROW.out, HE0.out, HE1.out, fun v hv => ?_, HOW.out⟩
    rcases HOWN.out.row.2 with ⟨-, h0⟩ | ⟨g, c', cur, hvv, -, hh, -⟩
    · rw [List.eq_nil_of_length_eq_zero h0] at hv
      simp at hv
    · simp only [Value.slice.injEq] at hvv
      exact ⟨g, cur, hvv.1, ⟨hh⟩⟩
  case round =>
    clear HE0 HE1 HOW HOWN HROW HW1 k8
    obtain ⟨n, k, rfl, hn, hkl, hck, hbb, rw1, cb, cr, hgg, O⟩ := hrel
    have HBB : Hid _ := hbb
    have CB : Hid _ := cb
    have CR : Hid _ := cr
    have HK : Hid (cont k = cont l) := hck
    have HL : Hid (k.length = l.length) := hkl
    have HRW : Hid _ := rw1
    have HGG : Hid _ := hgg
    have HO : Hid _ := O
    clear cb cr hck hkl rw1 hgg O hbb
    by_cases hlt : n < l.length
    · have e1 : decide ((n : Int) < (l.length : Int)) = true := decide_eq_true (by omega)
      have e2 : decide (n < l.length) = true := decide_eq_true hlt
      obtain ⟨v, hv⟩ : ∃ v, k[n]? = some v := ⟨_, List.getElem?_eq_getElem (by rw [HL.out]; exact hlt)⟩
      obtain ⟨g, cur, rfl, hg⟩ := HGG.out _ (List.getElem_mem hlt)
      have hgq := HNE.out g rfl
      have HGQ : Hid (¬ w.heap.size = g) := fun e => hgq.1 e.symm
      have hok := (HRW.out.off ((Off.refl _ wr).drew)).ok v (List.mem_of_getElem? hv)
      have HR9 : Hid _ := HRW.out.off ((Off.refl _ wr).drew)
      have c2 : wr.drew.cell? ⟨g, n * 4 + 2, none⟩ = some (.slice v.ad v.data.length v.cap) := (HR9.out.at0 hv).c2
      have HG : Hid _ := hg
      have HGN : Hid _ := HNW.out g rfl
      clear hg hgq
      go_wp2_with fail
      refine wp_region_held_drew (S := fun w' => Off (fun c => c = g) wr w') (by kernel_rfl) ((Off.refl _ wr).drew) (fun hS => ?_)
      refine take_at (i := 0) 17 (v := .pointer (some ⟨w.heap.size, 1, none⟩)) rfl rfl (by kernel_rfl) (by kernel_rfl) (by kernel_rfl) (fun _ _ _ h => h) (Or.inl ⟨by rfl, fun w' hw' => by go_simp⟩) hS ?_
      simp only [Act.put, List.setIfInBounds_toArray, List.set_cons_zero, List.set_cons_succ]
      refine take_at (i := 1) 18 (v := .pointer (some ⟨w.heap.size, 9, none⟩)) rfl rfl (by kernel_rfl) (by kernel_rfl) (by kernel_rfl) (fun _ _ _ h => h) (Or.inl ⟨by rfl, fun w' hw' => by go_simp⟩) hS ?_
      simp only [Act.put, List.setIfInBounds_toArray, List.set_cons_zero, List.set_cons_succ]
      refine take_at (i := 2) 19 (v := .slice (some ⟨g, 0, none⟩) l.length c) rfl rfl (by kernel_rfl) (by kernel_rfl) (by kernel_rfl) (fun _ _ _ h => h) (Or.inl ⟨by rfl, fun w' hw' => by obtain ⟨x0, x1, x2, x3, x4, x5, x6, x7, x8, x9⟩ := cel10 (CB.out.off hw' HGQ.out); go_simp⟩) hS ?_
      simp only [Act.put, List.setIfInBounds_toArray, List.set_cons_zero, List.set_cons_succ]
      refine take_at (i := 3) 20 (v := .int .i64 (n : Int)) rfl rfl (by kernel_rfl) (by kernel_rfl) (by kernel_rfl) (fun _ _ _ h => h) (Or.inl ⟨by rfl, fun w' hw' => by go_simp⟩) hS ?_
      simp only [Act.put, List.setIfInBounds_toArray, List.set_cons_zero, List.set_cons_succ]
      refine take_at (i := 4) 21 (v := .pointer (some ⟨w.heap.size, 1, none⟩)) rfl rfl (by kernel_rfl) (by kernel_rfl) (by kernel_rfl) (fun _ _ _ h => h) (Or.inl ⟨by rfl, fun w' hw' => by go_simp⟩) hS ?_
      simp only [Act.put, List.setIfInBounds_toArray, List.set_cons_zero, List.set_cons_succ]
      refine take_at (i := 5) 22 (v := .pointer (some ⟨w.heap.size, 9, none⟩)) rfl rfl (by kernel_rfl) (by kernel_rfl) (by kernel_rfl) (fun _ _ _ h => h) (Or.inl ⟨by rfl, fun w' hw' => by go_simp⟩) hS ?_
      simp only [Act.put, List.setIfInBounds_toArray, List.set_cons_zero, List.set_cons_succ]
      refine take_at (i := 6) 23 (v := .slice (some ⟨g, 0, none⟩) l.length c) rfl rfl (by kernel_rfl) (by kernel_rfl) (by kernel_rfl) (fun _ _ _ h => h) (Or.inl ⟨by rfl, fun w' hw' => by obtain ⟨x0, x1, x2, x3, x4, x5, x6, x7, x8, x9⟩ := cel10 (CB.out.off hw' HGQ.out); go_simp⟩) hS ?_
      simp only [Act.put, List.setIfInBounds_toArray, List.set_cons_zero, List.set_cons_succ]
      refine take_at (i := 7) 24 (v := .int .i64 (n : Int)) rfl rfl (by kernel_rfl) (by kernel_rfl) (by kernel_rfl) (fun _ _ _ h => h) (Or.inl ⟨by rfl, fun w' hw' => by go_simp⟩) hS ?_
      simp only [Act.put, List.setIfInBounds_toArray, List.set_cons_zero, List.set_cons_succ]
      refine take_at (i := 8) 25 (v := .pointer (some ⟨g, n * 4, none⟩)) rfl rfl (by kernel_rfl) (by kernel_rfl) (by kernel_rfl) (fun _ _ _ h => h) (Or.inl ⟨by rfl, fun w' hw' => exec_idx10 rfl (idx_row hlt c g w')⟩) hS ?_
      simp only [Act.put, List.setIfInBounds_toArray, List.set_cons_zero, List.set_cons_succ]
      refine take_at (i := 9) 26 (v := .pointer (some ⟨g, n * 4 + 2, none⟩)) rfl rfl (by kernel_rfl) (by kernel_rfl) (by kernel_rfl) (fun _ _ _ h => h) (Or.inl ⟨by rfl, fun w' hw' => by go_simp⟩) hS ?_
      simp only [Act.put, List.setIfInBounds_toArray, List.set_cons_zero, List.set_cons_succ]
      refine wpAnyH_ready (rs := [10]) (by kernel_rfl) (by simp) ?_
      refine AllReadyH.cons rfl (fun K' hK' => ?_) AllReadyH.nil
      go_simp
      refine hK'.out _ _ hS (fun hS => ?_)
      clear hK' K'
      refine wpAnyH_ready (rs := [11]) (by kernel_rfl) (by simp) ?_
      refine AllReadyH.cons rfl (fun K' hK' => ?_) AllReadyH.nil
      go_simp
      refine (bclone_any v.ad v.cap v.data (by have := hok.len; omega) _ hok.src).mono ?_
      rintro e w9 ⟨t, c1, rfl, own, hnw, o9⟩
      have hS9 : Off (fun c => c = g) wr w9 := hS.trans o9 (fun _ _ h => h.elim)
      refine hK'.out _ _ hS9 (fun hS => ?_)
      clear hK' K' hS9
      refine take_at (i := 12) 29 (v := .pointer (some ⟨g, n * 4, none⟩)) rfl rfl (by kernel_rfl) (by kernel_rfl) (by kernel_rfl) (fun _ _ _ h => h) (Or.inl ⟨by rfl, fun w' hw' => exec_idx10 rfl (idx_row hlt c g w')⟩) hS ?_
      simp only [Act.put, List.setIfInBounds_toArray, List.set_cons_zero, List.set_cons_succ]
      refine take_at (i := 13) 30 (v := .pointer (some ⟨g, n * 4 + 2, none⟩)) rfl rfl (by kernel_rfl) (by kernel_rfl) (by kernel_rfl) (fun _ _ _ h => h) (Or.inl ⟨by rfl, fun w' hw' => by go_simp⟩) hS ?_
      simp only [Act.put, List.setIfInBounds_toArray, List.set_cons_zero, List.set_cons_succ]
      have R9 := HR9.out.off o9
      obtain ⟨cur9, hg9⟩ : ∃ cur, Cel g 88 cur w9 := ⟨_, HG.out.off (((Off.refl _ wr).drew).trans o9 (fun _ _ h => h)) (fun h => h)⟩
      have f9 := hg9.free
      have hc2 : w9.cell? ⟨g, n * 4 + 2, none⟩ = some (.slice v.ad v.data.length v.cap) := (R9.at0 hv).c2
      have R10 := R9.setData hv own.src
      have HNW9 : Hid (∀ x, blk t = some x → w.heap.size + 2 ≤ x) := fun x hx => by have h1 := hnw x hx; have h2 := CR.out.lt; have h3 : wr.drew.heap.size = wr.heap.size := rfl; omega
      clear hnw
      have HOW : Hid _ := own
      have HR10 : Hid _ := R10
      have HG9 : Hid _ := hg9
      have HO9 : Hid _ := o9
      clear own R9 R10 hg9 o9
      refine wpAnyH_ready (rs := [14]) (by kernel_rfl) (by simp) ?_
      refine AllReadyH.cons rfl (fun K' hK' => ?_) AllReadyH.nil
      go_simp
      refine hK'.out _ _ (hS.setCell (p := ⟨g, n * 4 + 2, none⟩) (.inl rfl) _) (fun hS => ?_)
      clear hK' K'
      refine wpAnyH_done (by kernel_rfl) ?_ _
      go_wp2_with fail
      go_roundw
      case rel =>
        have o12 : Off (fun c => c = g) wr (w9.setCell ⟨g, n * 4 + 2, none⟩ (.slice t v.data.length c1)) := hS
        refine ⟨n + 1, k.set n (⟨v.node, v.num, t, c1, v.data, v.dead⟩ : V), by go_num, by omega, by rw [List.length_set]; exact HL.out, by rw [cont_set hv]; exact HK.out, set_far hv HBB.out HNW9.out, HR10.out, CB.out.off o12 HGQ.out, CR.out.off o12 (fun e => (HNE.out g rfl).2 e.symm), fun u hu => ⟨g, _, rfl, HG9.out.set _ _⟩, HO.out.trans o12 (fun i hi h => ?_)⟩
        have := HGN.out
        omega
      case measure => simp [intOf]; omega
    · obtain rfl : n = l.length := by omega
      have e1 : decide ((l.length : Int) < (l.length : Int)) = false := decide_eq_false (by omega)
      have e2 : decide (l.length < l.length) = false := decide_eq_false (by omega)
      obtain ⟨x0, x1, x2, x3, x4, x5, x6, x7, x8, x9⟩ := cel10 CB.out
      obtain ⟨z0, z1, z2, z3, z4, z5, z6, z7, z8, z9⟩ := cel10 CR.out
      have fr := CR.out.free
      go_wp2_with fail
      refine bodyPost_ret (results_entry (x := ⟨key, f, t, c, k⟩) rfl rfl (by have e := CR.out.st10 (⟨key, f, t, c, k⟩ : E); rw [HL.out] at e; rw [HL.out]; exact e)) rfl ?_
      refine ⟨t, c, k, rfl, HK.out, ?_, ⟨fun _ => HNW.out, fun v hv _ x hx => by
        obtain ⟨i, hi⟩ := List.getElem?_of_mem hv
        have hil : i < l.length := by
          obtain ⟨h, -⟩ := List.getElem?_eq_some_iff.1 hi
          rw [HL.out] at h
          exact h
        have := HBB.out i v hil hi x hx
        omega⟩, by have e := HO.out.st10 (b := w.heap.size + 1) (.inr (by omega)) (⟨key, f, t, c, k⟩ : E); rw [HL.out] at e; exact e⟩
      exact HRW.out.offD (D := fun x => x = w.heap.size + 1) (by have e := (Off.refl (fun x => x = w.heap.size + 1) wr).st10 (b := w.heap.size + 1) (.inl rfl) (⟨key, f, t, c, k⟩ : E); rw [HL.out] at e; exact e) (fun x _ hx => (HNE.out x hx).2) (fun v hv x _ hx => by
        obtain ⟨i, hi⟩ := List.getElem?_of_mem hv
        have hil : i < l.length := by
          obtain ⟨h, -⟩ := List.getElem?_eq_some_iff.1 hi
          rw [HL.out] at h
          exact h
        have := HBB.out i v hil hi x hx
        omega)
set_option maxRecDepth 100000 in
set_option maxHeartbeats 1000000 in
theorem chint_any (x : H) (w : World) (hr : Row w x.e.a x.e.cap x.e.l) (hl : x.e.l.length ≤ 1000) :
    Calls Try.prog 28 #[(.agg #[.int .i64 x.node, .string x.e.key, .int .i64 (x.e.f 0), .int .i64 (x.e.f 1), .int .i64 (x.e.f 2), .int .i64 (x.e.f 3), .int .i64 (x.e.f 4), .int .i64 (x.e.f 5), .int .i64 (x.e.f 6), .int .i64 (x.e.f 7), .slice x.e.a x.e.l.length x.e.cap])] w fun e w' => ∃ y : H, e = .returned (.agg #[.int .i64 y.node, .string y.e.key, .int .i64 (y.e.f 0), .int .i64 (y.e.f 1), .int .i64 (y.e.f 2), .int .i64 (y.e.f 3), .int .i64 (y.e.f 4), .int .i64 (y.e.f 5), .int .i64 (y.e.f 6), .int .i64 (y.e.f 7), .slice y.e.a y.e.l.length y.e.cap]) ∧ y.abs = x.abs ∧ Row w' y.e.a y.e.cap y.e.l ∧ Ter (fun c => w.heap.size ≤ c) y.e.a y.e.l ∧ Off (fun _ => False) w w' := by
  obtain ⟨W, hW⟩ : ∃ W, W = ((w.alloc (.cells #[.int .i64 x.node, .string x.e.key, .int .i64 (x.e.f 0), .int .i64 (x.e.f 1), .int .i64 (x.e.f 2), .int .i64 (x.e.f 3), .int .i64 (x.e.f 4), .int .i64 (x.e.f 5), .int .i64 (x.e.f 6), .int .i64 (x.e.f 7), .slice x.e.a x.e.l.length x.e.cap] 39)).alloc (.cells #[.int .i64 0, .string ⟨#[]⟩, .int .i64 0, .int .i64 0, .int .i64 0, .int .i64 0, .int .i64 0, .int .i64 0, .int .i64 0, .int .i64 0, .slice none 0 0] 39)) := ⟨_, rfl⟩
  have O : Off (fun _ => False) w W := by rw [hW]; exact ((Off.refl _ w).alloc _).alloc _
  have C0 : Cel w.heap.size 39 #[.int .i64 x.node, .string x.e.key, .int .i64 (x.e.f 0), .int .i64 (x.e.f 1), .int .i64 (x.e.f 2), .int .i64 (x.e.f 3), .int .i64 (x.e.f 4), .int .i64 (x.e.f 5), .int .i64 (x.e.f 6), .int .i64 (x.e.f 7), .slice x.e.a x.e.l.length x.e.cap] W := by rw [hW]; exact (Cel.new w _ _).alloc _
  have C1 : Cel (w.heap.size + 1) 39 #[.int .i64 0, .string ⟨#[]⟩, .int .i64 0, .int .i64 0, .int .i64 0, .int .i64 0, .int .i64 0, .int .i64 0, .int .i64 0, .int .i64 0, .slice none 0 0] W := by rw [hW]; exact Cel.new1 w _ _ _
  obtain ⟨x0, x1, x2, x3, x4, x5, x6, x7, x8, x9, x10⟩ := cel11 C0
  have HC0 : Hid _ := C0
  have HC1 : Hid _ := C1
  have HR : Hid _ := hr.off O
  have HO : Hid _ := O
  have HW : Hid _ := hW
  clear hr O C0 C1 hW
  go_enter Try.func28, Try.ntmps28
  go_upto_region 1 with fail
  rw [show ((w.alloc (.cells #[.int .i64 x.node, .string x.e.key, .int .i64 (x.e.f 0), .int .i64 (x.e.f 1), .int .i64 (x.e.f 2), .int .i64 (x.e.f 3), .int .i64 (x.e.f 4), .int .i64 (x.e.f 5), .int .i64 (x.e.f 6), .int .i64 (x.e.f 7), .slice x.e.a x.e.l.length x.e.cap] 39)).alloc (.cells #[.int .i64 0, .string ⟨#[]⟩, .int .i64 0, .int .i64 0, .int .i64 0, .int .i64 0, .int .i64 0, .int .i64 0, .int .i64 0, .int .i64 0, .slice none 0 0] 39)) = W from HW.out.symm]
  go_wp2_with fail
  refine (centry_any x.e.key x.e.f x.e.a x.e.cap x.e.l W HR.out hl).mono ?_
  rintro e w1 ⟨a', c', k, rfl, hk, rk, tk, o1⟩
  obtain ⟨y, hy⟩ : ∃ y : H, y = ⟨x.node, ⟨x.e.key, x.e.f, a', c', k⟩⟩ := ⟨_, rfl⟩
  have D0 := HC0.out.off o1 (fun h => h)
  have D1 := HC1.out.off o1 (fun h => h)
  have E0 : Cel w.heap.size 39 #[.int .i64 y.node, .string y.e.key, .int .i64 (y.e.f 0), .int .i64 (y.e.f 1), .int .i64 (y.e.f 2), .int .i64 (y.e.f 3), .int .i64 (y.e.f 4), .int .i64 (y.e.f 5), .int .i64 (y.e.f 6), .int .i64 (y.e.f 7), .slice y.e.a y.e.l.length y.e.cap] ((((((((((w1.setCell ⟨w.heap.size, 1, none⟩ (.string x.e.key)).setCell ⟨w.heap.size, 2, none⟩ (.int .i64 (x.e.f 0))).setCell ⟨w.heap.size, 3, none⟩ (.int .i64 (x.e.f 1))).setCell ⟨w.heap.size, 4, none⟩ (.int .i64 (x.e.f 2))).setCell ⟨w.heap.size, 5, none⟩ (.int .i64 (x.e.f 3))).setCell ⟨w.heap.size, 6, none⟩ (.int .i64 (x.e.f 4))).setCell ⟨w.heap.size, 7, none⟩ (.int .i64 (x.e.f 5))).setCell ⟨w.heap.size, 8, none⟩ (.int .i64 (x.e.f 6))).setCell ⟨w.heap.size, 9, none⟩ (.int .i64 (x.e.f 7))).setCell ⟨w.heap.size, 10, none⟩ (.slice a' k.length c')) := by
    rw [hy]
    have h := D0
    replace h := h.set 1 (.string x.e.key)
    simp only [List.setIfInBounds_toArray, List.set_cons_zero, List.set_cons_succ] at h
    replace h := h.set 2 (.int .i64 (x.e.f 0))
    simp only [List.setIfInBounds_toArray, List.set_cons_zero, List.set_cons_succ] at h
    replace h := h.set 3 (.int .i64 (x.e.f 1))
    simp only [List.setIfInBounds_toArray, List.set_cons_zero, List.set_cons_succ] at h
    replace h := h.set 4 (.int .i64 (x.e.f 2))
    simp only [List.setIfInBounds_toArray, List.set_cons_zero, List.set_cons_succ] at h
    replace h := h.set 5 (.int .i64 (x.e.f 3))
    simp only [List.setIfInBounds_toArray, List.set_cons_zero, List.set_cons_succ] at h
    replace h := h.set 6 (.int .i64 (x.e.f 4))
    simp only [List.setIfInBounds_toArray, List.set_cons_zero, List.set_cons_succ] at h
    replace h := h.set 7 (.int .i64 (x.e.f 5))
    simp only [List.setIfInBounds_toArray, List.set_cons_zero, List.set_cons_succ] at h
    replace h := h.set 8 (.int .i64 (x.e.f 6))
    simp only [List.setIfInBounds_toArray, List.set_cons_zero, List.set_cons_succ] at h
    replace h := h.set 9 (.int .i64 (x.e.f 7))
    simp only [List.setIfInBounds_toArray, List.set_cons_zero, List.set_cons_succ] at h
    replace h := h.set 10 (.slice a' k.length c')
    simp only [List.setIfInBounds_toArray, List.set_cons_zero, List.set_cons_succ] at h
    exact h
  have E1 : Cel (w.heap.size + 1) 39 #[.int .i64 0, .string ⟨#[]⟩, .int .i64 0, .int .i64 0, .int .i64 0, .int .i64 0, .int .i64 0, .int .i64 0, .int .i64 0, .int .i64 0, .slice none 0 0] ((((((((((w1.setCell ⟨w.heap.size, 1, none⟩ (.string x.e.key)).setCell ⟨w.heap.size, 2, none⟩ (.int .i64 (x.e.f 0))).setCell ⟨w.heap.size, 3, none⟩ (.int .i64 (x.e.f 1))).setCell ⟨w.heap.size, 4, none⟩ (.int .i64 (x.e.f 2))).setCell ⟨w.heap.size, 5, none⟩ (.int .i64 (x.e.f 3))).setCell ⟨w.heap.size, 6, none⟩ (.int .i64 (x.e.f 4))).setCell ⟨w.heap.size, 7, none⟩ (.int .i64 (x.e.f 5))).setCell ⟨w.heap.size, 8, none⟩ (.int .i64 (x.e.f 6))).setCell ⟨w.heap.size, 9, none⟩ (.int .i64 (x.e.f 7))).setCell ⟨w.heap.size, 10, none⟩ (.slice a' k.length c')) := by
    have hb : w.heap.size + 1 ≠ w.heap.size := by omega
    exact ((((((((((D1.other hb _).other hb _).other hb _).other hb _).other hb _).other hb _).other hb _).other hb _).other hb _).other hb _)
  have OW : Off (fun c => c = w.heap.size) w1 ((((((((((w1.setCell ⟨w.heap.size, 1, none⟩ (.string x.e.key)).setCell ⟨w.heap.size, 2, none⟩ (.int .i64 (x.e.f 0))).setCell ⟨w.heap.size, 3, none⟩ (.int .i64 (x.e.f 1))).setCell ⟨w.heap.size, 4, none⟩ (.int .i64 (x.e.f 2))).setCell ⟨w.heap.size, 5, none⟩ (.int .i64 (x.e.f 3))).setCell ⟨w.heap.size, 6, none⟩ (.int .i64 (x.e.f 4))).setCell ⟨w.heap.size, 7, none⟩ (.int .i64 (x.e.f 5))).setCell ⟨w.heap.size, 8, none⟩ (.int .i64 (x.e.f 6))).setCell ⟨w.heap.size, 9, none⟩ (.int .i64 (x.e.f 7))).setCell ⟨w.heap.size, 10, none⟩ (.slice a' k.length c')) := by
    have hb : (w.heap.size = w.heap.size) ∨ w1.heap.size ≤ w.heap.size := .inl rfl
    exact (((((((((((Off.refl (fun c => c = w.heap.size) w1).setCell hb _).setCell hb _).setCell hb _).setCell hb _).setCell hb _).setCell hb _).setCell hb _).setCell hb _).setCell hb _).setCell hb _)
  have f0 := D0.free
  obtain ⟨y0, y1, y2, y3, y4, y5, y6, y7, y8, y9, y10⟩ := cel11 D0
  go_upto_region 2 with fail
  clear y0 y1 y2 y3 y4 y5 y6 y7 y8 y9 y10 f0 x0 x1 x2 x3 x4 x5 x6 x7 x8 x9 x10
  generalize hv : ((((((((((w1.setCell ⟨w.heap.size, 1, none⟩ (.string x.e.key)).setCell ⟨w.heap.size, 2, none⟩ (.int .i64 (x.e.f 0))).setCell ⟨w.heap.size, 3, none⟩ (.int .i64 (x.e.f 1))).setCell ⟨w.heap.size, 4, none⟩ (.int .i64 (x.e.f 2))).setCell ⟨w.heap.size, 5, none⟩ (.int .i64 (x.e.f 3))).setCell ⟨w.heap.size, 6, none⟩ (.int .i64 (x.e.f 4))).setCell ⟨w.heap.size, 7, none⟩ (.int .i64 (x.e.f 5))).setCell ⟨w.heap.size, 8, none⟩ (.int .i64 (x.e.f 6))).setCell ⟨w.heap.size, 9, none⟩ (.int .i64 (x.e.f 7))).setCell ⟨w.heap.size, 10, none⟩ (.slice a' k.length c')) = V at E0 E1 OW ⊢
  obtain ⟨x0, x1, x2, x3, x4, x5, x6, x7, x8, x9, x10⟩ := cel11 E0
  obtain ⟨z0, z1, z2, z3, z4, z5, z6, z7, z8, z9, z10⟩ := cel11 E1
  have fr := E1.free
  have HY : Hid _ := hy
  have HE1 : Hid _ := E1
  have HOV : Hid (Off (fun _ => False) w V) := (HO.out.trans o1 (fun _ _ h => h)).trans OW (fun i hi e => by omega)
  have HTK : Hid _ := tk
  have HN : Hid (w.heap.size + 2 ≤ W.heap.size) := by have := HC1.out.lt; show _ ≤ _; omega
  have HRK : Hid _ := rk.offT tk OW (fun c hc hd e => by have := HN.out; omega)
  have HCK : Hid _ := hk
  clear hv hy E0 E1 OW D0 D1 rk tk hk o1
  go_wp2_with fail
  refine bodyPost_ret (results_hint (x := y) rfl rfl (HE1.out.st11 y)) rfl ?_
  have OZ := (Off.refl (fun c => c = w.heap.size + 1) V).st11 (b := w.heap.size + 1) (.inl rfl) y
  have hN := HN.out
  refine ⟨y, rfl, ?_, ?_, ?_, HOV.out.trans OZ (fun i hi e => by omega)⟩
  · rw [HY.out]
    show (⟨x.node, ⟨x.e.key, x.e.f, cont k⟩⟩ : HK) = _
    rw [HCK.out]
    rfl
  · have := HRK.out.offT HTK.out OZ (fun c hc hd e => by omega)
    rw [HY.out] at this ⊢
    exact this
  · rw [HY.out]
    exact HTK.out.mono (fun c hc => by omega)
end Go.Proofs.Ytfhacfedklaaiaa

/- slices.Insert of one hint. -/
namespace Go.Proofs.Ytfhacfedklaaiaa
open Go.RowKit

theorem spl_mid {l : List Value} {o k n : Nat} {cs : List Value} (h : o ≤ l.length) (hk : k = o) (hn : n = cs.length) : ((spl l o cs).drop k).take n = cs := by
  subst hk hn
  unfold spl
  rw [List.append_assoc, List.drop_append, List.drop_of_length_le (by rw [List.length_take]; omega), List.nil_append, List.length_take, Nat.min_eq_left h, Nat.sub_self, List.drop_zero, List.take_left]
theorem wp_copy_run {P : Program} (w : World) {o : Oper} {a : Act} {K : Act → World → Prop} {Q : Exit → Act → World → Prop} (d s : Operand) (t t' : TypeId)
    (ho : o.op = .call { callee := .builtin .copy, args := #[d, s], argTypes := #[t, t'] }) (v u : Value) (hd : a.eval d = v) (hs : a.eval s = u) {v' : Value} {w' : World}
    (hr : (Builtin.copy_ #[t, t'] o.type #[v, u]).run P w = .ok v' w') (h : K (a.put o.dst v') w') : o.wp P a w K Q := by
  unfold Oper.wp execOp
  simp only [ho, resolve, invoke, builtin, Sem.run_bind, Sem.run_pure, Result.andThen_ok, List.map_toArray, List.map_cons, List.map_nil, hd, hs, hr]
  exact h
theorem wpList_copy_run {P : Program} (w : World) {ops : Array Oper} {rest : List Oper} {o : Oper} {a : Act} {Q : Exit → Act → World → Prop} (hgd : o.guard = none) (d s : Operand) (t t' : TypeId)
    (ho : o.op = .call { callee := .builtin .copy, args := #[d, s], argTypes := #[t, t'] }) (v u : Value) (hd : a.eval d = v) (hs : a.eval s = u) {v' : Value} {w' : World}
    (hr : (Builtin.copy_ #[t, t'] o.type #[v, u]).run P w = .ok v' w') (h : wpList P ops Q rest (a.put o.dst v') w') : wpList P ops Q (o :: rest) a w :=
  wpList_plain hgd fun _ hK => wp_copy_run w d s t t' ho v u hd hs hr (hK _ _ h)
theorem wp_copy_if {P : Program} {o : Oper} {a : Act} {w w' : World} {K : Act → World → Prop} {Q : Exit → Act → World → Prop} {y : Nat → Option Bool} {E : Prop} (hw : Region.wanted o y = true) (s x : Operand) {t u : TypeId}
    (ho : o.op = .call { callee := .builtin .copy, args := #[s, x], argTypes := #[t, u] }) {v v' X : Value} (hs : a.eval s = v) (hx : a.eval x = X) (hr : (Builtin.copy_ #[t, u] o.type #[v, X]).run P w = .ok v' w')
    (d : Nat) (hd : o.dst = some d) (h : K (a.put (some d) v') w') : if Region.wanted o y = true then Oper.wp P o a w K Q else E := by
  rw [if_pos hw]
  rw [← hd] at h
  exact wp_copy_run w s x t u ho v X hs hx hr h
set_option maxHeartbeats 2000000 in
set_option maxRecDepth 100000 in
theorem hins_any (a : Option Addr) (cap : Nat) (xs : List H) (i : Nat) (u : H) (vb : Nat) (w : World) (own : OwnG 39 11 hcs w a cap xs) (hi : i ≤ xs.length) (hf : xs.length ≤ 900) (hv : Cel vb 39 #[.int .i64 u.node, .string u.e.key, .int .i64 (u.e.f 0), .int .i64 (u.e.f 1), .int .i64 (u.e.f 2), .int .i64 (u.e.f 3), .int .i64 (u.e.f 4), .int .i64 (u.e.f 5), .int .i64 (u.e.f 6), .int .i64 (u.e.f 7), .slice u.e.a u.e.l.length u.e.cap] w) (hne : blk a ≠ some vb) (ys : List H) (hys : ys = xs.take i ++ u :: xs.drop i) :
    Calls Try.prog 27 #[.slice a xs.length cap, .int .i64 (i : Int), .slice (some ⟨vb, 0, none⟩) 1 1] w fun e w' => ∃ a' c' n, e = .returned (.slice a' n c') ∧ n = ys.length ∧ OwnG 39 11 hcs w' a' c' ys ∧ Off (fun c => blk a = some c) w w' ∧ ∀ g, blk a' = some g → blk a = some g ∨ w.heap.size ≤ g := by
  obtain ⟨n, hn⟩ : ∃ n, n = xs.length := ⟨_, rfl⟩
  rw [← hn] at hi hf ⊢
  have HN : Hid (xs.length = n) := hn.symm
  have HVC : Hid _ := hv
  have HYS : Hid _ := hys
  have HOW : Hid _ := own
  have HUC : Hid (∀ W, Cel vb 39 #[.int .i64 u.node, .string u.e.key, .int .i64 (u.e.f 0), .int .i64 (u.e.f 1), .int .i64 (u.e.f 2), .int .i64 (u.e.f 3), .int .i64 (u.e.f 4), .int .i64 (u.e.f 5), .int .i64 (u.e.f 6), .int .i64 (u.e.f 7), .slice u.e.a u.e.l.length u.e.cap] W → ∀ j v, (hcs u)[j]? = some v → W.cell? ((⟨vb, 0, none⟩ : Addr).add j) = some v) := fun W hW j v hj => by rw [add_lit, Nat.zero_add, hW.cell, ← hj, List.getElem?_toArray]; rfl
  clear hn own hv hys
  by_cases hin0 : n ≤ i
  · clear hne HUC
    have hn0 : i = n := by omega
    subst hn0
    have d1 : (((i : Int)) == ((i : Int))) = true := by simp
    have HV : Hid (Hns w (some ⟨vb, 0, none⟩) 1 [u]) := ⟨by simp, by omega, fun j v hj => by
        match j, hj with
        | 0, hj =>
          simp at hj
          subst hj
          exact ⟨vb, 0, rfl, ⟨fun r x hr => by simp only [Nat.zero_mul, Nat.zero_add]; rw [HVC.out.cell, ← hr, List.getElem?_toArray]; rfl⟩⟩⟩
    have own := HOW.out
    have hl := HN.out
    go_enter Try.func27, Try.ntmps27
    go_wp2_with (at_builtin; refine wpList_appH rfl (.tmp 23) (.tmp 24) rfl a cap xs (by rw [hl]; rfl) own _ 1 [u] rfl HV.out (fun h => by cases h) (by simp; omega) ?_; intro t' c' w' zs hzs own' off' at')
    all_goals (
      go_ret
      have e : zs = ys := by rw [hzs.out, HYS.out, ← hl, List.take_length, List.drop_length]
      rw [e] at own'
      refine ⟨t', c', zs.length, rfl, by rw [e], own', off', fun g hg => ?_⟩
      rcases at' with h | h
      · exact .inl (h ▸ hg)
      · rw [h] at hg
        simp at hg
        exact .inr (by omega))
  · have hin : i < n := by omega
    have d1 : (((i : Int)) == ((n : Int))) = false := by rw [beq_eq_false_iff_ne]; omega
    obtain ⟨g, cur, rfl, hcel, hlc, hcm, hcs0, htk⟩ := HOW.out.cel (fun e => by have := HOW.out.nn e; have h2 := HN.out; rw [this] at h2; simp at h2; omega)
    rw [HN.out] at hlc htk
    have hcm2 : cap ≤ 9223372036854775807 := by unfold maxLen at hcm; omega
    have HC : Hid _ := hcel
    have HCS : Hid _ := hcs0
    have HTK : Hid _ := htk
    have HNE : Hid (g ≠ vb) := fun e => hne (by rw [← e]; rfl)
    have HCL : Hid (cur.toList.length = cap * 11) := by show _ = _; rw [Array.length_toList]; exact hcs0
    have HDL : Hid (((xs.drop i).flatMap hcs).length = (n - i) * 11) := by show _ = _; rw [flat_len hcs_len, List.length_drop, HN.out]
    have HTL : Hid (((xs.take i).flatMap hcs).length = i * 11) := by show _ = _; rw [flat_len hcs_len, List.length_take, HN.out]; congr 1; omega
    have HTI : Hid (cur.toList.take (i * 11) = (xs.take i).flatMap hcs) := by show _ = _; rw [flat_take hcs_len, ← htk, List.take_take]; congr 1; omega
    have HSR : Hid (∀ W, Cel g 39 cur W → ∀ j v, ((xs.drop i).flatMap hcs)[j]? = some v → W.cell? ((⟨g, i * 11, none⟩ : Addr).add j) = some v) := fun W hW j v hj => by
        rw [flat_drop hcs_len, List.getElem?_drop, ← HTK.out, List.getElem?_take] at hj
        split at hj
        · rw [add_lit, hW.cell]
          simpa using hj
        · simp at hj
    have HYL : Hid (ys.length = n + 1) := by show _ = _; rw [HYS.out]; simp; have := HN.out; omega
    have HYF : Hid (ys.flatMap hcs = (xs.take i).flatMap hcs ++ hcs u ++ (xs.drop i).flatMap hcs) := by show _ = _; rw [HYS.out, List.flatMap_append, List.flatMap_cons, List.append_assoc]
    clear hcel hcs0 htk hne
    have hz1 : (1 : Int) + 0 = 1 := rfl
    clear hz1
    by_cases hroom : n + 1 ≤ cap
    · have d2 : decide ((cap : Int) < (n : Int) + 1) = false := decide_eq_false (by omega)
      have d2' : decide (cap < n + 1) = false := decide_eq_false (by omega)
      have b1 : (n : Int) + 1 ≤ (cap : Int) := by omega
      have b1' : n + 1 ≤ cap := by omega
      have b2 : (i : Int) + 1 ≤ (n : Int) + 1 := by omega
      have b3 : ¬ (cap = i + 1) := by omega
      have b4 : (i : Int) ≤ (n : Int) + 1 := by omega
      have b5 : ¬ (cap = i) := by omega
      have hov : ∀ o lb cb, (callFunc 43 #[.slice (some ⟨vb, 0, none⟩) 1 1, .slice (some ⟨g, o, none⟩) lb cb]).run Try.prog w = .ok (.value (.bool false)) w := fun o lb cb => by
          rw [run_callFunc_extern Try.func43 (by kernel_rfl) (by kernel_rfl) (by kernel_rfl) (e := Extern.SlicesOverlaps.overlaps #[28, 28] #[4]) (by kernel_rfl),
            Lib.run_overlaps_apart w 28 4 39 Try.underlying28 11 (fun W => by obtain ⟨i0, hi, hz0, hz1, hz2⟩ := info_parts Try.infoH; simp [sizeOf, typeInfo, hi, hz1]) ⟨vb, 0, none⟩ ⟨g, o, none⟩ 1 1 lb cb (fun e => HNE.out e.symm) 39 39 11 (cap * 11) (by unfold World.shape?; rw [HVC.out.is]; rfl) (by unfold World.shape?; rw [HC.out.is]; simp [HCS.out]) (by omega) (HVC.out.free 0) (HVC.out.free 11)]
          rfl
      go_enter Try.func27, Try.ntmps27
      go_upto_region 15 with (simp only [hov])
      obtain ⟨o4, hd, ho4⟩ := sll g (n + 1) cap (i + 1) ((i : Int) + 1) (by simp) (by omega)
      obtain ⟨o5, hs, ho5⟩ := sll g (n + 1) cap i (i : Int) rfl (by omega)
      obtain rfl : o4 = (i + 1) * 11 := ho4 (by omega)
      obtain rfl : o5 = i * 11 := ho5 (by omega)
      rw [show n + 1 - (i + 1) = n - i by omega] at hd
      clear hov ho4 ho5
      obtain ⟨w4, hr4, hc4, o4⟩ := copy_run (w := w.drew) (o := (i + 1) * 11) (dLen := n - i) (dCap := cap - (i + 1)) (sLen := n + 1 - i) (sCap := cap - i) (a := ⟨g, i * 11, none⟩) (cs := (xs.drop i).flatMap hcs) HC.out.drew (n - i) (by show min _ _ = _; omega) HDL.out (HSR.out _ HC.out.drew) (by rw [HDL.out]; have := HCS.out; omega) (flat_one hcs_one _) 3
      have HC4 : Hid _ := hc4
      have HO4 : Hid (Off (fun c => c = g) w w4) := ((Off.refl _ w).drew).trans o4 (fun _ _ h => h)
      clear hc4 o4
      refine wp_region_held_drew (S := fun w' => Off (fun c => c = g) w w') (by kernel_rfl) ((Off.refl _ w).drew) (fun hS => ?_)
      refine take_at (i := 0) 69 (v := .slice (some ⟨g, 0, none⟩) (n + 1) cap) rfl rfl (by kernel_rfl) (by kernel_rfl) (by kernel_rfl) (fun _ _ _ h => h) (Or.inl ⟨by rfl, fun w' hw' => by go_simp⟩) hS ?_
      simp only [Act.put, List.setIfInBounds_toArray, List.set_cons_zero, List.set_cons_succ]
      refine take_at (i := 1) 70 (v := .int .i64 (i : Int)) rfl rfl (by kernel_rfl) (by kernel_rfl) (by kernel_rfl) (fun _ _ _ h => h) (Or.inl ⟨by rfl, fun w' hw' => by go_simp⟩) hS ?_
      simp only [Act.put, List.setIfInBounds_toArray, List.set_cons_zero, List.set_cons_succ]
      refine take_at (i := 2) 71 (v := .int .i64 1) rfl rfl (by kernel_rfl) (by kernel_rfl) (by kernel_rfl) (fun _ _ _ h => h) (Or.inl ⟨by rfl, fun w' hw' => by go_simp⟩) hS ?_
      simp only [Act.put, List.setIfInBounds_toArray, List.set_cons_zero, List.set_cons_succ]
      refine take_at (i := 3) 72 (v := .int .i64 ((i : Int) + 1)) rfl rfl (by kernel_rfl) (by kernel_rfl) (by kernel_rfl) (fun _ _ _ h => h) (Or.inl ⟨by rfl, fun w' hw' => by go_simp; rw [IntKind.wrap_i64]; omega⟩) hS ?_
      simp only [Act.put, List.setIfInBounds_toArray, List.set_cons_zero, List.set_cons_succ]
      refine take_at (i := 4) 73 (v := .slice (some ⟨g, ((i + 1) * 11), none⟩) (n - i) (cap - (i + 1))) rfl rfl (by kernel_rfl) (by kernel_rfl) (by kernel_rfl) (fun _ _ _ h => h) (Or.inl ⟨by rfl, fun w' hw' => by have := hd w'; go_simp⟩) hS ?_
      simp only [Act.put, List.setIfInBounds_toArray, List.set_cons_zero, List.set_cons_succ]
      refine take_at (i := 5) 74 (v := .slice (some ⟨g, 0, none⟩) (n + 1) cap) rfl rfl (by kernel_rfl) (by kernel_rfl) (by kernel_rfl) (fun _ _ _ h => h) (Or.inl ⟨by rfl, fun w' hw' => by go_simp⟩) hS ?_
      simp only [Act.put, List.setIfInBounds_toArray, List.set_cons_zero, List.set_cons_succ]
      refine take_at (i := 6) 75 (v := .int .i64 (i : Int)) rfl rfl (by kernel_rfl) (by kernel_rfl) (by kernel_rfl) (fun _ _ _ h => h) (Or.inl ⟨by rfl, fun w' hw' => by go_simp⟩) hS ?_
      simp only [Act.put, List.setIfInBounds_toArray, List.set_cons_zero, List.set_cons_succ]
      refine take_at (i := 7) 76 (v := .slice (some ⟨g, (i * 11), none⟩) (n + 1 - i) (cap - i)) rfl rfl (by kernel_rfl) (by kernel_rfl) (by kernel_rfl) (fun _ _ _ h => h) (Or.inl ⟨by rfl, fun w' hw' => by have := hs w'; go_simp⟩) hS ?_
      simp only [Act.put, List.setIfInBounds_toArray, List.set_cons_zero, List.set_cons_succ]
      refine wpAnyH_ready (rs := [8]) (by kernel_rfl) (by simp) ?_
      refine AllReadyH.cons rfl (fun K' hK' => ?_) AllReadyH.nil
      refine wp_copy_if rfl (.tmp 73) (.tmp 76) rfl rfl rfl hr4 77 rfl ?_
      simp only [Act.put, List.setIfInBounds_toArray, List.set_cons_zero, List.set_cons_succ]
      refine hK'.out _ _ HO4.out (fun hS => ?_)
      clear hK' K'
      refine wpAnyH_done (by kernel_rfl) ?_ _
      clear hS hr4 hd hs
      have hsl : (spl cur.toList ((i + 1) * 11) ((xs.drop i).flatMap hcs)).length = cap * 11 := by have h1 := HDL.out; have h2 := HCL.out; rw [spl_len (by omega), h2]
      have HSL : Hid _ := hsl
      clear hsl
      obtain ⟨w5, hr5, hc5, o5⟩ := copy_run (o := i * 11) (dLen := n + 1 - i) (dCap := cap - i) (sLen := 1) (sCap := 1) (a := ⟨vb, 0, none⟩) (cs := hcs u) HC4.out 1 (by show min 1 _ = 1; omega) rfl (HUC.out _ (HVC.out.off HO4.out (fun e => HNE.out e.symm))) (by rw [hcs_len, List.size_toArray, HSL.out]; omega) (hcs_one u) 3
      have HC5 : Hid _ := hc5
      have HO5 : Hid _ := HO4.out.trans o5 (fun _ _ h => h)
      clear hc5 o5
      go_wp2_with (at_builtin; refine wpList_copy_run _ rfl (.tmp 80) (.tmp 81) 28 28 rfl _ _ rfl rfl hr5 ?_)
      go_ret
      have hsz : (spl (spl cur.toList ((i + 1) * 11) ((xs.drop i).flatMap hcs)).toArray.toList (i * 11) (hcs u)).length = cap * 11 := by rw [List.toList_toArray, spl_len (by rw [hcs_len, HSL.out]; omega), HSL.out]
      refine ⟨some ⟨g, 0, none⟩, cap, n + 1, rfl, HYL.out.symm, own_of hcs_len HC5.out (by rw [HYL.out]; omega) hcm (by rw [List.size_toArray]; exact hsz) ?_, HO5.out.mono (fun _ _ h => by rw [h]; rfl), fun x hx => .inl hx⟩
      have hsl := HSL.out
      have hdl := HDL.out
      have hcl := HCL.out
      rw [HYL.out, List.toList_toArray, List.toList_toArray, spl_up (by omega) (by rw [hcs_len]; omega), spl_lo (by omega) (by omega), HTI.out, HYF.out, hcs_len]
      congr 1
      rw [spl_mid (by omega) (by omega) (by omega)]
    · have d2 : decide ((cap : Int) < (n : Int) + 1) = true := decide_eq_true (by omega)
      have d2' : decide (cap < n + 1) = true := decide_eq_true (by omega)
      obtain ⟨k, hk⟩ : ∃ k : Nat, k = n + 1 - i := ⟨_, rfl⟩
      have hk1 : (n : Int) + 1 - (i : Int) = (k : Int) := by omega
      have HK : Hid (i + k = n + 1) := by show _ = _; omega
      have hk0 : 0 < k := by omega
      clear hk
      obtain ⟨g2, c2, cur2, w2, hr, hc2, ht2, hl2, hm2, hs2, hg2, o2⟩ := zeros_run (w := w) (g := g) (i := i) (cap := cap) (k := k) HTL.out (fun j v hj => by rw [HC.out.cell]; rw [← HTI.out, List.getElem?_take] at hj; split at hj; simpa using hj; simp at hj) hk0 (by have := HK.out; omega) (by have := HK.out; omega) 28
      rw [HK.out] at hr hl2
      have HC2 : Hid _ := hc2
      have HT2 : Hid _ := ht2
      have HS2 : Hid _ := hs2
      have HG2 : Hid _ := hg2
      have HO2 : Hid _ := o2
      have HM2 : Hid _ := hm2
      have hm3 : c2 ≤ 9223372036854775807 := by unfold maxLen at hm2; omega
      clear hc2 ht2 hs2 hg2 o2 hm2
      have b1 : (i : Int) ≤ (n : Int) + 1 := by omega
      have b2 : ¬ (c2 = i) := by omega
      have b3 : ¬ (cap = i) := by omega
      obtain ⟨w3, hr3, hc3, o3⟩ := copy_run (o := i * 11) (dLen := n + 1 - i) (dCap := c2 - i) (sLen := 1) (sCap := 1) (a := ⟨vb, 0, none⟩) (cs := hcs u) HC2.out 1 (by show min 1 _ = 1; omega) rfl (HUC.out _ (HVC.out.off HO2.out (fun h => h))) (by rw [hcs_len]; have := HS2.out; omega) (hcs_one u) 3
      have HC3 : Hid _ := hc3
      have HO3 : Hid _ := o3
      clear hc3 o3
      go_enter Try.func27, Try.ntmps27
      go_upto_region 10 with (at_builtin; refine Lib.wpList_append_run _ rfl (.tmp 34) (.tmp 39) 28 3 rfl _ _ rfl rfl _ _ hr ?_)
      go_upto_region 11 with (at_builtin; refine wpList_copy_run _ rfl (.tmp 43) (.tmp 44) 28 28 rfl _ _ rfl rfl hr3 ?_)
      obtain ⟨o4, hd, ho4⟩ := sll g2 (n + 1) c2 (i + 1) ((i : Int) + 1) (by simp) (by omega)
      obtain ⟨o5, hs, ho5⟩ := sll g n cap i (i : Int) rfl (by omega)
      obtain rfl : o4 = (i + 1) * 11 := ho4 (by omega)
      obtain rfl : o5 = i * 11 := ho5 (by omega)
      rw [show n + 1 - (i + 1) = n - i by omega] at hd
      have hcl2 : cur2.toList.length = c2 * 11 := by rw [Array.length_toList]; exact HS2.out
      have hsl : (spl cur2.toList (i * 11) (hcs u)).length = c2 * 11 := by rw [spl_len (by rw [hcs_len]; omega), hcl2]
      have HSL : Hid _ := hsl
      have HCL2 : Hid _ := hcl2
      clear hsl hcl2 ho4 ho5
      obtain ⟨w4, hr4, hc4, o4⟩ := copy_run (w := w3.drew) (o := (i + 1) * 11) (dLen := n - i) (dCap := c2 - (i + 1)) (sLen := n - i) (sCap := cap - i) (a := ⟨g, i * 11, none⟩) (cs := (xs.drop i).flatMap hcs) HC3.out.drew (n - i) (by show min _ _ = _; omega) HDL.out (HSR.out _ ((HC.out.off HO2.out (fun h => h)).off HO3.out (fun e => by have h1 := HC.out.lt; have h2 := HG2.out; omega)).drew) (by rw [HDL.out, List.size_toArray, HSL.out]; omega) (flat_one hcs_one _) 3
      have HC4 : Hid _ := hc4
      have HO4 : Hid (Off (fun c => c = g2) w3 w4) := ((Off.refl _ w3).drew).trans o4 (fun _ _ h => h)
      clear hc4 o4 hr hr3
      refine wp_region_held_drew (S := fun w' => Off (fun c => c = g2) w3 w') (by kernel_rfl) ((Off.refl _ w3).drew) (fun hS => ?_)
      refine take_at (i := 0) 46 (v := .slice (some ⟨g2, 0, none⟩) (n + 1) c2) rfl rfl (by kernel_rfl) (by kernel_rfl) (by kernel_rfl) (fun _ _ _ h => h) (Or.inl ⟨by rfl, fun w' hw' => by go_simp⟩) hS ?_
      simp only [Act.put, List.setIfInBounds_toArray, List.set_cons_zero, List.set_cons_succ]
      refine take_at (i := 1) 47 (v := .int .i64 (i : Int)) rfl rfl (by kernel_rfl) (by kernel_rfl) (by kernel_rfl) (fun _ _ _ h => h) (Or.inl ⟨by rfl, fun w' hw' => by go_simp⟩) hS ?_
      simp only [Act.put, List.setIfInBounds_toArray, List.set_cons_zero, List.set_cons_succ]
      refine take_at (i := 2) 48 (v := .int .i64 1) rfl rfl (by kernel_rfl) (by kernel_rfl) (by kernel_rfl) (fun _ _ _ h => h) (Or.inl ⟨by rfl, fun w' hw' => by go_simp⟩) hS ?_
      simp only [Act.put, List.setIfInBounds_toArray, List.set_cons_zero, List.set_cons_succ]
      refine take_at (i := 3) 49 (v := .int .i64 ((i : Int) + 1)) rfl rfl (by kernel_rfl) (by kernel_rfl) (by kernel_rfl) (fun _ _ _ h => h) (Or.inl ⟨by rfl, fun w' hw' => by go_simp; rw [IntKind.wrap_i64]; omega⟩) hS ?_
      simp only [Act.put, List.setIfInBounds_toArray, List.set_cons_zero, List.set_cons_succ]
      refine take_at (i := 4) 50 (v := .slice (some ⟨g2, ((i + 1) * 11), none⟩) (n - i) (c2 - (i + 1))) rfl rfl (by kernel_rfl) (by kernel_rfl) (by kernel_rfl) (fun _ _ _ h => h) (Or.inl ⟨by rfl, fun w' hw' => by have := hd w'; go_simp⟩) hS ?_
      simp only [Act.put, List.setIfInBounds_toArray, List.set_cons_zero, List.set_cons_succ]
      refine take_at (i := 5) 51 (v := .slice (some ⟨g, 0, none⟩) n cap) rfl rfl (by kernel_rfl) (by kernel_rfl) (by kernel_rfl) (fun _ _ _ h => h) (Or.inl ⟨by rfl, fun w' hw' => by go_simp⟩) hS ?_
      simp only [Act.put, List.setIfInBounds_toArray, List.set_cons_zero, List.set_cons_succ]
      refine take_at (i := 6) 52 (v := .int .i64 (i : Int)) rfl rfl (by kernel_rfl) (by kernel_rfl) (by kernel_rfl) (fun _ _ _ h => h) (Or.inl ⟨by rfl, fun w' hw' => by go_simp⟩) hS ?_
      simp only [Act.put, List.setIfInBounds_toArray, List.set_cons_zero, List.set_cons_succ]
      refine take_at (i := 7) 53 (v := .slice (some ⟨g, (i * 11), none⟩) (n - i) (cap - i)) rfl rfl (by kernel_rfl) (by kernel_rfl) (by kernel_rfl) (fun _ _ _ h => h) (Or.inl ⟨by rfl, fun w' hw' => by have := hs w'; go_simp⟩) hS ?_
      simp only [Act.put, List.setIfInBounds_toArray, List.set_cons_zero, List.set_cons_succ]
      refine wpAnyH_ready (rs := [8]) (by kernel_rfl) (by simp) ?_
      refine AllReadyH.cons rfl (fun K' hK' => ?_) AllReadyH.nil
      refine wp_copy_if rfl (.tmp 50) (.tmp 53) rfl rfl rfl hr4 54 rfl ?_
      simp only [Act.put, List.setIfInBounds_toArray, List.set_cons_zero, List.set_cons_succ]
      refine hK'.out _ _ HO4.out (fun hS => ?_)
      clear hK' K'
      refine wpAnyH_done (by kernel_rfl) ?_ _
      clear hS
      go_wp2_with fail
      go_ret
      have hsz : (spl (spl cur2.toList (i * 11) (hcs u)).toArray.toList ((i + 1) * 11) ((xs.drop i).flatMap hcs)).length = c2 * 11 := by rw [List.toList_toArray, spl_len (by rw [HDL.out, HSL.out]; omega), HSL.out]
      refine ⟨some ⟨g2, 0, none⟩, c2, n + 1, rfl, HYL.out.symm, own_of hcs_len HC4.out (by rw [HYL.out]; exact hl2) HM2.out (by rw [List.size_toArray]; exact hsz) ?_, ?_, fun x hx => ?_⟩
      · have hsl := HSL.out
        have hdl := HDL.out
        have hcl := HCL2.out
        rw [HYL.out, List.toList_toArray, List.toList_toArray, spl_in (by omega) (by omega), spl_in (by omega) (by rw [hcs_len]; omega), HT2.out, HYF.out]
      · refine (HO2.out.mono (fun _ _ h => h.elim)).trans ((HO3.out).trans HO4.out (fun _ _ h => h)) (fun c hc e => ?_)
        have := HG2.out
        omega
      · simp [blk] at hx
        right
        have := HG2.out
        omega
end Go.Proofs.Ytfhacfedklaaiaa

/- A hint's Sibs written over in a row of one's own. -/
namespace Go.Proofs.Ytfhacfedklaaiaa
open Go.RowKit

/-- Values written one behind the other. -/
def wrs (g : Nat) : Nat → List Value → World → World
  | _, [], w => w
  | o, u :: us, w => wrs g (o + 1) us (w.setCell ⟨g, o, none⟩ u)
theorem off_wrs {D : Nat → Prop} {a : World} {g : Nat} : ∀ {us : List Value} {o : Nat} {w : World}, Off D a w → (D g ∨ a.heap.size ≤ g) → Off D a (wrs g o us w)
  | [], _, _, h, _ => h
  | u :: us, o, w, h, hg => by
    unfold wrs
    exact off_wrs (h.setCell (p := ⟨g, o, none⟩) hg u) hg
def sets : List Value → Nat → List Value → List Value
  | l, _, [] => l
  | l, o, v :: vs => sets (l.set o v) (o + 1) vs
theorem Cel.sets {g : Nat} {t : TypeId} : ∀ {vs : List Value} {o : Nat} {cur : Array Value} {w : World}, Cel g t cur w → Cel g t (sets cur.toList o vs).toArray (wrs g o vs w)
  | [], _, cur, w, h => by simpa [Ytfhacfedklaaiaa.sets, wrs] using h
  | v :: vs, o, cur, w, h => by
    have := Cel.sets (vs := vs) (o := o + 1) (h.set o v)
    rw [Array.toList_setIfInBounds] at this
    exact this
theorem sets_eq : ∀ (vs : List Value) (l : List Value) (o : Nat), o + vs.length ≤ l.length → sets l o vs = spl l o vs
  | [], l, o, _ => by simp [sets, spl]
  | v :: vs, l, o, h => by
    rw [List.length_cons] at h
    unfold sets
    rw [sets_eq vs (l.set o v) (o + 1) (by rw [List.length_set]; omega)]
    unfold spl
    rw [list_seg_step l o v vs (by omega), List.length_cons]
theorem spl_take {l : List Value} {o n : Nat} {cs : List Value} (h : o + cs.length ≤ n) (hn : n ≤ l.length) : (spl l o cs).take n = spl (l.take n) o cs := by
  rw [spl_up (by omega) h]
  unfold spl
  rw [List.take_take, Nat.min_eq_left (by omega), List.drop_take]
/-- The nine cells of Sibs. -/
def sib9 (f : Nat → Int) (s : Value) : List Value := [.int .i64 (f 0), .int .i64 (f 1), .int .i64 (f 2), .int .i64 (f 3), .int .i64 (f 4), .int .i64 (f 5), .int .i64 (f 6), .int .i64 (f 7), s]
theorem flat_set {xs : List H} {n : Nat} {x y : H} (hx : xs[n]? = some x) (h1 : y.node = x.node) (h2 : y.e.key = x.e.key) : (xs.set n y).flatMap hcs = spl (xs.flatMap hcs) (n * 11 + 2) (sib9 y.e.f (.slice y.e.a y.e.l.length y.e.cap)) := by
  induction xs generalizing n with
  | nil => simp at hx
  | cons z xs ih =>
    cases n with
    | zero =>
      simp at hx
      subst hx
      simp only [List.set_cons_zero, List.flatMap_cons]
      simp [spl, hcs, sib9, h1, h2]
    | succ n =>
      have := ih (n := n) (by simpa using hx)
      simp only [List.set_cons_succ, List.flatMap_cons]
      rw [this]
      unfold spl
      rw [show (n + 1) * 11 + 2 = (hcs z).length + (n * 11 + 2) by rw [hcs_len]; omega, List.take_append, List.take_of_length_le (l := hcs z) (by omega), Nat.add_sub_cancel_left, List.drop_append, List.drop_of_length_le (l := hcs z) (by omega), List.nil_append, show ∀ a b c : Nat, a + b + c - a = b + c from fun a b c => by omega]
      simp only [List.append_assoc]
theorem OwnG.setS {w : World} {g cap : Nat} {xs : List H} (own : OwnG 39 11 hcs w (some ⟨g, 0, none⟩) cap xs) {n : Nat} {x y : H} (hx : xs[n]? = some x) (h1 : y.node = x.node) (h2 : y.e.key = x.e.key) :
    OwnG 39 11 hcs (wrs g (n * 11 + 2) (sib9 y.e.f (.slice y.e.a y.e.l.length y.e.cap)) w) (some ⟨g, 0, none⟩) cap (xs.set n y) := by
  obtain ⟨g', cur, eg, hc, hl, hm, hs, ht⟩ := own.cel (by simp)
  simp only [Option.some.injEq, Addr.mk.injEq, and_true] at eg
  subst eg
  obtain ⟨hlt, -⟩ := List.getElem?_eq_some_iff.1 hx
  have hcl : cur.toList.length = cap * 11 := by rw [Array.length_toList]; exact hs
  have h9 : (sib9 y.e.f (.slice y.e.a y.e.l.length y.e.cap)).length = 9 := rfl
  have hC := hc.sets (vs := sib9 y.e.f (.slice y.e.a y.e.l.length y.e.cap)) (o := n * 11 + 2)
  rw [sets_eq _ _ _ (by omega)] at hC
  refine own_of hcs_len hC (by rw [List.length_set]; exact hl) hm ?_ ?_
  · rw [List.size_toArray, spl_len (by omega), hcl]
  · rw [List.length_set, List.toList_toArray, spl_take (by omega) (by omega), ht, flat_set hx h1 h2]
end Go.Proofs.Ytfhacfedklaaiaa

/- Put of a set. -/
namespace Go.Proofs.Ytfhacfedklaaiaa
open Go.RowKit

theorem fnd_yes {xs : List H} (hs : Sor H.nk xs) {k : NK} {n : Nat} (h : isAt xs k n = true) : ∃ x, xs[n]? = some x ∧ x.nk = k ∧ fndG H.nk k xs = some x := by
  unfold isAt at h
  cases e : xs[n]? with
  | none => rw [e] at h; cases h
  | some x =>
    rw [e] at h
    have hk : x.nk = k := smk_iff.1 h
    exact ⟨x, rfl, hk, (fnd_some H.nk hs).2 ⟨List.mem_of_getElem? e, hk⟩⟩
theorem fnd_hi {xs : List H} (hs : Sor H.nk xs) {k : NK} {n : Nat} (hf : Fnd xs k n) (h : isAt xs k n = false) : ∀ i x, n ≤ i → xs[i]? = some x → plt k x.nk = true := by
  intro i x hi hx
  obtain ⟨l2, e2⟩ := List.getElem?_eq_some_iff.1 hx
  have hl : n < xs.length := by omega
  have hy : xs[n]? = some xs[n] := List.getElem?_eq_getElem hl
  have hne : xs[n].nk ≠ k := by
    unfold isAt at h
    rw [hy] at h
    exact smk_no.1 h
  have h1 : plt k xs[n].nk = true := by
    rcases plt_tot hne with e | e
    · rw [hf.hi n _ (Nat.le_refl _) hy] at e
      cases e
    · exact e
  by_cases e : i = n
  · subst e
    rw [hy] at hx
    cases hx
    exact h1
  · have := List.pairwise_iff_getElem.1 hs n i hl l2 (by omega)
    rw [e2] at this
    exact plt_trans h1 this
theorem fnd_no {xs : List H} (hs : Sor H.nk xs) {k : NK} {n : Nat} (hf : Fnd xs k n) (h : isAt xs k n = false) : fndG H.nk k xs = none := by
  rw [fnd_none]
  intro x hx
  obtain ⟨i, hi⟩ := List.getElem?_of_mem hx
  by_cases hl : i < n
  · exact plt_ne (hf.lo i x hl hi)
  · exact (plt_ne (fnd_hi hs hf h i x (by omega) hi)).symm
set_option maxRecDepth 100000 in
set_option maxHeartbeats 4000000 in
theorem hput_any (D : Nat → Prop) (p : Nat) (xs : List H) (h : H) (w : World) (S : HSt D p xs w) (hr : Row w h.e.a h.e.cap h.e.l) (hn : Nrm h.e.f) :
    Calls Try.prog 12 #[.pointer (some ⟨p, 0, none⟩), (.agg #[.int .i64 h.node, .string h.e.key, .int .i64 (h.e.f 0), .int .i64 (h.e.f 1), .int .i64 (h.e.f 2), .int .i64 (h.e.f 3), .int .i64 (h.e.f 4), .int .i64 (h.e.f 5), .int .i64 (h.e.f 6), .int .i64 (h.e.f 7), .slice h.e.a h.e.l.length h.e.cap])] w fun e w' => e = .returned (.tuple #[.bool (hpR (absH xs) h.abs).ch, .int .i64 (hpR (absH xs) h.abs).er]) ∧ ∃ D' xs', HSt D' p xs' w' ∧ absH xs' = (hpR (absH xs) h.abs).x ∧ Off D w w' ∧ ∀ c, D' c → D c ∨ w.heap.size ≤ c := by
  have hq := eql_set
  have hnot := not_any
  have C := Cel.new w 39 #[.int .i64 h.node, .string h.e.key, .int .i64 (h.e.f 0), .int .i64 (h.e.f 1), .int .i64 (h.e.f 2), .int .i64 (h.e.f 3), .int .i64 (h.e.f 4), .int .i64 (h.e.f 5), .int .i64 (h.e.f 6), .int .i64 (h.e.f 7), .slice h.e.a h.e.l.length h.e.cap]
  have O : Off (fun _ => False) w (w.alloc (.cells #[.int .i64 h.node, .string h.e.key, .int .i64 (h.e.f 0), .int .i64 (h.e.f 1), .int .i64 (h.e.f 2), .int .i64 (h.e.f 3), .int .i64 (h.e.f 4), .int .i64 (h.e.f 5), .int .i64 (h.e.f 6), .int .i64 (h.e.f 7), .slice h.e.a h.e.l.length h.e.cap] 39)) := (Off.refl _ w).alloc _
  have HDN : Hid (¬ D w.heap.size) := fun e => by have := S.dlt _ e; omega
  have HST : Hid _ := S
  have HNRM : Hid _ := hn
  go_enter Try.func12, Try.ntmps12
  go_upto_region 1 with fail
  generalize hv : w.alloc (.cells #[.int .i64 h.node, .string h.e.key, .int .i64 (h.e.f 0), .int .i64 (h.e.f 1), .int .i64 (h.e.f 2), .int .i64 (h.e.f 3), .int .i64 (h.e.f 4), .int .i64 (h.e.f 5), .int .i64 (h.e.f 6), .int .i64 (h.e.f 7), .slice h.e.a h.e.l.length h.e.cap] 39) = V at C O ⊢
  obtain ⟨x0, x1, x2, x3, x4, x5, x6, x7, x8, x9, x10⟩ := cel11 C
  have HC : Hid _ := C
  have HO : Hid _ := O
  have HR : Hid _ := hr.off O
  clear hv C O hr hn S
  go_wp2_with fail
  refine (isnode_any h.node V).mono ?_
  cases hk : nodeOk h.node
  · rintro e w' ⟨rfl, hw⟩
    rw [hw]
    clear hw w'
    go_wp2_with fail
    go_ret2
    rw [hpR_arg (by show okH h.abs = false; unfold okH; rw [show h.abs.node = h.node from rfl, hk]; rfl)]
    exact ⟨rfl, D, xs, HST.out.free HO.out, rfl, HO.out.mono (fun _ _ h => h.elim), fun c hc => .inl hc⟩
  rintro e w' ⟨rfl, hw⟩
  rw [hw]
  clear hw w'
  go_wp2_with fail
  refine (smayentry_any h.e.key h.e.f h.e.a h.e.cap h.e.l V HR.out).mono ?_
  cases hm : (keyB h.e.key && mayS h.e.f (cont h.e.l))
  · rintro e w1 ⟨rfl, o1⟩
    go_wp2_with fail
    go_ret2
    have HO1 := HO.out.trans o1 (fun _ _ h => h)
    rw [hpR_arg (by show okH h.abs = false; unfold okH; rw [show h.abs.node = h.node from rfl, hk]; exact hm)]
    exact ⟨rfl, D, xs, HST.out.free HO1, rfl, HO1.mono (fun _ _ h => h.elim), fun c hc => .inl hc⟩
  rintro e w1 ⟨rfl, o1⟩
  have HM : Hid (okH h.abs = true) := by show okH h.abs = true; unfold okH; rw [show h.abs.node = h.node from rfl, hk]; exact hm
  have HHL : Hid (h.e.l.length ≤ 1000) := by
    have := (okH_iff.1 HM.out).2.2.few
    have e2 : h.abs.k.l.length = h.e.l.length := cont_len h.e.l
    show _ ≤ _
    omega
  have C1 := HC.out.off o1 (fun h => h)
  have HO1 : Hid _ := HO.out.trans o1 (fun _ _ h => h)
  have HR1 : Hid _ := HR.out.off o1
  clear x0 x1 x2 x3 x4 x5 x6 x7 x8 x9 x10 hk hm o1
  obtain ⟨x0, x1, x2, x3, x4, x5, x6, x7, x8, x9, x10⟩ := cel11 C1
  have HC1 : Hid _ := C1
  clear C1 HC HR HO
  go_wp2_with fail
  refine (hfind_any D p xs h.node h.e.key w1 (HST.out.free HO1.out)).mono ?_
  rintro e w2 ⟨n, rfl, hfn, o2⟩
  have HO2 : Hid _ := HO1.out.trans o2 (fun _ _ h => h)
  have HC2 : Hid _ := HC1.out.off o2 (fun h => h)
  have HR2 : Hid _ := HR1.out.off o2
  have HFN : Hid _ := hfn
  have hfew := HST.out.few
  clear x0 x1 x2 x3 x4 x5 x6 x7 x8 x9 x10 o2 hfn HC1 HR1
  obtain ⟨a, cap, hcp, how, hgd, hgt⟩ := (HST.out.free HO2.out).is
  have c0 : w2.cell? ⟨p, 0, none⟩ = some (.slice a xs.length cap) := hcp.cell 0
  have HCP : Hid _ := hcp
  have HOW2 : Hid _ := how
  have HGD : Hid _ := hgd
  have HGT : Hid _ := hgt
  clear hcp how hgd hgt
  cases hia : isAt xs (h.node, h.e.key) n
  · have HIA : Hid _ := hia
    have HNF : Hid (fndG HK.nk h.abs.nk (absH xs) = none) := by show fndG HK.nk (h.node, h.e.key) (absH xs) = none; rw [← absH_fnd, fnd_no HST.out.sor HFN.out hia]; rfl
    clear hia
    by_cases hful : 64 ≤ xs.length
    · have d1 : decide ((64 : Int) ≤ (xs.length : Int)) = true := decide_eq_true (by omega)
      have d1' : decide (64 ≤ xs.length) = true := decide_eq_true hful
      go_wp2_with fail
      go_ret2
      rw [hpR_full HM.out HNF.out (by rw [absH_len]; exact hful)]
      exact ⟨rfl, D, xs, HST.out.free HO2.out, rfl, HO2.out.mono (fun _ _ h => h.elim), fun c hc => .inl hc⟩
    · have d1 : decide ((64 : Int) ≤ (xs.length : Int)) = false := decide_eq_false (by omega)
      have d1' : decide (64 ≤ xs.length) = false := decide_eq_false hful
      have HNL : Hid _ := hful
      clear hful
      go_upto_region 7 with fail
      clear c0 d1 d1'
      have HQD : Hid (¬ D w.heap.size) := HDN.out
      refine wp_region_held_drew (S := fun w' => Off D w2 w') (by kernel_rfl) ((Off.refl _ w2).drew) (fun hS => ?_)
      have hP : Off (fun _ => False) w2 w2.drew := (Off.refl _ w2).drew
      refine take_at (i := 0) 43 (v := .pointer (some ⟨p, 0, none⟩)) rfl rfl (by kernel_rfl) (by kernel_rfl) (by kernel_rfl) (fun _ _ _ h => h) (Or.inl ⟨by rfl, fun w' hw' => by go_simp⟩) hS ?_
      simp only [Act.put, List.setIfInBounds_toArray, List.set_cons_zero, List.set_cons_succ]
      refine take_at (i := 1) 44 (v := .pointer (some ⟨p, 0, none⟩)) rfl rfl (by kernel_rfl) (by kernel_rfl) (by kernel_rfl) (fun _ _ _ h => h) (Or.inl ⟨by rfl, fun w' hw' => by go_simp⟩) hS ?_
      simp only [Act.put, List.setIfInBounds_toArray, List.set_cons_zero, List.set_cons_succ]
      refine take_at (i := 2) 45 (v := .pointer (some ⟨p, 0, none⟩)) rfl rfl (by kernel_rfl) (by kernel_rfl) (by kernel_rfl) (fun _ _ _ h => h) (Or.inl ⟨by rfl, fun w' hw' => by go_simp⟩) hS ?_
      simp only [Act.put, List.setIfInBounds_toArray, List.set_cons_zero, List.set_cons_succ]
      refine take_at (i := 3) 46 (v := .pointer (some ⟨p, 0, none⟩)) rfl rfl (by kernel_rfl) (by kernel_rfl) (by kernel_rfl) (fun _ _ _ h => h) (Or.inl ⟨by rfl, fun w' hw' => by go_simp⟩) hS ?_
      simp only [Act.put, List.setIfInBounds_toArray, List.set_cons_zero, List.set_cons_succ]
      refine take_at (i := 5) 48 (v := .int .i64 (n : Int)) rfl rfl (by kernel_rfl) (by kernel_rfl) (by kernel_rfl) (fun _ _ _ h => h) (Or.inl ⟨by rfl, fun w' hw' => by go_simp⟩) hS ?_
      simp only [Act.put, List.setIfInBounds_toArray, List.set_cons_zero, List.set_cons_succ]
      refine take_at (i := 6) 49 (v := (.agg #[.int .i64 h.node, .string h.e.key, .int .i64 (h.e.f 0), .int .i64 (h.e.f 1), .int .i64 (h.e.f 2), .int .i64 (h.e.f 3), .int .i64 (h.e.f 4), .int .i64 (h.e.f 5), .int .i64 (h.e.f 6), .int .i64 (h.e.f 7), .slice h.e.a h.e.l.length h.e.cap])) rfl rfl (by kernel_rfl) (by kernel_rfl) (by kernel_rfl) (fun _ _ _ h => h) (Or.inl ⟨by rfl, fun w' hw' => by obtain ⟨x0, x1, x2, x3, x4, x5, x6, x7, x8, x9, x10⟩ := cel11 (HC2.out.off hw' HQD.out); go_simp⟩) hS ?_
      simp only [Act.put, List.setIfInBounds_toArray, List.set_cons_zero, List.set_cons_succ]
      have c0 : w2.drew.cell? ⟨p, 0, none⟩ = some (.slice a xs.length cap) := HCP.out.drew.cell 0
      refine wpAnyH_ready (rs := [4, 7]) (by kernel_rfl) (by simp) ?_
      refine AllReadyH.cons rfl (fun K' hK' => ?_) (AllReadyH.cons rfl (fun K' hK' => ?_) AllReadyH.nil)
      · go_simp
        refine hK'.out _ _ hS (fun hS => ?_)
        clear hK' K'
        refine wpAnyH_ready (rs := [7]) (by kernel_rfl) (by simp) ?_
        refine AllReadyH.cons rfl (fun K' hK' => ?_) AllReadyH.nil
        go_simp
        refine (chint_any h w2.drew (HR2.out.off hP) HHL.out).mono ?_
        rintro e v7 ⟨y, rfl, hy, ry, ty, o7⟩
        refine hK'.out _ _ (hS.trans o7 (fun _ _ h => h.elim)) (fun hS => ?_)
        clear hK' K'
        have hP7 : Off (fun _ => False) w2 v7 := hP.trans o7 (fun _ _ h => h)
        refine wpAnyH_ready (rs := [8]) (by kernel_rfl) (by simp) ?_
        refine AllReadyH.cons rfl (fun K' hK' => ?_) AllReadyH.nil
        go_simp
        have CB := Cel.new v7 39 #[.int .i64 y.node, .string y.e.key, .int .i64 (y.e.f 0), .int .i64 (y.e.f 1), .int .i64 (y.e.f 2), .int .i64 (y.e.f 3), .int .i64 (y.e.f 4), .int .i64 (y.e.f 5), .int .i64 (y.e.f 6), .int .i64 (y.e.f 7), .slice y.e.a y.e.l.length y.e.cap]
        have OB : Off (fun _ => False) v7 (v7.alloc (.cells #[.int .i64 y.node, .string y.e.key, .int .i64 (y.e.f 0), .int .i64 (y.e.f 1), .int .i64 (y.e.f 2), .int .i64 (y.e.f 3), .int .i64 (y.e.f 4), .int .i64 (y.e.f 5), .int .i64 (y.e.f 6), .int .i64 (y.e.f 7), .slice y.e.a y.e.l.length y.e.cap] 39)) := (Off.refl _ v7).alloc _
        refine hK'.out _ _ (hS.trans OB (fun _ _ h => h.elim)) (fun hS => ?_)
        clear hK' K'
        have HVB : Hid (v7.heap.size = v7.heap.size) := rfl
        generalize hqb : v7.heap.size = vb at CB HVB ⊢
        generalize hvb : v7.alloc (.cells #[.int .i64 y.node, .string y.e.key, .int .i64 (y.e.f 0), .int .i64 (y.e.f 1), .int .i64 (y.e.f 2), .int .i64 (y.e.f 3), .int .i64 (y.e.f 4), .int .i64 (y.e.f 5), .int .i64 (y.e.f 6), .int .i64 (y.e.f 7), .slice y.e.a y.e.l.length y.e.cap] 39) = v8 at CB OB hS ⊢
        have HQB : Hid (v7.heap.size ≤ vb ∧ w2.heap.size ≤ vb) := by have := hP7.size; show _ ∧ _; constructor <;> omega
        clear hqb hvb HVB
        have hP8 : Off (fun _ => False) w2 v8 := hP7.trans OB (fun _ _ h => h)
        have HY : Hid _ := hy
        have HRY : Hid _ := ry.off OB
        have HTY : Hid (Ter (fun c => w2.heap.size ≤ c) y.e.a y.e.l) := ty.mono (fun c hc => by have e : w2.drew.heap.size = w2.heap.size := rfl; omega)
        have HP8 : Hid _ := hP8
        have HCB : Hid _ := CB
        clear hy ry ty OB hP7 CB hP
        refine wpAnyH_ready (rs := [9]) (by kernel_rfl) (by simp) ?_
        refine AllReadyH.cons rfl (fun K' hK' => ?_) AllReadyH.nil
        go_simp
        refine (hins_any a cap xs n y vb v8 (HOW2.out.off HP8.out (fun _ _ _ h => h)) HFN.out.le (by omega) HCB.out (fun e => by have h1 := (HOW2.out.lt vb e); have h2 := HQB.out; omega) _ rfl).mono ?_
        rintro e v9 ⟨a9, c9, n9, rfl, hn9, own9, o9, at9⟩
        have hS9 : Off D w2 v9 := hS.trans o9 (fun i hi e => (HGD.out i e).1)
        refine hK'.out _ _ hS9 (fun hS => ?_)
        clear hK' K'
        have HOWN9 : Hid _ := own9
        have HAT9 : Hid _ := at9
        have HN9 : Hid _ := hn9
        have HO9 : Hid (Off (fun c => blk a = some c) v8 v9) := o9
        clear own9 at9 hn9 o9 hS9
        have hcp : Cel p 63 #[.slice a xs.length cap] v9 := (HCP.out.off HP8.out (fun h => h)).off HO9.out (fun e => (HGD.out p e).2 rfl)
        have c0 := hcp.cell 0
        have fr := hcp.free
        simp only [List.getElem?_toArray, List.getElem?_cons_zero] at c0
        have HCP9 : Hid _ := hcp.set 0 (.slice a9 n9 c9)
        clear hcp
        refine take_at (i := 10) 53 (v := .pointer (some ⟨p, 0, none⟩)) rfl rfl (by kernel_rfl) (by kernel_rfl) (by kernel_rfl) (fun _ _ _ h => h) (Or.inl ⟨by rfl, fun w' hw' => by go_simp⟩) hS ?_
        simp only [Act.put, List.setIfInBounds_toArray, List.set_cons_zero, List.set_cons_succ]
        refine take_at (i := 11) 54 (v := .pointer (some ⟨p, 0, none⟩)) rfl rfl (by kernel_rfl) (by kernel_rfl) (by kernel_rfl) (fun _ _ _ h => h) (Or.inl ⟨by rfl, fun w' hw' => by go_simp⟩) hS ?_
        simp only [Act.put, List.setIfInBounds_toArray, List.set_cons_zero, List.set_cons_succ]
        refine wpAnyH_ready (rs := [12]) (by kernel_rfl) (by simp) ?_
        refine AllReadyH.cons rfl (fun K' hK' => ?_) AllReadyH.nil
        go_simp
        refine hK'.out _ _ (hS.setCell (p := ⟨p, 0, none⟩) (.inl HST.out.dp) _) (fun hS' => ?_)
        clear hK' K'
        have OP : Off (fun c => c = p) v9 (v9.setCell ⟨p, 0, none⟩ (.slice a9 n9 c9)) := (Off.refl (fun c => c = p) v9).setCell (p := ⟨p, 0, none⟩) (.inl rfl) _
        generalize hv10 : v9.setCell ⟨p, 0, none⟩ (.slice a9 n9 c9) = v10 at hS' HCP9 OP ⊢
        clear hv10 c0 fr
        refine wpAnyH_done (by kernel_rfl) ?_ _
        have HOP : Hid _ := OP
        have HSF : Hid _ := hS'
        clear OP hS' hS
        go_wp2_with fail
        go_ret2
        rw [hpR_new HM.out HNF.out (by rw [absH_len]; exact HNL.out)]
        have hYS : xs.take n ++ y :: xs.drop n = putG H.nk y xs := ins_put H.nk HST.out.sor HFN.out.le (fun i x hi hx => by rw [show y.nk = (h.node, h.e.key) from congrArg HK.nk HY.out]; exact HFN.out.lo i x hi hx) (fun i x hi hx => by rw [show y.nk = (h.node, h.e.key) from congrArg HK.nk HY.out]; exact fnd_hi HST.out.sor HFN.out HIA.out i x hi hx)
        have hAB : absH (putG H.nk y xs) = putG HK.nk h.abs (absH xs) := by rw [absH_put, HY.out]
        have OD : Off D w v10 := (HO2.out.mono (fun _ _ h => h.elim)).trans HSF.out (fun _ _ h => h)
        refine ⟨rfl, fun c => (D c ∨ w.heap.size ≤ c) ∧ c < v10.heap.size, _, ?_, hAB, OD, fun c hc => hc.1⟩
        have hw2 : w.heap.size < w2.heap.size := by have h1 := HC2.out.lt; omega
        have hpl : p < w.heap.size := HST.out.lt
        have h8 := HP8.out.size
        have h9 := HO9.out.size
        have h10 := HOP.out.size
        have hqb := HQB.out
        have own10 := HOWN9.out.off HOP.out (fun c _ hc e => by
          subst e
          rcases HAT9.out c hc with k | k
          · exact (HGD.out c k).2 rfl
          · omega)
        have hg8 : ∀ g, blk a9 = some g → blk a = some g ∧ D g ∧ g ≠ p ∧ g < w2.heap.size ∨ v8.heap.size ≤ g := fun g hg => by
          rcases HAT9.out g hg with k | k
          · exact .inl ⟨k, (HGD.out g k).1, (HGD.out g k).2, HOW2.out.lt g k⟩
          · exact .inr k
        have rowY : Row v10 y.e.a y.e.cap y.e.l := (HRY.out.offT HTY.out HO9.out (fun c hc hd e => by have := HOW2.out.lt c e; omega)).offT HTY.out HOP.out (fun c hc hd e => by omega)
        have rowX : ∀ x ∈ xs, Row v10 x.e.a x.e.cap x.e.l := fun x hx => ((((HST.out.row x hx).off HO2.out).off HP8.out).offT (HGT.out x hx) HO9.out (fun c _ hd e => hd e)).offT (HST.out.ter x hx) HOP.out (fun c _ hd e => hd.2 e)
        refine ⟨⟨.inl HST.out.dp, by omega⟩, fun c hc => hc.2, ⟨a9, c9, by rw [← hYS, ← HN9.out]; exact HCP9.out, by rw [← hYS]; exact own10, fun g hg => ?_, fun x hx => ?_⟩, fun x hx => ?_, fun x hx => ?_, ?_⟩
        · have hlt := own10.lt g hg
          rcases hg8 g hg with k | k
          · exact ⟨⟨.inl k.2.1, hlt⟩, k.2.2.1⟩
          · exact ⟨⟨.inr (by omega), hlt⟩, by omega⟩
        · rcases (mem_putG H.nk).1 hx with rfl | ⟨hx, -⟩
          · exact (HTY.out.and HRY.out.below).mono (fun c hc e => by rcases hg8 c e with k | k <;> omega)
          · exact ((HGT.out x hx).and (HST.out.row x hx).below).mono (fun c hc e => by
              rcases hg8 c e with k | k
              · exact hc.1 k.1
              · omega)
        · rcases (mem_putG H.nk).1 hx with rfl | ⟨hx, -⟩
          · exact rowY
          · exact rowX x hx
        · rcases (mem_putG H.nk).1 hx with rfl | ⟨hx, -⟩
          · exact (HTY.out.and rowY.below).mono (fun c hc => ⟨⟨.inr (by omega), hc.2⟩, by omega⟩)
          · exact ((HST.out.ter x hx).and (rowX x hx).below).mono (fun c hc => ⟨⟨.inl hc.1.1, hc.2⟩, hc.1.2⟩)
        · rw [hAB]
          have e := HST.out.ok.hpR (x := h.abs) HNRM.out
          rw [hpR_new HM.out HNF.out (by rw [absH_len]; exact HNL.out)] at e
          exact e
      · go_simp
        refine (chint_any h w2.drew (HR2.out.off hP) HHL.out).mono ?_
        rintro e v7 ⟨y, rfl, hy, ry, ty, o7⟩
        refine hK'.out _ _ (hS.trans o7 (fun _ _ h => h.elim)) (fun hS => ?_)
        clear hK' K'
        have hP7 : Off (fun _ => False) w2 v7 := hP.trans o7 (fun _ _ h => h)
        have c7 : v7.cell? ⟨p, 0, none⟩ = some (.slice a xs.length cap) := (HCP.out.drew.off o7 (fun h => h)).cell 0
        refine wpAnyH_ready (rs := [4, 8]) (by kernel_rfl) (by simp) ?_
        refine AllReadyH.cons rfl (fun K' hK' => ?_) (AllReadyH.cons rfl (fun K' hK' => ?_) AllReadyH.nil)
        · go_simp
          refine hK'.out _ _ hS (fun hS => ?_)
          clear hK' K'
          refine wpAnyH_ready (rs := [8]) (by kernel_rfl) (by simp) ?_
          refine AllReadyH.cons rfl (fun K' hK' => ?_) AllReadyH.nil
          go_simp
          have CB := Cel.new v7 39 #[.int .i64 y.node, .string y.e.key, .int .i64 (y.e.f 0), .int .i64 (y.e.f 1), .int .i64 (y.e.f 2), .int .i64 (y.e.f 3), .int .i64 (y.e.f 4), .int .i64 (y.e.f 5), .int .i64 (y.e.f 6), .int .i64 (y.e.f 7), .slice y.e.a y.e.l.length y.e.cap]
          have OB : Off (fun _ => False) v7 (v7.alloc (.cells #[.int .i64 y.node, .string y.e.key, .int .i64 (y.e.f 0), .int .i64 (y.e.f 1), .int .i64 (y.e.f 2), .int .i64 (y.e.f 3), .int .i64 (y.e.f 4), .int .i64 (y.e.f 5), .int .i64 (y.e.f 6), .int .i64 (y.e.f 7), .slice y.e.a y.e.l.length y.e.cap] 39)) := (Off.refl _ v7).alloc _
          refine hK'.out _ _ (hS.trans OB (fun _ _ h => h.elim)) (fun hS => ?_)
          clear hK' K'
          have HVB : Hid (v7.heap.size = v7.heap.size) := rfl
          generalize hqb : v7.heap.size = vb at CB HVB ⊢
          generalize hvb : v7.alloc (.cells #[.int .i64 y.node, .string y.e.key, .int .i64 (y.e.f 0), .int .i64 (y.e.f 1), .int .i64 (y.e.f 2), .int .i64 (y.e.f 3), .int .i64 (y.e.f 4), .int .i64 (y.e.f 5), .int .i64 (y.e.f 6), .int .i64 (y.e.f 7), .slice y.e.a y.e.l.length y.e.cap] 39) = v8 at CB OB hS ⊢
          have HQB : Hid (v7.heap.size ≤ vb ∧ w2.heap.size ≤ vb) := by have := hP7.size; show _ ∧ _; constructor <;> omega
          clear hqb hvb HVB
          have hP8 : Off (fun _ => False) w2 v8 := hP7.trans OB (fun _ _ h => h)
          have HY : Hid _ := hy
          have HRY : Hid _ := ry.off OB
          have HTY : Hid (Ter (fun c => w2.heap.size ≤ c) y.e.a y.e.l) := ty.mono (fun c hc => by have e : w2.drew.heap.size = w2.heap.size := rfl; omega)
          have HP8 : Hid _ := hP8
          have HCB : Hid _ := CB
          clear hy ry ty OB hP7 CB hP
          refine wpAnyH_ready (rs := [9]) (by kernel_rfl) (by simp) ?_
          refine AllReadyH.cons rfl (fun K' hK' => ?_) AllReadyH.nil
          go_simp
          refine (hins_any a cap xs n y vb v8 (HOW2.out.off HP8.out (fun _ _ _ h => h)) HFN.out.le (by omega) HCB.out (fun e => by have h1 := (HOW2.out.lt vb e); have h2 := HQB.out; omega) _ rfl).mono ?_
          rintro e v9 ⟨a9, c9, n9, rfl, hn9, own9, o9, at9⟩
          have hS9 : Off D w2 v9 := hS.trans o9 (fun i hi e => (HGD.out i e).1)
          refine hK'.out _ _ hS9 (fun hS => ?_)
          clear hK' K'
          have HOWN9 : Hid _ := own9
          have HAT9 : Hid _ := at9
          have HN9 : Hid _ := hn9
          have HO9 : Hid (Off (fun c => blk a = some c) v8 v9) := o9
          clear own9 at9 hn9 o9 hS9
          have hcp : Cel p 63 #[.slice a xs.length cap] v9 := (HCP.out.off HP8.out (fun h => h)).off HO9.out (fun e => (HGD.out p e).2 rfl)
          have c0 := hcp.cell 0
          have fr := hcp.free
          simp only [List.getElem?_toArray, List.getElem?_cons_zero] at c0
          have HCP9 : Hid _ := hcp.set 0 (.slice a9 n9 c9)
          clear hcp
          refine take_at (i := 10) 53 (v := .pointer (some ⟨p, 0, none⟩)) rfl rfl (by kernel_rfl) (by kernel_rfl) (by kernel_rfl) (fun _ _ _ h => h) (Or.inl ⟨by rfl, fun w' hw' => by go_simp⟩) hS ?_
          simp only [Act.put, List.setIfInBounds_toArray, List.set_cons_zero, List.set_cons_succ]
          refine take_at (i := 11) 54 (v := .pointer (some ⟨p, 0, none⟩)) rfl rfl (by kernel_rfl) (by kernel_rfl) (by kernel_rfl) (fun _ _ _ h => h) (Or.inl ⟨by rfl, fun w' hw' => by go_simp⟩) hS ?_
          simp only [Act.put, List.setIfInBounds_toArray, List.set_cons_zero, List.set_cons_succ]
          refine wpAnyH_ready (rs := [12]) (by kernel_rfl) (by simp) ?_
          refine AllReadyH.cons rfl (fun K' hK' => ?_) AllReadyH.nil
          go_simp
          refine hK'.out _ _ (hS.setCell (p := ⟨p, 0, none⟩) (.inl HST.out.dp) _) (fun hS' => ?_)
          clear hK' K'
          have OP : Off (fun c => c = p) v9 (v9.setCell ⟨p, 0, none⟩ (.slice a9 n9 c9)) := (Off.refl (fun c => c = p) v9).setCell (p := ⟨p, 0, none⟩) (.inl rfl) _
          generalize hv10 : v9.setCell ⟨p, 0, none⟩ (.slice a9 n9 c9) = v10 at hS' HCP9 OP ⊢
          clear hv10 c0 fr
          refine wpAnyH_done (by kernel_rfl) ?_ _
          have HOP : Hid _ := OP
          have HSF : Hid _ := hS'
          clear OP hS' hS
          go_wp2_with fail
          go_ret2
          rw [hpR_new HM.out HNF.out (by rw [absH_len]; exact HNL.out)]
          have hYS : xs.take n ++ y :: xs.drop n = putG H.nk y xs := ins_put H.nk HST.out.sor HFN.out.le (fun i x hi hx => by rw [show y.nk = (h.node, h.e.key) from congrArg HK.nk HY.out]; exact HFN.out.lo i x hi hx) (fun i x hi hx => by rw [show y.nk = (h.node, h.e.key) from congrArg HK.nk HY.out]; exact fnd_hi HST.out.sor HFN.out HIA.out i x hi hx)
          have hAB : absH (putG H.nk y xs) = putG HK.nk h.abs (absH xs) := by rw [absH_put, HY.out]
          have OD : Off D w v10 := (HO2.out.mono (fun _ _ h => h.elim)).trans HSF.out (fun _ _ h => h)
          refine ⟨rfl, fun c => (D c ∨ w.heap.size ≤ c) ∧ c < v10.heap.size, _, ?_, hAB, OD, fun c hc => hc.1⟩
          have hw2 : w.heap.size < w2.heap.size := by have h1 := HC2.out.lt; omega
          have hpl : p < w.heap.size := HST.out.lt
          have h8 := HP8.out.size
          have h9 := HO9.out.size
          have h10 := HOP.out.size
          have hqb := HQB.out
          have own10 := HOWN9.out.off HOP.out (fun c _ hc e => by
            subst e
            rcases HAT9.out c hc with k | k
            · exact (HGD.out c k).2 rfl
            · omega)
          have hg8 : ∀ g, blk a9 = some g → blk a = some g ∧ D g ∧ g ≠ p ∧ g < w2.heap.size ∨ v8.heap.size ≤ g := fun g hg => by
            rcases HAT9.out g hg with k | k
            · exact .inl ⟨k, (HGD.out g k).1, (HGD.out g k).2, HOW2.out.lt g k⟩
            · exact .inr k
          have rowY : Row v10 y.e.a y.e.cap y.e.l := (HRY.out.offT HTY.out HO9.out (fun c hc hd e => by have := HOW2.out.lt c e; omega)).offT HTY.out HOP.out (fun c hc hd e => by omega)
          have rowX : ∀ x ∈ xs, Row v10 x.e.a x.e.cap x.e.l := fun x hx => ((((HST.out.row x hx).off HO2.out).off HP8.out).offT (HGT.out x hx) HO9.out (fun c _ hd e => hd e)).offT (HST.out.ter x hx) HOP.out (fun c _ hd e => hd.2 e)
          refine ⟨⟨.inl HST.out.dp, by omega⟩, fun c hc => hc.2, ⟨a9, c9, by rw [← hYS, ← HN9.out]; exact HCP9.out, by rw [← hYS]; exact own10, fun g hg => ?_, fun x hx => ?_⟩, fun x hx => ?_, fun x hx => ?_, ?_⟩
          · have hlt := own10.lt g hg
            rcases hg8 g hg with k | k
            · exact ⟨⟨.inl k.2.1, hlt⟩, k.2.2.1⟩
            · exact ⟨⟨.inr (by omega), hlt⟩, by omega⟩
          · rcases (mem_putG H.nk).1 hx with rfl | ⟨hx, -⟩
            · exact (HTY.out.and HRY.out.below).mono (fun c hc e => by rcases hg8 c e with k | k <;> omega)
            · exact ((HGT.out x hx).and (HST.out.row x hx).below).mono (fun c hc e => by
                rcases hg8 c e with k | k
                · exact hc.1 k.1
                · omega)
          · rcases (mem_putG H.nk).1 hx with rfl | ⟨hx, -⟩
            · exact rowY
            · exact rowX x hx
          · rcases (mem_putG H.nk).1 hx with rfl | ⟨hx, -⟩
            · exact (HTY.out.and rowY.below).mono (fun c hc => ⟨⟨.inr (by omega), hc.2⟩, by omega⟩)
            · exact ((HST.out.ter x hx).and (rowX x hx).below).mono (fun c hc => ⟨⟨.inl hc.1.1, hc.2⟩, hc.1.2⟩)
          · rw [hAB]
            have e := HST.out.ok.hpR (x := h.abs) HNRM.out
            rw [hpR_new HM.out HNF.out (by rw [absH_len]; exact HNL.out)] at e
            exact e
        · go_simp
          have CB := Cel.new v7 39 #[.int .i64 y.node, .string y.e.key, .int .i64 (y.e.f 0), .int .i64 (y.e.f 1), .int .i64 (y.e.f 2), .int .i64 (y.e.f 3), .int .i64 (y.e.f 4), .int .i64 (y.e.f 5), .int .i64 (y.e.f 6), .int .i64 (y.e.f 7), .slice y.e.a y.e.l.length y.e.cap]
          have OB : Off (fun _ => False) v7 (v7.alloc (.cells #[.int .i64 y.node, .string y.e.key, .int .i64 (y.e.f 0), .int .i64 (y.e.f 1), .int .i64 (y.e.f 2), .int .i64 (y.e.f 3), .int .i64 (y.e.f 4), .int .i64 (y.e.f 5), .int .i64 (y.e.f 6), .int .i64 (y.e.f 7), .slice y.e.a y.e.l.length y.e.cap] 39)) := (Off.refl _ v7).alloc _
          refine hK'.out _ _ (hS.trans OB (fun _ _ h => h.elim)) (fun hS => ?_)
          clear hK' K'
          have HVB : Hid (v7.heap.size = v7.heap.size) := rfl
          generalize hqb : v7.heap.size = vb at CB HVB ⊢
          generalize hvb : v7.alloc (.cells #[.int .i64 y.node, .string y.e.key, .int .i64 (y.e.f 0), .int .i64 (y.e.f 1), .int .i64 (y.e.f 2), .int .i64 (y.e.f 3), .int .i64 (y.e.f 4), .int .i64 (y.e.f 5), .int .i64 (y.e.f 6), .int .i64 (y.e.f 7), .slice y.e.a y.e.l.length y.e.cap] 39) = v8 at CB OB hS ⊢
          have HQB : Hid (v7.heap.size ≤ vb ∧ w2.heap.size ≤ vb) := by have := hP7.size; show _ ∧ _; constructor <;> omega
          clear hqb hvb HVB
          have hP8 : Off (fun _ => False) w2 v8 := hP7.trans OB (fun _ _ h => h)
          have HY : Hid _ := hy
          have HRY : Hid _ := ry.off OB
          have HTY : Hid (Ter (fun c => w2.heap.size ≤ c) y.e.a y.e.l) := ty.mono (fun c hc => by have e : w2.drew.heap.size = w2.heap.size := rfl; omega)
          have HP8 : Hid _ := hP8
          have HCB : Hid _ := CB
          clear hy ry ty OB hP7 CB hP
          have c8 : v8.cell? ⟨p, 0, none⟩ = some (.slice a xs.length cap) := (HCP.out.off HP8.out (fun h => h)).cell 0
          refine wpAnyH_ready (rs := [4]) (by kernel_rfl) (by simp) ?_
          refine AllReadyH.cons rfl (fun K' hK' => ?_) AllReadyH.nil
          go_simp
          refine hK'.out _ _ hS (fun hS => ?_)
          clear hK' K'
          refine wpAnyH_ready (rs := [9]) (by kernel_rfl) (by simp) ?_
          refine AllReadyH.cons rfl (fun K' hK' => ?_) AllReadyH.nil
          go_simp
          refine (hins_any a cap xs n y vb v8 (HOW2.out.off HP8.out (fun _ _ _ h => h)) HFN.out.le (by omega) HCB.out (fun e => by have h1 := (HOW2.out.lt vb e); have h2 := HQB.out; omega) _ rfl).mono ?_
          rintro e v9 ⟨a9, c9, n9, rfl, hn9, own9, o9, at9⟩
          have hS9 : Off D w2 v9 := hS.trans o9 (fun i hi e => (HGD.out i e).1)
          refine hK'.out _ _ hS9 (fun hS => ?_)
          clear hK' K'
          have HOWN9 : Hid _ := own9
          have HAT9 : Hid _ := at9
          have HN9 : Hid _ := hn9
          have HO9 : Hid (Off (fun c => blk a = some c) v8 v9) := o9
          clear own9 at9 hn9 o9 hS9
          have hcp : Cel p 63 #[.slice a xs.length cap] v9 := (HCP.out.off HP8.out (fun h => h)).off HO9.out (fun e => (HGD.out p e).2 rfl)
          have c0 := hcp.cell 0
          have fr := hcp.free
          simp only [List.getElem?_toArray, List.getElem?_cons_zero] at c0
          have HCP9 : Hid _ := hcp.set 0 (.slice a9 n9 c9)
          clear hcp
          refine take_at (i := 10) 53 (v := .pointer (some ⟨p, 0, none⟩)) rfl rfl (by kernel_rfl) (by kernel_rfl) (by kernel_rfl) (fun _ _ _ h => h) (Or.inl ⟨by rfl, fun w' hw' => by go_simp⟩) hS ?_
          simp only [Act.put, List.setIfInBounds_toArray, List.set_cons_zero, List.set_cons_succ]
          refine take_at (i := 11) 54 (v := .pointer (some ⟨p, 0, none⟩)) rfl rfl (by kernel_rfl) (by kernel_rfl) (by kernel_rfl) (fun _ _ _ h => h) (Or.inl ⟨by rfl, fun w' hw' => by go_simp⟩) hS ?_
          simp only [Act.put, List.setIfInBounds_toArray, List.set_cons_zero, List.set_cons_succ]
          refine wpAnyH_ready (rs := [12]) (by kernel_rfl) (by simp) ?_
          refine AllReadyH.cons rfl (fun K' hK' => ?_) AllReadyH.nil
          go_simp
          refine hK'.out _ _ (hS.setCell (p := ⟨p, 0, none⟩) (.inl HST.out.dp) _) (fun hS' => ?_)
          clear hK' K'
          have OP : Off (fun c => c = p) v9 (v9.setCell ⟨p, 0, none⟩ (.slice a9 n9 c9)) := (Off.refl (fun c => c = p) v9).setCell (p := ⟨p, 0, none⟩) (.inl rfl) _
          generalize hv10 : v9.setCell ⟨p, 0, none⟩ (.slice a9 n9 c9) = v10 at hS' HCP9 OP ⊢
          clear hv10 c0 fr
          refine wpAnyH_done (by kernel_rfl) ?_ _
          have HOP : Hid _ := OP
          have HSF : Hid _ := hS'
          clear OP hS' hS
          go_wp2_with fail
          go_ret2
          rw [hpR_new HM.out HNF.out (by rw [absH_len]; exact HNL.out)]
          have hYS : xs.take n ++ y :: xs.drop n = putG H.nk y xs := ins_put H.nk HST.out.sor HFN.out.le (fun i x hi hx => by rw [show y.nk = (h.node, h.e.key) from congrArg HK.nk HY.out]; exact HFN.out.lo i x hi hx) (fun i x hi hx => by rw [show y.nk = (h.node, h.e.key) from congrArg HK.nk HY.out]; exact fnd_hi HST.out.sor HFN.out HIA.out i x hi hx)
          have hAB : absH (putG H.nk y xs) = putG HK.nk h.abs (absH xs) := by rw [absH_put, HY.out]
          have OD : Off D w v10 := (HO2.out.mono (fun _ _ h => h.elim)).trans HSF.out (fun _ _ h => h)
          refine ⟨rfl, fun c => (D c ∨ w.heap.size ≤ c) ∧ c < v10.heap.size, _, ?_, hAB, OD, fun c hc => hc.1⟩
          have hw2 : w.heap.size < w2.heap.size := by have h1 := HC2.out.lt; omega
          have hpl : p < w.heap.size := HST.out.lt
          have h8 := HP8.out.size
          have h9 := HO9.out.size
          have h10 := HOP.out.size
          have hqb := HQB.out
          have own10 := HOWN9.out.off HOP.out (fun c _ hc e => by
            subst e
            rcases HAT9.out c hc with k | k
            · exact (HGD.out c k).2 rfl
            · omega)
          have hg8 : ∀ g, blk a9 = some g → blk a = some g ∧ D g ∧ g ≠ p ∧ g < w2.heap.size ∨ v8.heap.size ≤ g := fun g hg => by
            rcases HAT9.out g hg with k | k
            · exact .inl ⟨k, (HGD.out g k).1, (HGD.out g k).2, HOW2.out.lt g k⟩
            · exact .inr k
          have rowY : Row v10 y.e.a y.e.cap y.e.l := (HRY.out.offT HTY.out HO9.out (fun c hc hd e => by have := HOW2.out.lt c e; omega)).offT HTY.out HOP.out (fun c hc hd e => by omega)
          have rowX : ∀ x ∈ xs, Row v10 x.e.a x.e.cap x.e.l := fun x hx => ((((HST.out.row x hx).off HO2.out).off HP8.out).offT (HGT.out x hx) HO9.out (fun c _ hd e => hd e)).offT (HST.out.ter x hx) HOP.out (fun c _ hd e => hd.2 e)
          refine ⟨⟨.inl HST.out.dp, by omega⟩, fun c hc => hc.2, ⟨a9, c9, by rw [← hYS, ← HN9.out]; exact HCP9.out, by rw [← hYS]; exact own10, fun g hg => ?_, fun x hx => ?_⟩, fun x hx => ?_, fun x hx => ?_, ?_⟩
          · have hlt := own10.lt g hg
            rcases hg8 g hg with k | k
            · exact ⟨⟨.inl k.2.1, hlt⟩, k.2.2.1⟩
            · exact ⟨⟨.inr (by omega), hlt⟩, by omega⟩
          · rcases (mem_putG H.nk).1 hx with rfl | ⟨hx, -⟩
            · exact (HTY.out.and HRY.out.below).mono (fun c hc e => by rcases hg8 c e with k | k <;> omega)
            · exact ((HGT.out x hx).and (HST.out.row x hx).below).mono (fun c hc e => by
                rcases hg8 c e with k | k
                · exact hc.1 k.1
                · omega)
          · rcases (mem_putG H.nk).1 hx with rfl | ⟨hx, -⟩
            · exact rowY
            · exact rowX x hx
          · rcases (mem_putG H.nk).1 hx with rfl | ⟨hx, -⟩
            · exact (HTY.out.and rowY.below).mono (fun c hc => ⟨⟨.inr (by omega), hc.2⟩, by omega⟩)
            · exact ((HST.out.ter x hx).and (rowX x hx).below).mono (fun c hc => ⟨⟨.inl hc.1.1, hc.2⟩, hc.1.2⟩)
          · rw [hAB]
            have e := HST.out.ok.hpR (x := h.abs) HNRM.out
            rw [hpR_new HM.out HNF.out (by rw [absH_len]; exact HNL.out)] at e
            exact e
  · obtain ⟨x, hx, hxk, hfx⟩ := fnd_yes HST.out.sor hia
    have HFX : Hid (fndG HK.nk h.abs.nk (absH xs) = some x.abs) := by show fndG HK.nk (h.node, h.e.key) (absH xs) = _; rw [← absH_fnd, hfx]; rfl
    have HX : Hid _ := hx
    have HXK : Hid _ := hxk
    have HRX : Hid _ := (HST.out.row x (List.mem_of_getElem? hx)).off HO2.out
    obtain ⟨hlt, -⟩ := List.getElem?_eq_some_iff.1 hx
    obtain ⟨g, rfl, hat⟩ := HOW2.out.atH hx
    have hix := idx_hin hlt
    have HAT : Hid _ := hat
    clear hx hxk hfx hat hia
    go_upto_region 10 with fail
    clear c0 hix
    refine wp_region_held_drew (S := fun w' => Off (fun _ => False) w2 w') (by kernel_rfl) ((Off.refl _ w2).drew) (fun hS => ?_)
    generalize hdr : w2.drew = v5 at hS ⊢
    have HV5 : Hid (w2.heap.size ≤ v5.heap.size) := hS.size
    clear hdr
    refine take_at (i := 0) 63 (v := .pointer (some ⟨g, n * 11 + 2, none⟩)) rfl rfl (by kernel_rfl) (by kernel_rfl) (by kernel_rfl) (fun _ _ _ h => h) (Or.inl ⟨by rfl, fun w' hw' => by go_simp⟩) hS ?_
    simp only [Act.put, List.setIfInBounds_toArray, List.set_cons_zero, List.set_cons_succ]
    refine take_at (i := 1) 64 (v := .pointer (some ⟨g, n * 11 + 2, none⟩)) rfl rfl (by kernel_rfl) (by kernel_rfl) (by kernel_rfl) (fun _ _ _ h => h) (Or.inl ⟨by rfl, fun w' hw' => by go_simp⟩) hS ?_
    simp only [Act.put, List.setIfInBounds_toArray, List.set_cons_zero, List.set_cons_succ]
    refine take_at (i := 2) 65 (v := .agg #[.int .i64 (x.e.f 0), .int .i64 (x.e.f 1), .int .i64 (x.e.f 2), .int .i64 (x.e.f 3), .int .i64 (x.e.f 4), .int .i64 (x.e.f 5), .int .i64 (x.e.f 6), .int .i64 (x.e.f 7), .slice x.e.a x.e.l.length x.e.cap]) rfl rfl (by kernel_rfl) (by kernel_rfl) (by kernel_rfl) (fun _ _ _ h => h) (Or.inl ⟨by rfl, fun w' hw' => by obtain ⟨x0, x1, x2, x3, x4, x5, x6, x7, x8, x9, x10⟩ := (HAT.out.off hw' (fun _ h => h)).cells; go_simp⟩) hS ?_
    simp only [Act.put, List.setIfInBounds_toArray, List.set_cons_zero, List.set_cons_succ]
    refine take_at (i := 3) 66 (v := .pointer (some ⟨w.heap.size, 1, none⟩)) rfl rfl (by kernel_rfl) (by kernel_rfl) (by kernel_rfl) (fun _ _ _ h => h) (Or.inl ⟨by rfl, fun w' hw' => by go_simp⟩) hS ?_
    simp only [Act.put, List.setIfInBounds_toArray, List.set_cons_zero, List.set_cons_succ]
    refine take_at (i := 4) 67 (v := .pointer (some ⟨w.heap.size, 2, none⟩)) rfl rfl (by kernel_rfl) (by kernel_rfl) (by kernel_rfl) (fun _ _ _ h => h) (Or.inl ⟨by rfl, fun w' hw' => by go_simp⟩) hS ?_
    simp only [Act.put, List.setIfInBounds_toArray, List.set_cons_zero, List.set_cons_succ]
    refine take_at (i := 5) 68 (v := .agg #[.int .i64 (h.e.f 0), .int .i64 (h.e.f 1), .int .i64 (h.e.f 2), .int .i64 (h.e.f 3), .int .i64 (h.e.f 4), .int .i64 (h.e.f 5), .int .i64 (h.e.f 6), .int .i64 (h.e.f 7), .slice h.e.a h.e.l.length h.e.cap]) rfl rfl (by kernel_rfl) (by kernel_rfl) (by kernel_rfl) (fun _ _ _ h => h) (Or.inl ⟨by rfl, fun w' hw' => by obtain ⟨x0, x1, x2, x3, x4, x5, x6, x7, x8, x9, x10⟩ := cel11 (HC2.out.off hw' (fun h => h)); go_simp⟩) hS ?_
    simp only [Act.put, List.setIfInBounds_toArray, List.set_cons_zero, List.set_cons_succ]
    refine wpAnyH_ready (rs := [6, 7]) (by kernel_rfl) (by simp) ?_
    refine AllReadyH.cons rfl (fun K' hK' => ?_) (AllReadyH.cons rfl (fun K' hK' => ?_) AllReadyH.nil)
    · go_simp
      refine (sjoin_any x.e.f h.e.f x.e.a h.e.a x.e.cap h.e.cap x.e.l h.e.l _ (HRX.out.off hS) (HR2.out.off hS)).mono ?_
      rintro e v6 ⟨j, aj, cj, lj, rfl, hj, hlj, mj, o6⟩
      have HJ : Hid _ := hj
      have HLJ : Hid _ := hlj
      clear hj hlj
      refine hK'.out _ _ (hS.trans o6 (fun _ _ h => h)) (fun hS => ?_)
      clear hK' K'
      refine wpAnyH_ready (rs := [7]) (by kernel_rfl) (by simp) ?_
      refine AllReadyH.cons rfl (fun K' hK' => ?_) AllReadyH.nil
      go_simp
      have CA := Cel.new v6 35 #[.int .i64 0, .int .i64 0, .int .i64 0, .int .i64 0, .int .i64 0, .int .i64 0, .int .i64 0, .int .i64 0, .slice none 0 0]
      have OA : Off (fun _ => False) v6 (v6.alloc (.cells #[.int .i64 0, .int .i64 0, .int .i64 0, .int .i64 0, .int .i64 0, .int .i64 0, .int .i64 0, .int .i64 0, .slice none 0 0] 35)) := (Off.refl _ v6).alloc _
      have hw0 := hS.size
      refine hK'.out _ _ (hS.trans OA (fun _ _ h => h)) (fun hS => ?_)
      clear hK' K'
      generalize hqa : v6.heap.size = qa at CA ⊢
      generalize hva : v6.alloc (.cells #[.int .i64 0, .int .i64 0, .int .i64 0, .int .i64 0, .int .i64 0, .int .i64 0, .int .i64 0, .int .i64 0, .slice none 0 0] 35) = v7 at CA OA hS ⊢
      have HQA : Hid (v6.heap.size = qa ∧ w2.heap.size ≤ qa) := ⟨hqa, by omega⟩
      clear hva hqa hw0
      obtain ⟨z0, z1, z2, z3, z4, z5, z6, z7, z8⟩ := cel9 (f := zer) CA
      have fr := CA.free
      refine wpAnyH_ready (rs := [8]) (by kernel_rfl) (by simp) ?_
      refine AllReadyH.cons rfl (fun K' hK' => ?_) AllReadyH.nil
      go_simp
      have hS5 := hS.st9 (b := qa) (.inr HQA.out.2) j (.slice aj lj.length cj)
      refine hK'.out _ _ hS5 (fun hS => ?_)
      clear hK' K' hS5
      clear z0 z1 z2 z3 z4 z5 z6 z7 z8 fr
      have CJ := Cel.st9 (f := zer) CA j (.slice aj lj.length cj)
      have OJ := (Off.refl (fun c => c = qa) v7).st9 (b := qa) (.inl rfl) j (.slice aj lj.length cj)
      generalize hv8 : (((((((((v7.setCell ⟨qa, 0, none⟩ (.int .i64 (j 0))).setCell ⟨qa, 1, none⟩ (.int .i64 (j 1))).setCell ⟨qa, 2, none⟩ (.int .i64 (j 2))).setCell ⟨qa, 3, none⟩ (.int .i64 (j 3))).setCell ⟨qa, 4, none⟩ (.int .i64 (j 4))).setCell ⟨qa, 5, none⟩ (.int .i64 (j 5))).setCell ⟨qa, 6, none⟩ (.int .i64 (j 6))).setCell ⟨qa, 7, none⟩ (.int .i64 (j 7))).setCell ⟨qa, 8, none⟩ (.slice aj lj.length cj)) = v8 at CJ OJ hS ⊢
      clear hv8
      have TJ := mj.ter.mono (E := fun c => w2.heap.size ≤ c) (fun c hc => by have := HV5.out; omega)
      have RJ := (mj.row.off OA).offT (TJ.and mj.row.below) OJ (fun c hc hd e => by have := HQA.out.1; omega)
      clear CA OA OJ
      refine wpAnyH_done (by kernel_rfl) ?_ _
      have HCJ : Hid _ := CJ
      have HP8 : Hid (Off (fun _ => False) w2 v8) := hS
      have HRJ : Hid _ := RJ
      have HTJ : Hid (Ter (fun c => w2.heap.size ≤ c) aj lj) := TJ
      clear CJ hS RJ TJ mj o6
      clear HQA
      go_upto_region 11 with fail
      refine wp_region_held_drew (S := fun w' => Off (fun _ => False) v8 w') (by kernel_rfl) ((Off.refl _ v8).drew) (fun hS => ?_)
      refine take_at (i := 0) 70 (v := .pointer (some ⟨g, n * 11 + 2, none⟩)) rfl rfl (by kernel_rfl) (by kernel_rfl) (by kernel_rfl) (fun _ _ _ h => h) (Or.inl ⟨by rfl, fun w' hw' => by go_simp⟩) hS ?_
      simp only [Act.put, List.setIfInBounds_toArray, List.set_cons_zero, List.set_cons_succ]
      refine take_at (i := 1) 71 (v := .pointer (some ⟨g, n * 11 + 2, none⟩)) rfl rfl (by kernel_rfl) (by kernel_rfl) (by kernel_rfl) (fun _ _ _ h => h) (Or.inl ⟨by rfl, fun w' hw' => by go_simp⟩) hS ?_
      simp only [Act.put, List.setIfInBounds_toArray, List.set_cons_zero, List.set_cons_succ]
      refine take_at (i := 2) 72 (v := .agg #[.int .i64 (x.e.f 0), .int .i64 (x.e.f 1), .int .i64 (x.e.f 2), .int .i64 (x.e.f 3), .int .i64 (x.e.f 4), .int .i64 (x.e.f 5), .int .i64 (x.e.f 6), .int .i64 (x.e.f 7), .slice x.e.a x.e.l.length x.e.cap]) rfl rfl (by kernel_rfl) (by kernel_rfl) (by kernel_rfl) (fun _ _ _ h => h) (Or.inl ⟨by rfl, fun w' hw' => by obtain ⟨x0, x1, x2, x3, x4, x5, x6, x7, x8, x9, x10⟩ := ((HAT.out.off HP8.out (fun _ h => h)).off hw' (fun _ h => h)).cells; go_simp⟩) hS ?_
      simp only [Act.put, List.setIfInBounds_toArray, List.set_cons_zero, List.set_cons_succ]
      refine take_at (i := 3) 73 (v := .agg #[.int .i64 (j 0), .int .i64 (j 1), .int .i64 (j 2), .int .i64 (j 3), .int .i64 (j 4), .int .i64 (j 5), .int .i64 (j 6), .int .i64 (j 7), .slice aj lj.length cj]) rfl rfl (by kernel_rfl) (by kernel_rfl) (by kernel_rfl) (fun _ _ _ h => h) (Or.inl ⟨by rfl, fun w' hw' => by obtain ⟨x0, x1, x2, x3, x4, x5, x6, x7, x8⟩ := cel9 (HCJ.out.off hw' (fun h => h)); go_simp⟩) hS ?_
      simp only [Act.put, List.setIfInBounds_toArray, List.set_cons_zero, List.set_cons_succ]
      refine wpAnyH_ready (rs := [4]) (by kernel_rfl) (by simp) ?_
      refine AllReadyH.cons rfl (fun K' hK' => ?_) AllReadyH.nil
      go_simp
      refine (ssame_any x.e.f j x.e.a aj x.e.cap cj x.e.l lj _ ((HRX.out.off HP8.out).off hS) (HRJ.out.off hS)).mono ?_
      generalize hsm : sameS x.e.f j (cont x.e.l) (cont lj) = sm
      rintro e v9 ⟨rfl, o9⟩
      refine hK'.out _ _ (hS.trans o9 (fun _ _ h => h)) (fun hS => ?_)
      clear hK' K'
      refine take_at (i := 5) 75 (v := .bool (!sm)) rfl rfl (by kernel_rfl) (by kernel_rfl) (by kernel_rfl) (fun _ _ _ h => h) (Or.inl ⟨by rfl, fun w' hw' => by go_simp⟩) hS ?_
      simp only [Act.put, List.setIfInBounds_toArray, List.set_cons_zero, List.set_cons_succ]
      refine take_at (i := 6) 10 (v := .bool (!sm)) rfl rfl (by kernel_rfl) (by kernel_rfl) (by kernel_rfl) (fun _ _ _ h => h) (Or.inl ⟨by rfl, fun w' hw' => by go_simp⟩) hS ?_
      simp only [Act.put, List.setIfInBounds_toArray, List.set_cons_zero, List.set_cons_succ]
      refine wpAnyH_done (by kernel_rfl) ?_ _
      have HP9 : Hid (Off (fun _ => False) w2 v9) := HP8.out.trans hS (fun _ _ h => h)
      have HCJ9 : Hid _ := HCJ.out.off hS (fun h => h)
      have HRJ9 : Hid _ := HRJ.out.off hS
      have HSM : Hid _ := hsm
      clear hS o9 hsm HCJ HRJ
      have AT9 := (HAT.out.off HP9.out (fun _ h => h)).cells
      obtain ⟨y0, y1, y2, y3, y4, y5, y6, y7, y8, y9, y10⟩ := AT9
      obtain ⟨x0, x1, x2, x3, x4, x5, x6, x7, x8⟩ := cel9 HCJ9.out
      have HOW9 : Hid _ := HOW2.out.off HP9.out (fun _ _ _ h => h)
      have frg : ∀ o, v9.frozen? ⟨g, o, none⟩ = false := by
        obtain ⟨g', cur, eg, hc, -⟩ := HOW9.out.cel (by simp)
        simp only [Option.some.injEq, Addr.mk.injEq, and_true] at eg
        subst eg
        exact hc.free
      go_wp2_with fail
      go_ret2
      rw [hpR_old HM.out HFX.out]
      obtain ⟨y, hy⟩ : ∃ y : H, y = ⟨h.node, ⟨h.e.key, j, aj, cj, lj⟩⟩ := ⟨_, rfl⟩
      have hya : y.abs = jnH x.abs h.abs := by rw [hy]; show (⟨h.node, ⟨h.e.key, j, cont lj⟩⟩ : HK) = _; rw [HLJ.out, HJ.out]; rfl
      have hn1 : x.node = h.node := congrArg Prod.fst HXK.out
      have hn2 : x.e.key = h.e.key := congrArg Prod.snd HXK.out
      have hw2 : w.heap.size < w2.heap.size := by have h1 := HC2.out.lt; omega
      have hgl : g < w2.heap.size := HOW2.out.lt g rfl
      have hgd := HGD.out g rfl
      have hpl : p < w.heap.size := HST.out.lt
      have own10 := HOW9.out.setS (y := y) HX.out (by rw [hy]; exact hn1.symm) (by rw [hy]; exact hn2.symm)
      have OG : Off (fun c => c = g) v9 (wrs g (n * 11 + 2) (sib9 y.e.f (.slice y.e.a y.e.l.length y.e.cap)) v9) := off_wrs (Off.refl _ v9) (.inl rfl)
      have hpx : xs.set n y = putG H.nk y xs := set_put H.nk HST.out.sor HX.out (by rw [hy]; exact HXK.out.symm)
      have hab : absH (xs.set n y) = putG HK.nk (jnH x.abs h.abs) (absH xs) := by rw [hpx, absH_put, hya]
      have hww : wrs g (n * 11 + 2) (sib9 y.e.f (.slice y.e.a y.e.l.length y.e.cap)) v9 = wrs g (n * 11 + 2) (sib9 j (.slice aj lj.length cj)) v9 := by rw [hy]
      rw [hww] at own10 OG
      have OD : Off D w (wrs g (n * 11 + 2) (sib9 j (.slice aj lj.length cj)) v9) := ((HO2.out.trans HP9.out (fun _ _ h => h)).mono (fun _ _ h => h.elim)).trans OG (fun i hi e => by rw [e]; exact hgd.1)
      have rowY : Row (wrs g (n * 11 + 2) (sib9 j (.slice aj lj.length cj)) v9) aj cj lj := HRJ9.out.offT HTJ.out OG (fun c hc hd e => by omega)
      have rowX : ∀ z ∈ xs, Row (wrs g (n * 11 + 2) (sib9 j (.slice aj lj.length cj)) v9) z.e.a z.e.cap z.e.l := fun z hz => (((HST.out.row z hz).off HO2.out).off HP9.out).offT (HGT.out z hz) OG (fun c _ hd e => hd (by rw [e]; rfl))
      have memY : ∀ z ∈ xs.set n y, z = y ∨ z ∈ xs := fun z hz => by rw [hpx] at hz; rcases (mem_putG H.nk).1 hz with e | e; exact .inl e; exact .inr e.1
      have h9 := HP9.out.size
      have h10 := OG.size
      refine ⟨?_, fun c => (D c ∨ w.heap.size ≤ c) ∧ c < (wrs g (n * 11 + 2) (sib9 j (.slice aj lj.length cj)) v9).heap.size, xs.set n y, ⟨⟨.inl HST.out.dp, by omega⟩, fun c hc => hc.2, ⟨_, cap, ?_, own10, fun c hc => ?_, fun z hz => ?_⟩, fun z hz => ?_, fun z hz => ?_, ?_⟩, hab, OD, fun c hc => hc.1⟩
      · show _ = Ending.returned (Value.tuple #[Value.bool (!sameS x.abs.k.f (jnH x.abs h.abs).k.f x.abs.k.l (jnH x.abs h.abs).k.l), _])
        rw [← hya, hy]
        show _ = Ending.returned (Value.tuple #[Value.bool (!sameS x.e.f j (cont x.e.l) (cont lj)), _])
        rw [HSM.out]
        rfl
      · rw [List.length_set]
        exact (HCP.out.off HP9.out (fun h => h)).off OG (fun e => hgd.2 e.symm)
      · simp [blk] at hc
        subst hc
        exact ⟨⟨.inl hgd.1, by omega⟩, hgd.2⟩
      · rcases memY z hz with e | hz
        · rw [e, hy]
          exact HTJ.out.mono (fun c hc e => by simp [blk] at e; omega)
        · exact HGT.out z hz
      · rcases memY z hz with e | hz
        · rw [e, hy]
          exact rowY
        · exact rowX z hz
      · rcases memY z hz with e | hz
        · rw [e, hy]
          exact (HTJ.out.and rowY.below).mono (fun c hc => ⟨⟨.inr (by omega), hc.2⟩, by omega⟩)
        · exact ((HST.out.ter z hz).and (rowX z hz).below).mono (fun c hc => ⟨⟨.inl hc.1.1, hc.2⟩, hc.1.2⟩)
      · rw [hab]
        have e := HST.out.ok.hpR (x := h.abs) HNRM.out
        rw [hpR_old HM.out HFX.out] at e
        exact e
    · go_simp
      have CA := Cel.new v5 35 #[.int .i64 0, .int .i64 0, .int .i64 0, .int .i64 0, .int .i64 0, .int .i64 0, .int .i64 0, .int .i64 0, .slice none 0 0]
      have OA : Off (fun _ => False) v5 (v5.alloc (.cells #[.int .i64 0, .int .i64 0, .int .i64 0, .int .i64 0, .int .i64 0, .int .i64 0, .int .i64 0, .int .i64 0, .slice none 0 0] 35)) := (Off.refl _ v5).alloc _
      have hw0 := hS.size
      refine hK'.out _ _ (hS.trans OA (fun _ _ h => h)) (fun hS => ?_)
      clear hK' K'
      generalize hqa : v5.heap.size = qa at CA ⊢
      generalize hva : v5.alloc (.cells #[.int .i64 0, .int .i64 0, .int .i64 0, .int .i64 0, .int .i64 0, .int .i64 0, .int .i64 0, .int .i64 0, .slice none 0 0] 35) = v6 at CA OA hS ⊢
      have HQA : Hid (v5.heap.size = qa ∧ w2.heap.size ≤ qa) := ⟨hqa, by omega⟩
      clear hva hqa hw0
      refine wpAnyH_ready (rs := [6]) (by kernel_rfl) (by simp) ?_
      refine AllReadyH.cons rfl (fun K' hK' => ?_) AllReadyH.nil
      go_simp
      refine (sjoin_any x.e.f h.e.f x.e.a h.e.a x.e.cap h.e.cap x.e.l h.e.l _ (HRX.out.off hS) (HR2.out.off hS)).mono ?_
      rintro e v7 ⟨j, aj, cj, lj, rfl, hj, hlj, mj, o6⟩
      have HJ : Hid _ := hj
      have HLJ : Hid _ := hlj
      clear hj hlj
      refine hK'.out _ _ (hS.trans o6 (fun _ _ h => h)) (fun hS => ?_)
      clear hK' K'
      have HQ6 : Hid (qa < v6.heap.size) := CA.lt
      replace CA := CA.off (D := fun _ => False) o6 (fun h => h)
      obtain ⟨z0, z1, z2, z3, z4, z5, z6, z7, z8⟩ := cel9 (f := zer) CA
      have fr := CA.free
      refine wpAnyH_ready (rs := [8]) (by kernel_rfl) (by simp) ?_
      refine AllReadyH.cons rfl (fun K' hK' => ?_) AllReadyH.nil
      go_simp
      have hS5 := hS.st9 (b := qa) (.inr HQA.out.2) j (.slice aj lj.length cj)
      refine hK'.out _ _ hS5 (fun hS => ?_)
      clear hK' K' hS5
      clear z0 z1 z2 z3 z4 z5 z6 z7 z8 fr
      have CJ := Cel.st9 (f := zer) CA j (.slice aj lj.length cj)
      have OJ := (Off.refl (fun c => c = qa) v7).st9 (b := qa) (.inl rfl) j (.slice aj lj.length cj)
      generalize hv8 : (((((((((v7.setCell ⟨qa, 0, none⟩ (.int .i64 (j 0))).setCell ⟨qa, 1, none⟩ (.int .i64 (j 1))).setCell ⟨qa, 2, none⟩ (.int .i64 (j 2))).setCell ⟨qa, 3, none⟩ (.int .i64 (j 3))).setCell ⟨qa, 4, none⟩ (.int .i64 (j 4))).setCell ⟨qa, 5, none⟩ (.int .i64 (j 5))).setCell ⟨qa, 6, none⟩ (.int .i64 (j 6))).setCell ⟨qa, 7, none⟩ (.int .i64 (j 7))).setCell ⟨qa, 8, none⟩ (.slice aj lj.length cj)) = v8 at CJ OJ hS ⊢
      clear hv8
      have hq6 := HQ6.out
      have TJ := mj.ter.mono (E := fun c => w2.heap.size ≤ c) (fun c hc => by have := HQA.out; omega)
      have RJ := mj.row.offT mj.ter OJ (fun c hc hd e => by omega)
      clear CA OA OJ
      refine wpAnyH_done (by kernel_rfl) ?_ _
      have HCJ : Hid _ := CJ
      have HP8 : Hid (Off (fun _ => False) w2 v8) := hS
      have HRJ : Hid _ := RJ
      have HTJ : Hid (Ter (fun c => w2.heap.size ≤ c) aj lj) := TJ
      clear CJ hS RJ TJ mj o6
      clear HQA
      go_upto_region 11 with fail
      refine wp_region_held_drew (S := fun w' => Off (fun _ => False) v8 w') (by kernel_rfl) ((Off.refl _ v8).drew) (fun hS => ?_)
      refine take_at (i := 0) 70 (v := .pointer (some ⟨g, n * 11 + 2, none⟩)) rfl rfl (by kernel_rfl) (by kernel_rfl) (by kernel_rfl) (fun _ _ _ h => h) (Or.inl ⟨by rfl, fun w' hw' => by go_simp⟩) hS ?_
      simp only [Act.put, List.setIfInBounds_toArray, List.set_cons_zero, List.set_cons_succ]
      refine take_at (i := 1) 71 (v := .pointer (some ⟨g, n * 11 + 2, none⟩)) rfl rfl (by kernel_rfl) (by kernel_rfl) (by kernel_rfl) (fun _ _ _ h => h) (Or.inl ⟨by rfl, fun w' hw' => by go_simp⟩) hS ?_
      simp only [Act.put, List.setIfInBounds_toArray, List.set_cons_zero, List.set_cons_succ]
      refine take_at (i := 2) 72 (v := .agg #[.int .i64 (x.e.f 0), .int .i64 (x.e.f 1), .int .i64 (x.e.f 2), .int .i64 (x.e.f 3), .int .i64 (x.e.f 4), .int .i64 (x.e.f 5), .int .i64 (x.e.f 6), .int .i64 (x.e.f 7), .slice x.e.a x.e.l.length x.e.cap]) rfl rfl (by kernel_rfl) (by kernel_rfl) (by kernel_rfl) (fun _ _ _ h => h) (Or.inl ⟨by rfl, fun w' hw' => by obtain ⟨x0, x1, x2, x3, x4, x5, x6, x7, x8, x9, x10⟩ := ((HAT.out.off HP8.out (fun _ h => h)).off hw' (fun _ h => h)).cells; go_simp⟩) hS ?_
      simp only [Act.put, List.setIfInBounds_toArray, List.set_cons_zero, List.set_cons_succ]
      refine take_at (i := 3) 73 (v := .agg #[.int .i64 (j 0), .int .i64 (j 1), .int .i64 (j 2), .int .i64 (j 3), .int .i64 (j 4), .int .i64 (j 5), .int .i64 (j 6), .int .i64 (j 7), .slice aj lj.length cj]) rfl rfl (by kernel_rfl) (by kernel_rfl) (by kernel_rfl) (fun _ _ _ h => h) (Or.inl ⟨by rfl, fun w' hw' => by obtain ⟨x0, x1, x2, x3, x4, x5, x6, x7, x8⟩ := cel9 (HCJ.out.off hw' (fun h => h)); go_simp⟩) hS ?_
      simp only [Act.put, List.setIfInBounds_toArray, List.set_cons_zero, List.set_cons_succ]
      refine wpAnyH_ready (rs := [4]) (by kernel_rfl) (by simp) ?_
      refine AllReadyH.cons rfl (fun K' hK' => ?_) AllReadyH.nil
      go_simp
      refine (ssame_any x.e.f j x.e.a aj x.e.cap cj x.e.l lj _ ((HRX.out.off HP8.out).off hS) (HRJ.out.off hS)).mono ?_
      generalize hsm : sameS x.e.f j (cont x.e.l) (cont lj) = sm
      rintro e v9 ⟨rfl, o9⟩
      refine hK'.out _ _ (hS.trans o9 (fun _ _ h => h)) (fun hS => ?_)
      clear hK' K'
      refine take_at (i := 5) 75 (v := .bool (!sm)) rfl rfl (by kernel_rfl) (by kernel_rfl) (by kernel_rfl) (fun _ _ _ h => h) (Or.inl ⟨by rfl, fun w' hw' => by go_simp⟩) hS ?_
      simp only [Act.put, List.setIfInBounds_toArray, List.set_cons_zero, List.set_cons_succ]
      refine take_at (i := 6) 10 (v := .bool (!sm)) rfl rfl (by kernel_rfl) (by kernel_rfl) (by kernel_rfl) (fun _ _ _ h => h) (Or.inl ⟨by rfl, fun w' hw' => by go_simp⟩) hS ?_
      simp only [Act.put, List.setIfInBounds_toArray, List.set_cons_zero, List.set_cons_succ]
      refine wpAnyH_done (by kernel_rfl) ?_ _
      have HP9 : Hid (Off (fun _ => False) w2 v9) := HP8.out.trans hS (fun _ _ h => h)
      have HCJ9 : Hid _ := HCJ.out.off hS (fun h => h)
      have HRJ9 : Hid _ := HRJ.out.off hS
      have HSM : Hid _ := hsm
      clear hS o9 hsm HCJ HRJ
      have AT9 := (HAT.out.off HP9.out (fun _ h => h)).cells
      obtain ⟨y0, y1, y2, y3, y4, y5, y6, y7, y8, y9, y10⟩ := AT9
      obtain ⟨x0, x1, x2, x3, x4, x5, x6, x7, x8⟩ := cel9 HCJ9.out
      have HOW9 : Hid _ := HOW2.out.off HP9.out (fun _ _ _ h => h)
      have frg : ∀ o, v9.frozen? ⟨g, o, none⟩ = false := by
        obtain ⟨g', cur, eg, hc, -⟩ := HOW9.out.cel (by simp)
        simp only [Option.some.injEq, Addr.mk.injEq, and_true] at eg
        subst eg
        exact hc.free
      go_wp2_with fail
      go_ret2
      rw [hpR_old HM.out HFX.out]
      obtain ⟨y, hy⟩ : ∃ y : H, y = ⟨h.node, ⟨h.e.key, j, aj, cj, lj⟩⟩ := ⟨_, rfl⟩
      have hya : y.abs = jnH x.abs h.abs := by rw [hy]; show (⟨h.node, ⟨h.e.key, j, cont lj⟩⟩ : HK) = _; rw [HLJ.out, HJ.out]; rfl
      have hn1 : x.node = h.node := congrArg Prod.fst HXK.out
      have hn2 : x.e.key = h.e.key := congrArg Prod.snd HXK.out
      have hw2 : w.heap.size < w2.heap.size := by have h1 := HC2.out.lt; omega
      have hgl : g < w2.heap.size := HOW2.out.lt g rfl
      have hgd := HGD.out g rfl
      have hpl : p < w.heap.size := HST.out.lt
      have own10 := HOW9.out.setS (y := y) HX.out (by rw [hy]; exact hn1.symm) (by rw [hy]; exact hn2.symm)
      have OG : Off (fun c => c = g) v9 (wrs g (n * 11 + 2) (sib9 y.e.f (.slice y.e.a y.e.l.length y.e.cap)) v9) := off_wrs (Off.refl _ v9) (.inl rfl)
      have hpx : xs.set n y = putG H.nk y xs := set_put H.nk HST.out.sor HX.out (by rw [hy]; exact HXK.out.symm)
      have hab : absH (xs.set n y) = putG HK.nk (jnH x.abs h.abs) (absH xs) := by rw [hpx, absH_put, hya]
      have hww : wrs g (n * 11 + 2) (sib9 y.e.f (.slice y.e.a y.e.l.length y.e.cap)) v9 = wrs g (n * 11 + 2) (sib9 j (.slice aj lj.length cj)) v9 := by rw [hy]
      rw [hww] at own10 OG
      have OD : Off D w (wrs g (n * 11 + 2) (sib9 j (.slice aj lj.length cj)) v9) := ((HO2.out.trans HP9.out (fun _ _ h => h)).mono (fun _ _ h => h.elim)).trans OG (fun i hi e => by rw [e]; exact hgd.1)
      have rowY : Row (wrs g (n * 11 + 2) (sib9 j (.slice aj lj.length cj)) v9) aj cj lj := HRJ9.out.offT HTJ.out OG (fun c hc hd e => by omega)
      have rowX : ∀ z ∈ xs, Row (wrs g (n * 11 + 2) (sib9 j (.slice aj lj.length cj)) v9) z.e.a z.e.cap z.e.l := fun z hz => (((HST.out.row z hz).off HO2.out).off HP9.out).offT (HGT.out z hz) OG (fun c _ hd e => hd (by rw [e]; rfl))
      have memY : ∀ z ∈ xs.set n y, z = y ∨ z ∈ xs := fun z hz => by rw [hpx] at hz; rcases (mem_putG H.nk).1 hz with e | e; exact .inl e; exact .inr e.1
      have h9 := HP9.out.size
      have h10 := OG.size
      refine ⟨?_, fun c => (D c ∨ w.heap.size ≤ c) ∧ c < (wrs g (n * 11 + 2) (sib9 j (.slice aj lj.length cj)) v9).heap.size, xs.set n y, ⟨⟨.inl HST.out.dp, by omega⟩, fun c hc => hc.2, ⟨_, cap, ?_, own10, fun c hc => ?_, fun z hz => ?_⟩, fun z hz => ?_, fun z hz => ?_, ?_⟩, hab, OD, fun c hc => hc.1⟩
      · show _ = Ending.returned (Value.tuple #[Value.bool (!sameS x.abs.k.f (jnH x.abs h.abs).k.f x.abs.k.l (jnH x.abs h.abs).k.l), _])
        rw [← hya, hy]
        show _ = Ending.returned (Value.tuple #[Value.bool (!sameS x.e.f j (cont x.e.l) (cont lj)), _])
        rw [HSM.out]
        rfl
      · rw [List.length_set]
        exact (HCP.out.off HP9.out (fun h => h)).off OG (fun e => hgd.2 e.symm)
      · simp [blk] at hc
        subst hc
        exact ⟨⟨.inl hgd.1, by omega⟩, hgd.2⟩
      · rcases memY z hz with e | hz
        · rw [e, hy]
          exact HTJ.out.mono (fun c hc e => by simp [blk] at e; omega)
        · exact HGT.out z hz
      · rcases memY z hz with e | hz
        · rw [e, hy]
          exact rowY
        · exact rowX z hz
      · rcases memY z hz with e | hz
        · rw [e, hy]
          exact (HTJ.out.and rowY.below).mono (fun c hc => ⟨⟨.inr (by omega), hc.2⟩, by omega⟩)
        · exact ((HST.out.ter z hz).and (rowX z hz).below).mono (fun c hc => ⟨⟨.inl hc.1.1, hc.2⟩, hc.1.2⟩)
      · rw [hab]
        have e := HST.out.ok.hpR (x := h.abs) HNRM.out
        rw [hpR_old HM.out HFX.out] at e
        exact e
end Go.Proofs.Ytfhacfedklaaiaa
