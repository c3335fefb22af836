/- Items of several texts. -/
import Derived.Maps.Views
import Derived.Test.YtmjmgdbhmbjmaaaCWb22
namespace Go.Proofs.Ytmjmgdbhmbjmaaa
set_option maxRecDepth 100000
open Go.RowKit Go.Maps
theorem lawN : Maps.Keyed Try.prog 3 := Maps.int_keyed Try.underlying3
theorem keyN {n : Nat} (h : n < 8) : keyOf Try.prog 3 (.int .i64 (n : Int)) = some (klO (n : Int)) := by
 have hw : (Lit.int .i64 (n : Int)).wf = true := WalkArith.wf_i64 ⟨by omega, by omega⟩
 simp [keyOf, Try.underlying3, mapKey, klO, hw]
theorem zeroN (w : World) : (zeroValue 3).run Try.prog w = .ok (.int .i64 0) w := by kernel_rfl
theorem kl_lit (n : Int) : WideAt.IsKeyLit (klO n) := trivial
theorem kl_ne {a b : Nat} (h : a ≠ b) : klO (a : Int) ≠ klO (b : Int) := fun e => by
 unfold klO at e
 simp only [Lit.int.injEq] at e
 omega
structure SeenM (b : Nat) (f : Nat → Bool) (G : DataW Value) (w : World) : Prop where
 own : w.ownsMap Try.prog 3 hRO b (Maps.size G) G
 tidy : Tidy G
 sz : Maps.size G = cnt f 8
 at_ : ∀ n : Nat, n < 8 → G.atKey (klO (n : Int)) (.held (.int .i64 0)) = .held (.int .i64 (if f n = true then 1 else 0))
 has : ∀ n : Nat, n < 8 → Maps.has G (klO (n : Int)) = f n
theorem SeenM.off {b : Nat} {f : Nat → Bool} {G : DataW Value} {w w' : World} {X : Nat → Prop} (h : SeenM b f G w) (o : Off X w w') (hb : ¬ X b) : SeenM b f G w' := ⟨mo_off h.own o hb, h.tidy, h.sz, h.at_, h.has⟩
theorem SeenM.look {b : Nat} {f : Nat → Bool} {G : DataW Value} {w : World} (h : SeenM b f G w) {n : Nat} (hn : n < 8) : (Instr.lookup 74 (.map (some b)) (.int .i64 (n : Int)) false).run Try.prog w = .ok (.int .i64 (if f n = true then 1 else 0)) w := by
 obtain ⟨v, ps, hrun, hv⟩ := h.own.lookup lawN Try.underlying74 (zeroN w) (zd := .held (.int .i64 0)) (zp := []) rfl (keyN hn)
 rw [h.at_ n hn] at hv
 unfold hRO at hv
 simp only [Option.some.injEq, Prod.mk.injEq, DataW.held.injEq] at hv
 rw [hrun, hv.1]
theorem SeenM.put {b : Nat} {f : Nat → Bool} {G : DataW Value} {w : World} (h : SeenM b f G w) {n : Nat} (hn : n < 8) : ∃ w', (Instr.mapUpdate 74 (.map (some b)) (.int .i64 (n : Int)) (.int .i64 1)).run Try.prog w = .ok () w' ∧ SeenM b (ans f n) (G.put (klO (n : Int)) (.held (.int .i64 1))) w' ∧ w.grownBy w' (some b) := by
 obtain ⟨w', hrun, own', gr⟩ := h.own.update lawN Try.underlying74 (by rw [h.sz]; have := cnt_le f 8; unfold maxLen; omega) (val := .int .i64 1) (d := .held (.int .i64 1)) (ps := []) (keyN hn) rfl
 refine ⟨w', hrun, ⟨mo_tight own', h.tidy.put (kl_lit _) _, ?_, fun j hj => ?_, fun j hj => ?_⟩, gr⟩
 ·rw [size_put h.tidy, h.has n hn, h.sz]
  cases hf : f n
  ·rw [cnt_ans hf hn]; rfl
  ·rw [ans_old hf]; rfl
 ·by_cases e : j = n
  ·subst e
   rw [atKey_put_same h.tidy.isMap (kl_lit _), ans_same, if_pos rfl]
  ·rw [atKey_put_other (kl_ne e), h.at_ j hj, ans_ne f e]
 ·by_cases e : j = n
  ·subst e
   rw [has_put_same h.tidy.isMap (kl_lit _), ans_same]
  ·rw [has_put_other (kl_ne e), h.has j hj, ans_ne f e]
theorem SeenM.len {b : Nat} {f : Nat → Bool} {G : DataW Value} {w : World} (h : SeenM b f G w) (ty : TypeId) : (Builtin.len_ #[74] ty #[.map (some b)]).run Try.prog w = .ok (.int .i64 (cnt f 8 : Int)) w := by
 have hl := h.own.len Try.underlying74 ty
 rw [h.sz] at hl
 exact hl
theorem SeenM.new (w : World) : SeenM w.heap.size (fun _ => false) (.map []) (w.alloc (.map #[] 0)) :=
 ⟨World.ownsMap_made w Try.prog 3 hRO, tidy_empty, rfl, fun _ _ => rfl, fun _ _ => rfl⟩
def ltO (id : Int) (read : Bool) (m : Nat) (f : Nat → Bool) : OA := ⟨id, read, kk, SA.zero, fun _ => SA.zero, (m : Int), f, 0⟩
def ltA (m : Nat) (f : Nat → Bool) : CA := if cnt f 8 < m then ⟨9, 2, [ltO 1 false m f, ltO 2 true m f], []⟩ else ⟨9, 2, [], [⟨2, 0, SA.zero⟩, ⟨1, 0, SA.zero⟩]⟩
def ltB (m : Nat) (f : Nat → Bool) (n : Nat) : CA := if cnt f 8 < m then (if cnt (ans f n) 8 < m then ⟨9, 2, [ltO 1 false m f, ltO 2 true m (ans f n)], []⟩ else ⟨9, 2, [ltO 1 false m f], [⟨2, 0, SA.zero⟩]⟩) else ⟨9, 2, [], [⟨2, 0, SA.zero⟩, ⟨1, 0, SA.zero⟩]⟩
def want (m : Nat) (f : Nat → Bool) (n : Nat) : Bool := !f n && decide (cnt f 8 + 1 = m)
theorem addB_nat (m : Nat) (f : Nat → Bool) {n : Nat} (h : n < 8) : addB (m : Int) f (n : Int) = want m f n := by
 unfold addB want
 rw [okN_of h]
 show (true && (!f n && _)) = _
 rw [Bool.true_and]
 congr 1
 exact decide_eq_decide.2 (by omega)
theorem hear_lt (m : Nat) (f : Nat → Bool) {n : Nat} (h : n < 8) : hearA (ltO 2 true m f) (n : Int) SA.zero = ltO 2 true m (ans f n) := by
 unfold hearA
 rw [if_pos (okN_of h)]
 show OA.mk 2 true kk (joinS SA.zero SA.zero) _ _ (adds f (n : Int)) 0 = _
 rw [adds_nat f h, joinZ]
 unfold ltO
 congr 1
 funext j
 show (if j = _ then SA.zero else SA.zero) = SA.zero
 split <;> rfl
theorem lt_got (m : Nat) (f : Nat → Bool) {n : Nat} (h : n < 8) : (gotA (ltA m f) 2 (n : Int) kk SA.zero).1 = ltB m f n ∧ (gotA (ltA m f) 2 (n : Int) kk SA.zero).2.isSome = (want m f n && decide (cnt f 8 < m)) := by
 by_cases hc : cnt f 8 < m
 ·have hf2 : fndA 2 (ltA m f).t = some (ltO 2 true m f) := by unfold ltA; rw [if_pos hc]; rfl
  cases hf : f n
  ·have ha : (okN (n : Int) && (ltO 2 true m f).who (n : Int).toNat) = false := by show (_ && f n) = false; rw [hf]; exact Bool.and_false _
   have hb : addB (ltO 2 true m f).need (ltO 2 true m f).who (n : Int) = want m f n := addB_nat m f h
   have hcn := cnt_ans hf h
   cases hw : want m f n
   ·rw [hw] at hb
    have hlt : cnt (ans f n) 8 < m := by unfold want at hw; rw [hf] at hw; simp at hw; omega
    rw [gotA_more hf2 (got_ok (key := kk) rfl rfl (by rw [kk_ok, may_zero]; rfl) ha) hb]
    refine ⟨?_, rfl⟩
    rw [hear_lt m f h]
    unfold ltA ltB
    rw [if_pos hc, if_pos hc, if_pos hlt]
    rfl
   ·rw [hw] at hb
    have hlt : ¬ cnt (ans f n) 8 < m := by unfold want at hw; rw [hf] at hw; simp at hw; omega
    rw [gotA_done hf2 (got_ok (key := kk) rfl rfl (by rw [kk_ok, may_zero]; rfl) ha) hb]
    refine ⟨?_, ?_⟩
    ·rw [hear_lt m f h]
     unfold ltA ltB
     rw [if_pos hc, if_pos hc, if_neg hlt]
     rfl
    ·show true = _
     rw [decide_eq_true hc]
     rfl
  ·have ha : (okN (n : Int) && (ltO 2 true m f).who (n : Int).toNat) = true := by show (_ && f n) = true; rw [hf, okN_of h]; rfl
   rw [gotA_no hf2 (.inr (.inr (.inr ha)))]
   refine ⟨?_, by unfold want; rw [hf]; rfl⟩
   unfold ltA ltB
   rw [if_pos hc, if_pos hc, ans_old hf, if_pos hc]
 ·have hf2 : fndA 2 (ltA m f).t = none := by unfold ltA; rw [if_neg hc]; rfl
  rw [gotA_none hf2]
  refine ⟨?_, by rw [decide_eq_false hc, Bool.and_false]; rfl⟩
  unfold ltA ltB
  rw [if_neg hc, if_neg hc]
theorem want_lt {m : Nat} {f : Nat → Bool} {n : Nat} : (want m f n && decide (cnt f 8 < m)) = want m f n := by
 unfold want
 cases f n
 ·by_cases h : cnt f 8 + 1 = m
  ·rw [decide_eq_true h, decide_eq_true (show cnt f 8 < m by omega)]; rfl
  ·rw [decide_eq_false h]; rfl
 ·rfl
theorem lt_ack (m : Nat) (f : Nat → Bool) {n : Nat} (h : n < 8) : ackA (ltB m f n) 1 (n : Int) = (ltA m (ans f n), want m f n) := by
 by_cases hc : cnt f 8 < m
 ·have hb : addB (ltO 1 false m f).need (ltO 1 false m f).who (n : Int) = want m f n := addB_nat m f h
  have had : ({ ltO 1 false m f with who := adds (ltO 1 false m f).who (n : Int) } : OA) = ltO 1 false m (ans f n) := by
   show OA.mk 1 false kk SA.zero _ _ (adds f (n : Int)) 0 = _
   rw [adds_nat f h]
   rfl
  cases hw : want m f n
  ·rw [hw] at hb
   by_cases hlt : cnt (ans f n) 8 < m
   ·have hB : ltB m f n = ⟨9, 2, [ltO 1 false m f, ltO 2 true m (ans f n)], []⟩ := by unfold ltB; rw [if_pos hc, if_pos hlt]
    rw [hB, ackA_more (o := ltO 1 false m f) rfl rfl hb, had]
    unfold ltA
    rw [if_pos hlt]
    rfl
   ·exfalso
    cases hf : f n
    ·rw [cnt_ans hf h] at hlt
     unfold want at hw
     rw [hf] at hw
     simp at hw
     omega
    ·rw [ans_old hf] at hlt
     omega
  ·rw [hw] at hb
   have hlt : ¬ cnt (ans f n) 8 < m := by
    unfold want at hw
    simp at hw
    rw [cnt_ans hw.1 h]
    omega
   have hB : ltB m f n = ⟨9, 2, [ltO 1 false m f], [⟨2, 0, SA.zero⟩]⟩ := by unfold ltB; rw [if_pos hc, if_neg hlt]
   rw [hB, ackA_done (o := ltO 1 false m f) rfl rfl hb, had]
   unfold ltA
   rw [if_neg hlt]
   rfl
 ·have hlt : ¬ cnt (ans f n) 8 < m := by
   cases hf : f n
   ·rw [cnt_ans hf h]; omega
   ·rw [ans_old hf]; exact hc
  have hB : ltB m f n = ⟨9, 2, [], [⟨2, 0, SA.zero⟩, ⟨1, 0, SA.zero⟩]⟩ := by unfold ltB; rw [if_neg hc]
  rw [hB, ackA_none rfl]
  unfold ltA
  rw [if_neg hlt, ← want_lt, decide_eq_false hc, Bool.and_false]
theorem lt_ack2 (m : Nat) (f : Nat → Bool) (n : Int) : ackA (ltA m f) 2 n = (ltA m f, false) := by
 by_cases hc : cnt f 8 < m
 ·exact ackA_read (o := ltO 2 true m f) (by unfold ltA; rw [if_pos hc]; rfl) rfl
 ·exact ackA_none (by unfold ltA; rw [if_neg hc]; rfl)
theorem lt_got1 (m : Nat) (f : Nat → Bool) (n : Int) : gotA (ltA m f) 1 n kk SA.zero = (ltA m f, none) := by
 by_cases hc : cnt f 8 < m
 ·exact gotA_no (o := ltO 1 false m f) (by unfold ltA; rw [if_pos hc]; rfl) (.inl rfl)
 ·exact gotA_none (by unfold ltA; rw [if_neg hc]; rfl)
def f0L : Nat → Bool := ans (fun _ => false) 0
theorem new_lt (id : Int) (read : Bool) (m : Nat) : newA id read kk SA.zero (m : Int) 0 = ltO id read m f0L := by
 unfold newA ltO f0L
 congr 1
 ·funext j
  show (if _ then SA.zero else SA.zero) = SA.zero
  split <;> rfl
theorem lt_begin1 {m : Nat} (h : 2 ≤ m) : beginA ⟨9, 0, [], []⟩ 0 (m : Int) false kk SA.zero = (⟨9, 1, [ltO 1 false m f0L], []⟩, 1, 0) := by
 rw [beginA_more (by decide) (by rw [kk_ok, may_zero]; rfl) (by omega)]
 show (CA.mk 9 1 [newA 1 false kk SA.zero (m : Int) 0] [], _) = _
 rw [new_lt]
 rfl
theorem lt_begin2 {m : Nat} (h : 2 ≤ m) : beginA ⟨9, 1, [ltO 1 false m f0L], []⟩ 0 (m : Int) true kk SA.zero = (ltA m f0L, 2, 0) := by
 rw [beginA_more (show ¬ 64 ≤ [ltO 1 false m f0L].length by simp) (by rw [kk_ok, may_zero]; rfl) (by omega)]
 show (CA.mk 9 2 ([ltO 1 false m f0L] ++ [newA 2 true kk SA.zero (m : Int) 0]) [], _) = _
 rw [new_lt]
 unfold ltA
 rw [if_pos (show cnt f0L 8 < m by rw [show cnt f0L 8 = 1 from rfl]; omega)]
 rfl
end Go.Proofs.Ytmjmgdbhmbjmaaa
