/- Items of several texts. -/
import Derived.Test.YthjbnpaghiojlabGreatNIdp12
namespace Go.Proofs.YthjbnpaghiojlabGreat
open Go.RowKit
structure CP (x : C) : Prop where
 ok : COk x
 rng : ∀ y ∈ cont x.l, Rng y
theorem Cas.cp {w : World} {a : Option Addr} {cap : Nat} {cs : List C} (h : Cas w a cap cs) : ∀ x ∈ cs, CP x := fun x hx => by
 obtain ⟨i, hi⟩ := List.getElem?_of_mem hx
 obtain ⟨-, -, -, -, hr, -⟩ := h.at_ i x hi
 exact ⟨h.ok x hx, hr.rng⟩
structure Fit (most : Nat) (rs : List (List Nat)) : Prop where
 is : (frs rs).length + 4008 ≤ most
theorem ch_ok {most : Nat} {rs : List (List Nat)} {s : PS} {r : RD} (hf : Fit most rs) (hr : OkR r) : chA most rs s r = ⟨0, rs ++ [enc r], (doR s r).getD s⟩ := by
 have h1 := enc_len hr
 have h2 := hf.is
 have e0 : layE most rs s (enc r) = 0 := by unfold layE; rw [if_pos (by omega)]
 have e1 : layL most rs s (enc r) = rs ++ [enc r] := by unfold layL; rw [if_pos (by omega)]
 unfold chA chE chL chS chE
 rw [e0, e1, if_pos rfl]
theorem ch_len {rs : List (List Nat)} {r : RD} (hr : OkR r) : (frs (rs ++ [enc r])).length ≤ (frs rs).length + 4008 := by
 have h1 := enc_len hr
 rw [frs_snoc, List.length_append, frm_len]
 omega
theorem do_ok {s : PS} {r : RD} (h : OkP s) (hr : OkR r) : OkP ((doR s r).getD s) := by
 cases e : doR s r with
 | none => exact h
 | some s' => exact h.doR hr e
structure Did1 (rs : List (List Nat)) (s : PS) (z : Ans) : Prop where
 is : (z.rs = rs ∧ z.s = s) ∨ ∃ r, OkR r ∧ z.rs = rs ++ [enc r] ∧ z.s = (doR s r).getD s
theorem Did1.no (rs : List (List Nat)) (s : PS) (er : Int) : Did1 rs s ⟨er, rs, s⟩ := ⟨.inl ⟨rfl, rfl⟩⟩
theorem Did1.yes (rs : List (List Nat)) (s : PS) (r : RD) (hr : OkR r) (er : Int) : Did1 rs s ⟨er, rs ++ [enc r], (doR s r).getD s⟩ := ⟨.inr ⟨r, hr, rfl, rfl⟩⟩
theorem Did1.ok {rs : List (List Nat)} {s : PS} {z : Ans} (h : Did1 rs s z) (ho : OkP s) : OkP z.s ∧ (frs z.rs).length ≤ (frs rs).length + 4008 := by
 rcases h.is with ⟨e1, e2⟩ | ⟨r, hr, e1, e2⟩
 ·rw [e1, e2]
  exact ⟨ho, by omega⟩
 ·rw [e1, e2]
  exact ⟨do_ok ho hr, ch_len hr⟩
theorem join_okR {s : PS} {x : C} (hx : CP x) (hc : joinC s x.e.abs = 0) : OkR ⟨1, 0, x.e.abs⟩ := by
 unfold joinC at hc
 split at hc
 ·omega
 ·rename_i h1
  rw [Bool.not_eq_false, Bool.and_eq_true] at h1
  exact ⟨.inl ⟨rfl, rfl, ⟨h1.1, may_iff.1 h1.2, hx.ok.f, hx.rng⟩⟩⟩
theorem hint_okR {s : PS} {x : C} (hx : CP x) (hc : hintC s x.node x.e.abs = 0) : OkR ⟨2, x.node, x.e.abs⟩ := by
 unfold hintC at hc
 split at hc
 ·omega
 ·rename_i h1
  rw [Bool.not_eq_false, Bool.and_eq_true, Bool.and_eq_true] at h1
  exact ⟨.inr (.inl ⟨rfl, h1.1, ⟨h1.2.1, may_iff.1 h1.2.2, hx.ok.f, hx.rng⟩⟩)⟩
theorem unh_okR {s : PS} (ho : OkP s) {node : Int} {key : ByteArray} {f : Nat → Int} {l : List A} (hc : unhB s node key f l = true) : OkR ⟨3, node, ⟨key, zer, []⟩⟩ := by
 unfold unhB at hc
 rw [Bool.and_eq_true] at hc
 obtain ⟨y, hy⟩ := Option.isSome_iff_exists.1 hc.1
 obtain ⟨hm, hk⟩ := (fnd_someH HK.nk ho.set.sor).1 hy
 obtain ⟨h1, h2⟩ := ho.hint hm
 have e1 : y.node = node := congrArg Prod.fst hk
 have e2 : y.k.key = key := congrArg Prod.snd hk
 rw [e1] at h1
 have h3 := h2.key
 rw [e2] at h3
 exact ⟨.inr (.inr (.inl ⟨rfl, h1, h3, rfl, rfl⟩))⟩
theorem rea_okR {s : PS} (ho : OkP s) {key : ByteArray} (hc : reaB s key = true) : OkR ⟨4, 0, ⟨key, zer, []⟩⟩ := by
 refine ⟨.inr (.inr (.inr ⟨rfl, rfl, ?_, rfl, rfl⟩))⟩
 cases e : fndG K.key key s.1 with
 | some y =>
  obtain ⟨hm, hk⟩ := (fnd_some K.key ho.sor).1 e
  rw [← hk]
  exact (ho.ok y hm).key
 | none =>
  exfalso
  have hg : getK s.1 key = ⟨key, zer, []⟩ := by unfold getK; rw [e]; rfl
  have hv : reapV zer [] = zer := by unfold reapV; split <;> rfl
  have hl : reapL zer [] = [] := by unfold reapL; split <;> rfl
  unfold reaB at hc
  rw [hg] at hc
  have : sameS zer (reapV zer []) [] (reapL zer []) = true := by rw [hv, hl]; exact same_iff.2 ⟨fun _ _ => rfl, rfl⟩
  rw [show sameS (K.mk key zer []).f (reapV (K.mk key zer []).f (K.mk key zer []).l) (K.mk key zer []).l (reapL (K.mk key zer []).f (K.mk key zer []).l) = true from this] at hc
  simp at hc
theorem step_did {most : Nat} {z : List (List Nat) × PS} {x : C} (hx : CP x) (ho : OkP z.2) (hf : Fit most z.1) : Did1 z.1 z.2 (stepA most z x) := by
 unfold stepA
 split
 ·unfold putA
  split
  ·rename_i hc
   have hr : OkR ⟨1, 0, putK z.2 x.node x.key x.g x.data x.dead⟩ := ⟨.inl ⟨rfl, rfl, put_okK ho hx.ok.g hx.ok.len hx.ok.lt hc⟩⟩
   rw [ch_ok hf hr]
   exact Did1.yes _ _ _ hr _
  ·exact Did1.no _ _ _
 ·split
  ·unfold joinA
   split
   ·rename_i hc
    have hr := join_okR hx hc
    rw [ch_ok hf hr]
    exact Did1.yes _ _ _ hr _
   ·split <;> exact Did1.no _ _ _
  ·split
   ·unfold hintA
    split
    ·rename_i hc
     have hr := hint_okR hx hc
     rw [ch_ok hf hr]
     exact Did1.yes _ _ _ hr _
    ·split <;> exact Did1.no _ _ _
   ·split
    ·unfold unhA
     split
     ·rename_i hc
      have hr := unh_okR ho hc
      rw [ch_ok hf hr]
      exact Did1.yes _ _ _ hr _
     ·exact Did1.no _ _ _
    ·split
     ·unfold reaA
      split
      ·rename_i hc
       have hr := rea_okR ho hc
       rw [ch_ok hf hr]
       exact Did1.yes _ _ _ hr _
      ·exact Did1.no _ _ _
     ·exact Did1.no _ _ _
def keyS (t : List K) (x : C) : List K :=
 if x.d = 0 then (if putC (t, []) x.node x.key x.g x.data x.dead = 0 then ((doR (t, []) ⟨1, 0, putK (t, []) x.node x.key x.g x.data x.dead⟩).getD (t, [])).1 else t)
 else if x.d = 1 then (if joinC (t, []) x.e.abs = 0 then ((doR (t, []) ⟨1, 0, x.e.abs⟩).getD (t, [])).1 else t)
 else if x.d = 4 then (if reaB (t, []) x.key = true then ((doR (t, []) ⟨4, 0, ⟨x.key, zer, []⟩⟩).getD (t, [])).1 else t)
 else t
theorem do_one (s : PS) (n : Int) (k : K) : ((doR s ⟨1, n, k⟩).getD s).1 = ((doR (s.1, []) ⟨1, n, k⟩).getD (s.1, [])).1 ∧ ((doR s ⟨1, n, k⟩).getD s).2 = s.2 := by
 unfold doR
 simp only [if_true]
 split <;> exact ⟨rfl, rfl⟩
theorem do_two (s : PS) (n : Int) (k : K) : ((doR s ⟨2, n, k⟩).getD s).1 = s.1 := by
 unfold doR
 simp only [show ¬ (2 : Nat) = 1 by decide, if_true, if_false]
 split <;> rfl
theorem do_three (s : PS) (n : Int) (k : K) : ((doR s ⟨3, n, k⟩).getD s).1 = s.1 := by
 unfold doR
 simp only [show ¬ (3 : Nat) = 1 by decide, show ¬ (3 : Nat) = 2 by decide, if_true, if_false]
 rfl
theorem do_four (s : PS) (n : Int) (k : K) : ((doR s ⟨4, n, k⟩).getD s).1 = ((doR (s.1, []) ⟨4, n, k⟩).getD (s.1, [])).1 ∧ ((doR s ⟨4, n, k⟩).getD s).2 = s.2 := by
 unfold doR
 simp only [show ¬ (4 : Nat) = 1 by decide, show ¬ (4 : Nat) = 2 by decide, show ¬ (4 : Nat) = 3 by decide, if_false]
 exact ⟨rfl, rfl⟩
theorem step_keys {most : Nat} {z : List (List Nat) × PS} {x : C} (hx : CP x) (ho : OkP z.2) (hf : Fit most z.1) : (stepP most z x).2.1 = keyS z.2.1 x ∧ (x.d ≠ 2 → x.d ≠ 3 → (stepP most z x).2.2 = z.2.2) := by
 unfold stepP stepA keyS
 by_cases h0 : x.d = 0
 ·simp only [if_pos h0]
  unfold putA
  by_cases hc : putC z.2 x.node x.key x.g x.data x.dead = 0
  ·have hr : OkR ⟨1, 0, putK z.2 x.node x.key x.g x.data x.dead⟩ := ⟨.inl ⟨rfl, rfl, put_okK ho hx.ok.g hx.ok.len hx.ok.lt hc⟩⟩
   rw [if_pos hc, if_pos (show putC (z.2.1, []) x.node x.key x.g x.data x.dead = 0 from hc), ch_ok hf hr]
   exact ⟨(do_one _ _ _).1, fun _ _ => (do_one _ _ _).2⟩
  ·rw [if_neg hc, if_neg (show ¬ putC (z.2.1, []) x.node x.key x.g x.data x.dead = 0 from hc)]
   exact ⟨rfl, fun _ _ => rfl⟩
 ·simp only [if_neg h0]
  by_cases h1 : x.d = 1
  ·simp only [if_pos h1]
   unfold joinA
   by_cases hc : joinC z.2 x.e.abs = 0
   ·rw [if_pos hc, if_pos (show joinC (z.2.1, []) x.e.abs = 0 from hc), ch_ok hf (join_okR hx hc)]
    exact ⟨(do_one _ _ _).1, fun _ _ => (do_one _ _ _).2⟩
   ·rw [if_neg hc, if_neg (show ¬ joinC (z.2.1, []) x.e.abs = 0 from hc)]
    split <;> exact ⟨rfl, fun _ _ => rfl⟩
  ·simp only [if_neg h1]
   by_cases h2 : x.d = 2
   ·simp only [if_pos h2]
    rw [if_neg (show ¬ x.d = 4 by omega)]
    refine ⟨?_, fun h => absurd h2 h⟩
    unfold hintA
    split
    ·rename_i hc
     rw [ch_ok hf (hint_okR hx hc)]
     exact do_two _ _ _
    ·split <;> rfl
   ·simp only [if_neg h2]
    by_cases h3 : x.d = 3
    ·simp only [if_pos h3]
     rw [if_neg (show ¬ x.d = 4 by omega)]
     refine ⟨?_, fun _ h => absurd h3 h⟩
     unfold unhA
     split
     ·rename_i hc
      rw [ch_ok hf (unh_okR ho hc)]
      exact do_three _ _ _
     ·rfl
    ·simp only [if_neg h3]
     by_cases h4 : x.d = 4
     ·simp only [if_pos h4]
      unfold reaA
      by_cases hc : reaB z.2 x.key = true
      ·rw [if_pos hc, if_pos (show reaB (z.2.1, []) x.key = true from hc), ch_ok hf (rea_okR ho hc)]
       exact ⟨(do_four _ _ _).1, fun _ _ => (do_four _ _ _).2⟩
      ·rw [if_neg hc, if_neg (show ¬ reaB (z.2.1, []) x.key = true from hc)]
       exact ⟨rfl, fun _ _ => rfl⟩
     ·simp only [if_neg h4]
      exact ⟨trivial, fun _ _ => trivial⟩
set_option maxRecDepth 100000 in
theorem run_keys {most : Nat} : ∀ (cs : List C) (z : List (List Nat) × PS), (∀ x ∈ cs, CP x) → OkP z.2 → (frs z.1).length + cs.length * 4008 ≤ most →
  (runP most z cs).2.1 = cs.foldl keyS z.2.1 ∧ OkP (runP most z cs).2 ∧ ((∀ x ∈ cs, x.d ≠ 2 ∧ x.d ≠ 3) → (runP most z cs).2.2 = z.2.2)
 | [], z, _, ho, _ => ⟨rfl, ho, fun _ => rfl⟩
 | x :: cs, z, hx, ho, hl => by
  have hl' : (frs z.1).length + (cs.length * 4008 + 4008) ≤ most := by rw [List.length_cons, Nat.succ_mul] at hl; exact hl
  clear hl
  have hf : Fit most z.1 := ⟨by omega⟩
  have hc := hx x (by simp)
  obtain ⟨h1, h2⟩ := step_keys hc ho hf
  obtain ⟨h3, h4⟩ := (step_did hc ho hf).ok ho
  obtain ⟨k1, k2, k3⟩ := run_keys (most := most) cs (stepP most z x) (fun y hy => hx y (by simp [hy])) h3 (by have : (frs (stepP most z x).1).length ≤ (frs z.1).length + 4008 := h4; show _ + cs.length * 4008 ≤ _; omega)
  refine ⟨?_, k2, fun hn => ?_⟩
  ·show (runP most (stepP most z x) cs).2.1 = _
   rw [k1, h1]
   rfl
  ·show (runP most (stepP most z x) cs).2.2 = _
   rw [k3 (fun y hy => hn y (by simp [hy])), h2 (hn x (by simp)).1 (hn x (by simp)).2]
def notH (x : C) : Bool := decide (x.d ≠ 2 ∧ x.d ≠ 3)
theorem keys_filter : ∀ (cs : List C) (t : List K), (cs.filter notH).foldl keyS t = cs.foldl keyS t
 | [], _ => rfl
 | x :: cs, t => by
  by_cases h : x.d ≠ 2 ∧ x.d ≠ 3
  ·rw [List.filter_cons_of_pos (by simpa [notH] using h)]
   exact keys_filter cs (keyS t x)
  ·rw [List.filter_cons_of_neg (by simpa [notH] using h)]
   have e : keyS t x = t := by
    unfold keyS
    rw [if_neg (by omega), if_neg (by omega), if_neg (by omega)]
   show _ = cs.foldl keyS (keyS t x)
   rw [e]
   exact keys_filter cs t
theorem apart_keys {most : Nat} (hm : 60 * 4008 ≤ most) {cs : List C} (hx : ∀ x ∈ cs, CP x) (hl : cs.length ≤ 60) : (runP most ([], ([], [])) cs).2.1 = (runP most ([], ([], [])) (cs.filter notH)).2.1 ∧ (runP most ([], ([], [])) (cs.filter notH)).2.2 = [] := by
 have hf : (frs []).length = 0 := rfl
 have hl2 : (cs.filter notH).length ≤ 60 := Nat.le_trans (List.length_filter_le _ _) hl
 obtain ⟨a1, -, -⟩ := run_keys (most := most) cs ([], ([], [])) hx OkP.nil (by show (frs []).length + _ ≤ _; omega)
 obtain ⟨b1, -, b3⟩ := run_keys (most := most) (cs.filter notH) ([], ([], [])) (fun x h => hx x (List.mem_filter.1 h).1) OkP.nil (by show (frs []).length + _ ≤ _; omega)
 refine ⟨?_, b3 (fun x h => ?_)⟩
 ·rw [a1, b1, keys_filter]
 ·have := (List.mem_filter.1 h).2
  simpa [notH] using this
end Go.Proofs.YthjbnpaghiojlabGreat

namespace Go.Proofs.YthjbnpaghiojlabGreat
open Go.RowKit
theorem Hol.offE {D S E : Nat → Prop} {p lb b most : Nat} {rs : List (List Nat)} {s : PS} {w w' : World} (h : Hol D S p lb b most rs s w) (o : Off E w w') (hE : ∀ c, D c ∨ S c → ¬ E c) : Hol D S p lb b most rs s w' :=
  ⟨h.cor.off o (fun c _ hc => hE c (.inr hc)), ⟨h.std.lg.off o (fun c hc => hE c (.inl hc)), h.std.rec_⟩, h.sep, h.inv⟩
theorem Hol.bel {D S : Nat → Prop} {p lb b most : Nat} {rs : List (List Nat)} {s : PS} {w : World} (h : Hol D S p lb b most rs s w) : ∀ c, D c ∨ S c → c < w.heap.size := fun c hc => hc.elim (h.std.lg.lt c) (h.cor.lt c)
theorem run_snoc (most : Nat) (z : List (List Nat) × PS) (cs : List C) (x : C) : runP most z (cs ++ [x]) = stepP most (runP most z cs) x := by
  unfold runP
  rw [List.foldl_append]
  rfl
theorem run_one (most : Nat) (z : List (List Nat) × PS) (x : C) : runP most z [x] = stepP most z x := rfl
theorem cas_one {w : World} {q : Nat} {x : C} (h : Cel q 56 (ccs x).toArray w) (hr : Row w x.a x.cap x.l) (hs : Src w x.da x.dc x.data) (ok : COk x) : Cas w (some ⟨q, 0, none⟩) 1 [x] :=
  ⟨by simp, by omega, fun i y hi => by
    obtain ⟨rfl, rfl⟩ : i = 0 ∧ y = x := by
      cases i with
      | zero => simp at hi; exact ⟨rfl, hi.symm⟩
      | succ i => simp at hi
    refine ⟨q, 0, rfl, fun j u hj => ?_, hr, hs⟩
    have e := h.cell j
    rw [List.getElem?_toArray, hj] at e
    simp only [Nat.zero_mul, Nat.zero_add]
    exact e, fun y hy => by rw [List.mem_singleton.1 hy]; exact ok⟩
theorem fold_set : ∀ (l : List Value) (k : Nat) (A : Array Value), k + l.length = A.size → (l.zipIdx k).foldl (fun cs x => cs.setIfInBounds x.snd x.fst) A = (A.toList.take k ++ l).toArray
  | [], k, A, h => by
    have e : A.toList.take k = A.toList := List.take_of_length_le (by rw [Array.length_toList]; simp at h; omega)
    rw [e, List.append_nil]
    rfl
  | a :: l, k, A, h => by
    rw [List.length_cons] at h
    rw [List.zipIdx_cons, List.foldl_cons, fold_set l (k + 1) _ (by rw [Array.size_setIfInBounds]; omega)]
    congr 1
    rw [Array.toList_setIfInBounds, List.take_add_one, List.take_set_of_le (Nat.le_refl k)]
    rw [List.getElem?_set_self (by rw [Array.length_toList]; omega)]
    simp
theorem exec_bs {P : Program} {ρ : Operand → Value} {o : Oper} {t : TypeId} {n : Nat} {x : Operand} {v : Value} {w w' : World} (ho : o.op = .buildSlice t n #[(0, x)]) (h : (Instr.buildSlice t n #[(0, ρ x)]).run P w = .ok v w') : Sem.run P (execOp ρ o) w = .ok (.value v) w' := by
  have e : execOp ρ o = (do pure (.value (← Instr.buildSlice t n #[(0, ρ x)]))) := by unfold execOp; rw [ho]; simp only [List.map_toArray, List.map_cons, List.map_nil]
  rw [e, Sem.run_bind, h]
  rfl
set_option maxRecDepth 100000 in
set_option maxHeartbeats 2000000 in
theorem buildC (w : World) (x : C) : (Instr.buildSlice 22 1 #[(0, .agg (ccs x).toArray)]).run Tryz.prog w = .ok (.slice (some ⟨w.heap.size, 0, none⟩) 1 1) (w.alloc (.cells (ccs x).toArray 56)) := by
  go_simp
  rw [if_neg (by rw [ccs_len]; omega), fold_set _ 0 _ (by rw [ccs_len]; rfl)]
  go_simp
set_option maxRecDepth 100000 in
set_option maxHeartbeats 8000000 in
theorem apart_walk (a : Option Addr) (cap : Nat) (cs : List C) (w : World) (hE : Cas w a cap cs) : Calls Tryz.prog 5 #[.slice a cs.length cap] w fun e w' => e = .returned (.bool true) ∧ Off (fun _ => False) w w' := by
  have hnot := not_any
  have hq := eql_sto
  have hbb : cs.length ≤ 9223372036854775807 := Nat.le_trans hE.len hE.bound
  have HE : Hid _ := hE
  clear hE
  go_enter Tryz.func5, Tryz.ntmps5
  go_wp2_with fail
  refine (light_any a cap cs w HE.out).mono ?_
  rintro e w1 ⟨bl, rfl, hl, o1⟩
  have HO1 : Hid _ := o1
  have HLG : Hid _ := hl
  clear o1 hl
  cases bl
  · go_wp2_with fail
    refine (awake_any _).mono ?_
    rintro e w2 ⟨rfl, o2⟩
    have HO2 : Hid _ := HO1.out.trans o2 (fun _ _ h => h)
    clear o2
    go_wp2_with fail
    go_ret
    exact ⟨rfl, HO2.out⟩
  · have HL60 : Hid (cs.length ≤ 60) := (HLG.out rfl).few
    clear HLG
    go_wp2_with fail
    refine (fnew_any 1048576 w1).mono ?_
    rintro e w2 ⟨b, rfl, fl⟩
    obtain ⟨most, hmost⟩ : ∃ m, m = roomOf 1048576 := ⟨_, rfl⟩
    rw [← hmost] at fl
    have HMOST : Hid (most = roomOf 1048576) := hmost
    clear hmost
    have HF : Hid _ := fl
    clear fl
    go_wp2_with fail
    refine (fopen_any HF.out Inv.nil).mono ?_
    rintro e w3 ⟨p, rfl, lw⟩
    have HLA : Hid _ := lw
    clear lw HF
    go_wp2_with fail
    refine (fnew_any 1048576 w3).mono ?_
    rintro e w4 ⟨b2, rfl, fl⟩
    rw [← HMOST.out] at fl
    have HF : Hid _ := fl
    clear fl
    go_wp2_with fail
    refine (fopen_any HF.out Inv.nil).mono ?_
    rintro e w5 ⟨p2, rfl, lw⟩
    have HLB : Hid _ := lw
    clear lw HF
    obtain ⟨la, DA, SA, ha1, ha2⟩ := HLA.out.ex
    obtain ⟨l2, DB, SB, hb1, hb2⟩ := HLB.out.ex
    have HA1 : Hid _ := ha1.free HLB.out.off
    have HA2 : Hid _ := ha2
    have HAB : Hid _ := ha1.bel
    have HB1 : Hid _ := hb1
    have HB2 : Hid _ := hb2
    have HO5 : Hid (Off (fun _ => False) w1 w5) := HLA.out.off.trans HLB.out.off (fun _ _ h => h)
    have HS3 : Hid (w3.heap.size ≤ w5.heap.size ∧ w1.heap.size ≤ w3.heap.size) := ⟨HLB.out.off.size, HLA.out.off.size⟩
    have HE1 : Hid _ := HE.out.off HO1.out
    clear ha1 ha2 hb1 hb2 HLA HLB
    go_wp2_with fail
    refine (play_any HA1.out a cap cs (fun v o => HE1.out.off (((HO5.out.mono (fun _ _ h => h.elim)).trans o (fun _ _ h => h)).mono (fun i hi e => by have := HA2.out i e; omega))) (fun x hx => ?_)).mono ?_
    · obtain ⟨i, hi⟩ := List.getElem?_of_mem hx
      obtain ⟨-, -, -, -, hr, -⟩ := HE1.out.at_ i x hi
      exact hr.below.mono (fun c hc => ⟨⟨fun e => by have := HA2.out c (.inl e); omega, fun e => by have := HA2.out c (.inr e); omega⟩, by have := HS3.out; omega⟩)
    rintro e w6 ⟨rfl, DA', SA', hol, mv⟩
    have HA6 : Hid _ := hol
    have HMA : Hid _ := mv
    have HB6 : Hid _ := HB1.out.offE mv.off (fun c hc e => by
      have h3 := HB2.out c hc
      have h4 := HAB.out c e
      omega)
    have HSEP : Hid (∀ c, DA' c ∨ SA' c → ¬ (DB c ∨ SB c)) := fun c hc e => by
      have h3 := HB2.out c e
      have h4 := HB1.out.bel c e
      have h5 : (DA c ∨ SA c) ∨ w5.heap.size ≤ c := hc.elim (fun h => (mv.d c h).elim (fun h => .inl (.inl h)) .inr) (fun h => (mv.s c h).elim (fun h => .inl (.inr h)) .inr)
      rcases h5 with h5 | h5
      · have := HAB.out c h5
        omega
      · omega
    have HO6 : Hid _ := (mv.new HO5.out HA2.out).1
    have HB2' : Hid (∀ c, DB c ∨ SB c → w1.heap.size ≤ c) := fun c hc => by
      have := HB2.out c hc
      have := HS3.out
      omega
    clear hol mv HA1 HA2 HAB HB1 HMA HO5
    go_wp2_with fail
    go_loopw [42] (fun y wr => ∃ (n : Nat) (D1 S1 : Nat → Prop), y = .int .i64 (n : Int) ∧ n ≤ cs.length ∧ Hol D1 S1 p2 l2 b2 most (runP most ([], ([], [])) ((cs.take n).filter notH)).1 (runP most ([], ([], [])) ((cs.take n).filter notH)).2 wr ∧ Mov DB SB D1 S1 w6 wr) (fun y _ => (cs.length - intOf y).toNat)
    case atStart => exact ⟨0, DB, SB, rfl, by omega, HB6.out, Mov.refl DB SB w6⟩
    case round =>
     obtain ⟨n, D1, S1, rfl, hn, hhol, hmv⟩ := hrel
     obtain ⟨zr, zs, hz⟩ : ∃ zr zs, runP most ([], ([], [])) ((cs.take n).filter notH) = (zr, zs) := ⟨_, _, rfl⟩
     rw [hz] at hhol
     have HZ : Hid _ := hz
     have HHOL : Hid (Hol D1 S1 p2 l2 b2 most zr zs wr) := hhol
     have HMV : Hid _ := hmv
     clear hhol hmv hz
     by_cases hlt : n < cs.length
     · have e1 : decide ((n : Int) < (cs.length : Int)) = true := decide_eq_true (by omega)
       have e2 : decide (n < cs.length) = true := decide_eq_true hlt
       obtain ⟨x, hx⟩ : ∃ x, cs[n]? = some x := ⟨_, List.getElem?_eq_getElem hlt⟩
       obtain ⟨ow, ag⟩ := HMV.out.new HO6.out HB2'.out
       have HOW : Hid _ := ow
       have HAG : Hid _ := ag
       obtain ⟨bx, ox, rfl, kx, rx, sx⟩ := (HE1.out.off ow).at_ n x hx
       have HOK : Hid _ := HE1.out.ok x (List.mem_of_getElem? hx)
       have HBEL : Hid (Ter (fun c => c < w1.heap.size) x.a x.l) := by
         obtain ⟨-, -, -, -, hr, -⟩ := HE1.out.at_ n x hx
         exact hr.below
       have HSRB : Hid _ := sx
       clear ow ag
       go_upto_region 10 with fail
       refine wp_region_list ?_
       refine wpList_exec 44 rfl rfl (exec_idx10 rfl (idx_calls hlt _ _ _ _)) ?_
       simp only [Act.put, lsA, lsZ, lsS]
       refine wpList_exec 45 rfl rfl (exec_load rfl (run_loadAt_mid wr bx (ox + n * 22) 56 (ccs x) _ kx Tryz.underlying56 rfl (by kernel_rfl))) ?_
       simp only [Act.put, lsA, lsZ, lsS]
       refine wpList_exec 8 rfl rfl (exec_alloc rfl (allocC wr)) ?_
       simp only [Act.put, lsA, lsZ, lsS]
       refine wpList_skip rfl rfl (exec_store rfl (storeC wr x)) ?_
       have Cq4 := Cel.new wr 56 (ccs x).toArray
       have OA : Off (fun _ => False) wr (wr.alloc (.cells (ccs x).toArray 56)) := (Off.refl _ wr).alloc _
       generalize hq : wr.heap.size = q4 at Cq4 ⊢
       generalize hv : wr.alloc (.cells (ccs x).toArray 56) = V4 at Cq4 OA ⊢
       clear hq hv kx
       have u0 : V4.cell? ⟨q4, 0, none⟩ = some (.int .i64 x.d) := Cq4.cell 0
       have HKC : Hid (∀ j u, (ccs x)[j]? = some u → V4.cell? ⟨q4, 0 + j, none⟩ = some u) := fun j u hj => by
         have e := Cq4.cell j
         rw [List.getElem?_toArray, hj] at e
         rw [Nat.zero_add]
         exact e
       have HHV : Hid _ := HHOL.out.free OA
       have HMO : Hid _ := HMV.out.free OA
       have HRX : Hid (Row V4 x.a x.cap x.l) := rx.off OA
       have HSX : Hid (Src V4 x.da x.dc x.data) := sx.off OA (fun _ _ _ h => h)
       have HX : Hid _ := hx
       have HOW4 : Hid _ := HOW.out.trans OA (fun _ _ h => h)
       clear Cq4 OA rx sx hx HHOL HMV HOW
       by_cases h2 : x.d = 2
       · have d2 : (x.d != 2) = false := by rw [h2]; rfl
         have hno : x.d = 2 ∨ x.d = 3 := .inl h2
         go_wp2_with fail
         go_roundw
         case rel =>
           have ef : (cs.take (n + 1)).filter notH = (cs.take n).filter notH := by
             rw [List.take_add_one, HX.out, Option.toList_some, List.filter_append]
             simp [notH, h2]
           refine ⟨n + 1, D1, S1, by go_num, by omega, ?_, HMO.out⟩
           rw [ef, HZ.out]
           exact HHV.out
         case measure => simp [intOf]; omega
       · have d2 : (x.d != 2) = true := bne_iff_ne.2 h2
         by_cases h3 : x.d = 3
         · have d3 : (x.d != 3) = false := by rw [h3]; rfl
           go_wp2_with fail
           go_roundw
           case rel =>
             have ef : (cs.take (n + 1)).filter notH = (cs.take n).filter notH := by
               rw [List.take_add_one, HX.out, Option.toList_some, List.filter_append]
               simp [notH, h3]
             refine ⟨n + 1, D1, S1, by go_num, by omega, ?_, HMO.out⟩
             rw [ef, HZ.out]
             exact HHV.out
           case measure => simp [intOf]; omega
         · have d3 : (x.d != 3) = true := bne_iff_ne.2 h3
           have C9 := Cel.new V4 56 (ccs x).toArray
           have O9 : Off (fun _ => False) V4 (V4.alloc (.cells (ccs x).toArray 56)) := (Off.refl _ V4).alloc _
           have HPLAY : Hid (Calls Tryz.prog 11 #[.pointer (some ⟨p2, 0, none⟩), .slice (some ⟨V4.heap.size, 0, none⟩) 1 1] (V4.alloc (.cells (ccs x).toArray 56)) fun e w' => e = .returned (.tuple #[]) ∧ ∃ D' S', Hol D' S' p2 l2 b2 most (stepP most (zr, zs) x).1 (stepP most (zr, zs) x).2 w' ∧ Mov D1 S1 D' S' V4 w') := by
             show Calls _ _ _ _ _
             have hns := HHV.out.ns
             refine (play_any (HHV.out.free O9) (some ⟨V4.heap.size, 0, none⟩) 1 [x] (fun v o => ?_) (fun y hy => ?_)).mono ?_
             · have oo : Off (fun _ => False) w1 v := (((HOW4.out.trans O9 (fun _ _ h => h)).mono (fun _ _ h => h.elim)).trans o (fun _ _ h => h)).mono (fun i hi e => by have := HAG.out i e; omega)
               obtain ⟨-, -, -, -, rv, sv⟩ := (HE1.out.off oo).at_ n x HX.out
               exact cas_one (C9.off o (fun e => e.elim (hns _ (Nat.le_refl _)).1 (hns _ (Nat.le_refl _)).2)) rv sv HOK.out
             · rw [List.mem_singleton.1 hy]
               refine HBEL.out.mono (fun c hc => ⟨⟨fun e => by have := HAG.out c (.inl e); omega, fun e => by have := HAG.out c (.inr e); omega⟩, ?_⟩)
               have := HOW4.out.size
               have := O9.size
               omega
             · rintro e w' ⟨rfl, D', S', hol, mv⟩
               rw [run_one] at hol
               exact ⟨rfl, D', S', hol, mv.after O9⟩
           clear C9 O9
           go_upto_region 12 with fail
           clear u0
           refine wp_region_list ?_
           refine wpList_exec 54 rfl rfl rfl ?_
           simp only [Act.put, lsA, lsZ, lsS]
           refine wpList_exec 55 rfl rfl (exec_load rfl (run_loadAt_mid V4 q4 0 56 (ccs x) _ HKC.out Tryz.underlying56 rfl (by kernel_rfl))) ?_
           simp only [Act.put, lsA, lsZ, lsS]
           refine wpList_exec 56 rfl rfl (exec_bs rfl (buildC V4 x)) ?_
           simp only [Act.put, lsA, lsZ, lsS]
           go_wp2_with fail
           refine Calls.mono HPLAY.out ?_
           rintro e v6 ⟨rfl, D3, S3, hol, mv⟩
           have HH : Hid _ := hol
           have HM : Hid _ := mv
           clear hol mv HPLAY
           go_wp2_with fail
           go_roundw
           case rel =>
             have ef : (cs.take (n + 1)).filter notH = (cs.take n).filter notH ++ [x] := by
               rw [List.take_add_one, HX.out, Option.toList_some, List.filter_append]
               simp [notH, h2, h3]
             refine ⟨n + 1, D3, S3, by go_num, by omega, ?_, HMO.out.trans HM.out⟩
             rw [ef, run_snoc, HZ.out]
             exact HH.out
           case measure => simp [intOf]; omega
     · obtain rfl : n = cs.length := by omega
       have e1 : decide ((cs.length : Int) < (cs.length : Int)) = false := decide_eq_false (by omega)
       have e2 : decide (cs.length < cs.length) = false := decide_eq_false (by omega)
       have HA : Hid _ := HA6.out.offE HMV.out.off HSEP.out
       have hz := HZ.out
       rw [List.take_length] at hz
       obtain ⟨k1, k2⟩ := apart_keys (most := most) (by rw [HMOST.out]; decide) HE1.out.cp HL60.out
       rw [hz] at k1 k2
       have HBE : Hid _ := HHOL.out
       have HOW : Hid _ := (HMV.out.new HO6.out HB2'.out).1
       clear HA6 HMV HHOL HSEP HB6 HB2 HB2' HO6
       obtain ⟨ya, yb, hy⟩ : ∃ ya yb, runP most ([], ([], [])) cs = (ya, yb) := ⟨_, _, rfl⟩
       rw [hy] at HA k1
       have HK1 : Hid (yb.1 = zs.1) := k1
       have HK2 : Hid (zs.2 = []) := k2
       clear k1 k2 hz hy HZ
       go_wp2_with fail
       refine (lall_any HA.out.cor).mono ?_
       rintro e w7 ⟨a7, c7, es, rfl, h7, own7, rows7, nw7, o7⟩
       have H7 : Hid _ := h7
       have HOW7 : Hid _ := own7
       have HR7 : Hid _ := rows7
       have HO7 : Hid _ := o7
       clear h7 own7 rows7 nw7 o7
       go_wp2_with fail
       refine (lall_any (HBE.out.free HO7.out).cor).mono ?_
       rintro e w8 ⟨a8, c8, fs, rfl, h8, own8, rows8, nw8, o8⟩
       have H8 : Hid _ := h8
       have HOW8 : Hid _ := own8
       have HR8 : Hid _ := rows8
       have HO8 : Hid _ := o8
       clear h8 own8 rows8 nw8 o8
       go_wp2_with fail
       refine (sameents_any a7 a8 c7 c8 es fs w8 (HOW7.out.off HO8.out (fun _ _ _ h => h)).ent (fun e he => (HR7.out e he).1.off HO8.out) HOW8.out.ent (fun e he => (HR8.out e he).1) (by rw [H7.out, H8.out, HK1.out]) (by have e := congrArg List.length H7.out; rw [absE_len] at e; have := HA.out.inv.ok.few; omega)).mono ?_
       rintro e w9 ⟨rfl, o9⟩
       have HO9 : Hid _ := HO8.out.trans o9 (fun _ _ h => h)
       clear o9
       go_wp2_with fail
       refine (lhints_any ((HBE.out.free HO7.out).free HO9.out).cor).mono ?_
       rintro e w10 ⟨a10, c10, ys, rfl, h10, own10, rows10, ter10, nw10, o10⟩
       obtain rfl : ys = [] := List.eq_nil_of_length_eq_zero (by have e := congrArg List.length h10; rw [absH_len, HK2.out] at e; exact e)
       have HO10 : Hid _ := o10
       clear h10 own10 rows10 ter10 nw10 o10
       go_wp2_with fail
       refine (awake_any _).mono ?_
       rintro e w11 ⟨rfl, o11⟩
       have HOZ : Hid _ := ((((HO1.out.trans HOW.out (fun _ _ h => h)).trans HO7.out (fun _ _ h => h)).trans HO9.out (fun _ _ h => h)).trans HO10.out (fun _ _ h => h)).trans o11 (fun _ _ h => h)
       clear o11
       go_wp2_with fail
       go_ret
       exact ⟨rfl, HOZ.out⟩
end Go.Proofs.YthjbnpaghiojlabGreat
