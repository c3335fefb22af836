/- Several texts in one. -/
import Derived.Test.YtfhacfedklaaiaaHfoM
import Derived.Deep.MidRow
import Derived.Deep.WholeRow
import Derived.Test.YtfhacfedklaaiaaArg5
/- A wide struct taken out of a row into a variable of one's own: by laws, cell by cell never. -/
namespace Go.Proofs.Ytfhacfedklaaiaa
open Go.RowKit

theorem wpList_exec {P : Program} {ops : Array Oper} {rest : List Oper} {o : Oper} {a : Act} {w w' : World} {Q : Exit → Act → World → Prop} {v : Value} (d : Nat) (hgd : o.guard = none) (hd : o.dst = some d) (h : (execOp a.eval o).run P w = .ok (.value v) w')
    (hk : wpList P ops Q rest (a.put (some d) v) w') : wpList P ops Q (o :: rest) a w :=
  wpList_plain hgd fun K hK => by
    unfold Oper.wp
    rw [h, Oper.upon_value, hd]
    exact hK _ _ hk
theorem wpList_skip {P : Program} {ops : Array Oper} {rest : List Oper} {o : Oper} {a : Act} {w w' : World} {Q : Exit → Act → World → Prop} (hgd : o.guard = none) (hd : o.dst = none) (h : (execOp a.eval o).run P w = .ok .skip w')
    (hk : wpList P ops Q rest a w') : wpList P ops Q (o :: rest) a w :=
  wpList_plain hgd fun K hK => by
    unfold Oper.wp
    rw [h, Oper.upon_skip, hd]
    exact hK _ _ hk
theorem exec_load {P : Program} {ρ : Operand → Value} {o : Oper} {t : TypeId} {x : Operand} {v : Value} {w : World} (ho : o.op = .load t x) (h : (Instr.loadAt t (ρ x)).run P w = .ok v w) : Sem.run P (execOp ρ o) w = .ok (.value v) w := by
  have e : execOp ρ o = (do pure (.value (← Instr.loadAt t (ρ x)))) := by unfold execOp; rw [ho]
  rw [e, Sem.run_bind, h]
  rfl
theorem exec_store {P : Program} {ρ : Operand → Value} {o : Oper} {t : TypeId} {x y : Operand} {w w' : World} (ho : o.op = .store t x y) (h : (Instr.storeAt t (ρ x) (ρ y)).run P w = .ok () w') : Sem.run P (execOp ρ o) w = .ok .skip w' := by
  have e : execOp ρ o = (do Instr.storeAt t (ρ x) (ρ y); pure .skip) := by unfold execOp; rw [ho]
  rw [e, Sem.run_bind, h]
  rfl
theorem exec_alloc {P : Program} {ρ : Operand → Value} {o : Oper} {t : TypeId} {v : Value} {w w' : World} (ho : o.op = .alloc t) (h : (Instr.alloc t true (.tuple #[])).run P w = .ok v w') : Sem.run P (execOp ρ o) w = .ok (.value v) w' := by
  have e : execOp ρ o = (do pure (.value (← Instr.alloc t true (.tuple #[])))) := by unfold execOp; rw [ho]
  rw [e, Sem.run_bind, h]
  rfl
end Go.Proofs.Ytfhacfedklaaiaa

/- Calls that came in; light, awake. -/
namespace Go.Proofs.Ytfhacfedklaaiaa
open Go.RowKit

/-- A call. -/
structure C where
  d : Int
  h : H
  f : Nat → Int
  a : Option Addr
  cap : Nat
  l : List V
def ccs (x : C) : List Value := [.int .i64 x.d, .int .i64 x.h.node, .string x.h.e.key, .int .i64 (x.h.e.f 0), .int .i64 (x.h.e.f 1), .int .i64 (x.h.e.f 2), .int .i64 (x.h.e.f 3), .int .i64 (x.h.e.f 4), .int .i64 (x.h.e.f 5), .int .i64 (x.h.e.f 6), .int .i64 (x.h.e.f 7), .slice x.h.e.a x.h.e.l.length x.h.e.cap, .int .i64 (x.f 0), .int .i64 (x.f 1), .int .i64 (x.f 2), .int .i64 (x.f 3), .int .i64 (x.f 4), .int .i64 (x.f 5), .int .i64 (x.f 6), .int .i64 (x.f 7), .slice x.a x.l.length x.cap]
theorem ccs_len (x : C) : (ccs x).length = 21 := rfl
/-- A slice of calls. -/
structure Cas (w : World) (a : Option Addr) (cap : Nat) (cs : List C) : Prop where
  len : cs.length ≤ cap
  bound : cap ≤ 9223372036854775807
  at_ : ∀ i x, cs[i]? = some x → ∃ b off, a = some ⟨b, off, none⟩ ∧ (∀ j u, (ccs x)[j]? = some u → w.cell? ⟨b, off + i * 21 + j, none⟩ = some u) ∧ Row w x.h.e.a x.h.e.cap x.h.e.l ∧ Row w x.a x.cap x.l
theorem Cas.off {w w' : World} {a : Option Addr} {cap : Nat} {cs : List C} (h : Cas w a cap cs) (o : Off (fun _ => False) w w') : Cas w' a cap cs :=
  ⟨h.len, h.bound, fun i e hi => by
    obtain ⟨b, off, ea, h1, h2, h3⟩ := h.at_ i e hi
    refine ⟨b, off, ea, fun j u hj => ?_, h2.off o, h3.off o⟩
    have k := h1 j u hj
    rw [← k]
    exact World.cell?_of_block (a := ⟨b, off + i * 21 + j, none⟩) (o.block b (cell_lt k) (fun h => h))⟩
theorem Cas.nil (w : World) (a : Option Addr) (cap : Nat) (h : cap ≤ 9223372036854775807) : Cas w a cap [] := ⟨by simp, h, fun i e hi => by simp at hi⟩
theorem call21 {w : World} {b o : Nat} {x : C} (h : ∀ j u, (ccs x)[j]? = some u → w.cell? ⟨b, o + j, none⟩ = some u) : w.cell? ⟨b, o, none⟩ = some (.int .i64 x.d) ∧ w.cell? ⟨b, o + 1, none⟩ = some (.int .i64 x.h.node) ∧ w.cell? ⟨b, o + 2, none⟩ = some (.string x.h.e.key) ∧ w.cell? ⟨b, o + 3, none⟩ = some (.int .i64 (x.h.e.f 0)) ∧ w.cell? ⟨b, o + 4, none⟩ = some (.int .i64 (x.h.e.f 1)) ∧ w.cell? ⟨b, o + 5, none⟩ = some (.int .i64 (x.h.e.f 2)) ∧ w.cell? ⟨b, o + 6, none⟩ = some (.int .i64 (x.h.e.f 3)) ∧ w.cell? ⟨b, o + 7, none⟩ = some (.int .i64 (x.h.e.f 4)) ∧ w.cell? ⟨b, o + 8, none⟩ = some (.int .i64 (x.h.e.f 5)) ∧ w.cell? ⟨b, o + 9, none⟩ = some (.int .i64 (x.h.e.f 6)) ∧ w.cell? ⟨b, o + 10, none⟩ = some (.int .i64 (x.h.e.f 7)) ∧ w.cell? ⟨b, o + 11, none⟩ = some (.slice x.h.e.a x.h.e.l.length x.h.e.cap) ∧ w.cell? ⟨b, o + 12, none⟩ = some (.int .i64 (x.f 0)) ∧ w.cell? ⟨b, o + 13, none⟩ = some (.int .i64 (x.f 1)) ∧ w.cell? ⟨b, o + 14, none⟩ = some (.int .i64 (x.f 2)) ∧ w.cell? ⟨b, o + 15, none⟩ = some (.int .i64 (x.f 3)) ∧ w.cell? ⟨b, o + 16, none⟩ = some (.int .i64 (x.f 4)) ∧ w.cell? ⟨b, o + 17, none⟩ = some (.int .i64 (x.f 5)) ∧ w.cell? ⟨b, o + 18, none⟩ = some (.int .i64 (x.f 6)) ∧ w.cell? ⟨b, o + 19, none⟩ = some (.int .i64 (x.f 7)) ∧ w.cell? ⟨b, o + 20, none⟩ = some (.slice x.a x.l.length x.cap) :=
  ⟨h 0 _ rfl, h 1 _ rfl, h 2 _ rfl, h 3 _ rfl, h 4 _ rfl, h 5 _ rfl, h 6 _ rfl, h 7 _ rfl, h 8 _ rfl, h 9 _ rfl, h 10 _ rfl, h 11 _ rfl, h 12 _ rfl, h 13 _ rfl, h 14 _ rfl, h 15 _ rfl, h 16 _ rfl, h 17 _ rfl, h 18 _ rfl, h 19 _ rfl, h 20 _ rfl⟩
theorem cel21 {b : Nat} {t : TypeId} {s0 s1 s2 s3 s4 s5 s6 s7 s8 s9 s10 s11 s12 s13 s14 s15 s16 s17 s18 s19 s20 : Value} {w : World} (h : Cel b t #[s0, s1, s2, s3, s4, s5, s6, s7, s8, s9, s10, s11, s12, s13, s14, s15, s16, s17, s18, s19, s20] w) : w.cell? ⟨b, 0, none⟩ = some s0 ∧ w.cell? ⟨b, 1, none⟩ = some s1 ∧ w.cell? ⟨b, 2, none⟩ = some s2 ∧ w.cell? ⟨b, 3, none⟩ = some s3 ∧ w.cell? ⟨b, 4, none⟩ = some s4 ∧ w.cell? ⟨b, 5, none⟩ = some s5 ∧ w.cell? ⟨b, 6, none⟩ = some s6 ∧ w.cell? ⟨b, 7, none⟩ = some s7 ∧ w.cell? ⟨b, 8, none⟩ = some s8 ∧ w.cell? ⟨b, 9, none⟩ = some s9 ∧ w.cell? ⟨b, 10, none⟩ = some s10 ∧ w.cell? ⟨b, 11, none⟩ = some s11 ∧ w.cell? ⟨b, 12, none⟩ = some s12 ∧ w.cell? ⟨b, 13, none⟩ = some s13 ∧ w.cell? ⟨b, 14, none⟩ = some s14 ∧ w.cell? ⟨b, 15, none⟩ = some s15 ∧ w.cell? ⟨b, 16, none⟩ = some s16 ∧ w.cell? ⟨b, 17, none⟩ = some s17 ∧ w.cell? ⟨b, 18, none⟩ = some s18 ∧ w.cell? ⟨b, 19, none⟩ = some s19 ∧ w.cell? ⟨b, 20, none⟩ = some s20 :=
  ⟨h.cell 0, h.cell 1, h.cell 2, h.cell 3, h.cell 4, h.cell 5, h.cell 6, h.cell 7, h.cell 8, h.cell 9, h.cell 10, h.cell 11, h.cell 12, h.cell 13, h.cell 14, h.cell 15, h.cell 16, h.cell 17, h.cell 18, h.cell 19, h.cell 20⟩
theorem idx_calls {m n : Nat} (h : n < m) (c g o : Nat) (W : World) : (Instr.indexAt 22 (.slice (some ⟨g, o, none⟩) m c) (.int .i64 (n : Int))).run Try.prog W = .ok (.pointer (some ⟨g, o + n * 21, none⟩)) W := by
  go_simp
theorem allocC (w : World) : (Instr.alloc 41 true (.tuple #[])).run Try.prog w = .ok (.pointer (some ⟨w.heap.size, 0, none⟩)) (w.alloc (.cells #[.int .i64 0, .int .i64 0, .string ⟨#[]⟩, .int .i64 0, .int .i64 0, .int .i64 0, .int .i64 0, .int .i64 0, .int .i64 0, .int .i64 0, .int .i64 0, .slice none 0 0, .int .i64 0, .int .i64 0, .int .i64 0, .int .i64 0, .int .i64 0, .int .i64 0, .int .i64 0, .int .i64 0, .slice none 0 0] 41)) := by
  go_simp
theorem ccs_one (x : C) : (ccs x).toArray.all (·.oneCell') = true := by simp [ccs, Value.oneCell']
theorem storeC (w : World) (x : C) : (Instr.storeAt 41 (.pointer (some ⟨w.heap.size, 0, none⟩)) (.agg (ccs x).toArray)).run Try.prog (w.alloc (.cells #[.int .i64 0, .int .i64 0, .string ⟨#[]⟩, .int .i64 0, .int .i64 0, .int .i64 0, .int .i64 0, .int .i64 0, .int .i64 0, .int .i64 0, .int .i64 0, .slice none 0 0, .int .i64 0, .int .i64 0, .int .i64 0, .int .i64 0, .int .i64 0, .int .i64 0, .int .i64 0, .int .i64 0, .slice none 0 0] 41)) = .ok () (w.alloc (.cells (ccs x).toArray 41)) :=
  run_storeAt_new w 41 _ _ (by kernel_rfl) rfl (ccs_one x)
/-- What light lets. -/
structure Lgt (cs : List C) : Prop where
  few : cs.length ≤ 120
  each : ∀ c ∈ cs, c.h.e.l.length ≤ 20 ∧ c.l.length ≤ 20
set_option maxRecDepth 100000 in
set_option maxHeartbeats 2000000 in
theorem light_any (a : Option Addr) (cap : Nat) (cs : List C) (w : World) (h : Cas w a cap cs) : Calls Try.prog 9 #[.slice a cs.length cap] w fun e w' => ∃ b : Bool, e = .returned (.bool b) ∧ (b = true → cs.length ≤ 120 ∧ ∀ c ∈ cs, c.h.e.l.length ≤ 20 ∧ c.l.length ≤ 20) ∧ Off (fun _ => False) w w' := by
  have HE : Hid _ := h
  have hbb : cs.length ≤ 9223372036854775807 := Nat.le_trans h.len h.bound
  clear h
  go_enter Try.func9, Try.ntmps9
  go_wp2_with fail
  go_loopw [7] (fun y wr => ∃ n : Nat, y = .int .i64 (n : Int) ∧ n ≤ cs.length ∧ (∀ i x, i < n → cs[i]? = some x → i < 120 ∧ x.h.e.l.length ≤ 20 ∧ x.l.length ≤ 20) ∧ Off (fun _ => False) w wr) (fun y _ => (cs.length - intOf y).toNat)
  case atStart => exact ⟨0, rfl, by omega, fun i x hi => by omega, Off.refl _ w⟩
  case round =>
    obtain ⟨n, rfl, hn, hg, O⟩ := hrel
    have HG : Hid _ := hg
    have HO : Hid _ := O
    have hE := HE.out.off O
    clear hg O
    by_cases hlt : n < cs.length
    · have e1 : decide ((n : Int) < (cs.length : Int)) = true := decide_eq_true (by omega)
      have e2 : decide (n < cs.length) = true := decide_eq_true hlt
      obtain ⟨x, hx⟩ : ∃ x, cs[n]? = some x := ⟨_, List.getElem?_eq_getElem hlt⟩
      obtain ⟨bx, ox, rfl, kx, rx, sx⟩ := hE.at_ n x hx
      have HRX : Hid _ := rx
      have HSX : Hid _ := sx
      clear rx sx
      clear hE
      go_upto_region 3 with fail
      refine wp_region_list ?_
      refine wpList_exec (v := .int .i64 (n : Int)) 9 rfl rfl (rfl) ?_
      simp only [Act.put, List.setIfInBounds_toArray, List.set_cons_zero, List.set_cons_succ]
      refine wpList_exec 10 rfl rfl (exec_idx10 rfl (idx_calls hlt _ _ _ _)) ?_
      simp only [Act.put, List.setIfInBounds_toArray, List.set_cons_zero, List.set_cons_succ]
      refine wpList_exec 11 rfl rfl (exec_load rfl (run_loadAt_mid wr bx (ox + n * 21) 41 (ccs x) _ kx Try.underlying41 rfl (by kernel_rfl))) ?_
      simp only [Act.put, List.setIfInBounds_toArray, List.set_cons_zero, List.set_cons_succ]
      refine wpList_exec 4 rfl rfl (exec_alloc rfl (allocC wr)) ?_
      simp only [Act.put, List.setIfInBounds_toArray, List.set_cons_zero, List.set_cons_succ]
      refine wpList_exec (v := .int .i64 (n : Int)) 3 rfl rfl (rfl) ?_
      simp only [Act.put, List.setIfInBounds_toArray, List.set_cons_zero, List.set_cons_succ]
      refine wpList_skip rfl rfl (exec_store rfl (storeC wr x)) ?_
      have Cq4 := Cel.new wr 41 (ccs x).toArray
      have OA : Off (fun _ => False) wr (wr.alloc (.cells (ccs x).toArray 41)) := (Off.refl _ wr).alloc _
      generalize hq : wr.heap.size = q4 at Cq4 ⊢
      generalize hv : wr.alloc (.cells (ccs x).toArray 41) = V4 at Cq4 OA ⊢
      clear hq hv kx
      have c11 : V4.cell? ⟨q4, 11, none⟩ = some (.slice x.h.e.a x.h.e.l.length x.h.e.cap) := Cq4.cell 11
      have c20 : V4.cell? ⟨q4, 20, none⟩ = some (.slice x.a x.l.length x.cap) := Cq4.cell 20
      have HOA : Hid _ := HO.out.trans OA (fun _ _ h => h)
      clear OA Cq4
      by_cases h0 : 120 ≤ n
      · have d0 : decide ((120 : Int) ≤ (n : Int)) = true := decide_eq_true (by omega)
        have d0' : decide (120 ≤ n) = true := decide_eq_true h0
        go_wp2_with fail
        go_ret
        exact ⟨false, rfl, (fun h => by cases h), HOA.out⟩
      · have d0 : decide ((120 : Int) ≤ (n : Int)) = false := decide_eq_false (by omega)
        have d0' : decide (120 ≤ n) = false := decide_eq_false h0
        by_cases h1 : x.h.e.l.length ≤ 20
        · have d1 : decide ((20 : Int) < (x.h.e.l.length : Int)) = false := decide_eq_false (by omega)
          have d1' : decide (20 < x.h.e.l.length) = false := decide_eq_false (by omega)
          by_cases h2 : x.l.length ≤ 20
          · have d2 : decide ((20 : Int) < (x.l.length : Int)) = false := decide_eq_false (by omega)
            have d2' : decide (20 < x.l.length) = false := decide_eq_false (by omega)
            have HX : Hid _ := hx
            clear hx
            go_wp2_with fail
            go_roundw
            case rel =>
              refine ⟨n + 1, by go_num, by omega, fun i y hi hy => ?_, HOA.out⟩
              by_cases e : i = n
              · subst e
                rw [HX.out] at hy
                cases hy
                exact ⟨by omega, h1, h2⟩
              · exact HG.out i y (by omega) hy
            case measure => simp [intOf]; omega
          · have d2 : decide ((20 : Int) < (x.l.length : Int)) = true := decide_eq_true (by omega)
            have d2' : decide (20 < x.l.length) = true := decide_eq_true (by omega)
            go_wp2_with fail
            go_ret
            exact ⟨false, rfl, (fun h => by cases h), HOA.out⟩
        · have d1 : decide ((20 : Int) < (x.h.e.l.length : Int)) = true := decide_eq_true (by omega)
          have d1' : decide (20 < x.h.e.l.length) = true := decide_eq_true (by omega)
          go_wp2_with fail
          go_ret
          exact ⟨false, rfl, (fun h => by cases h), HOA.out⟩
    · obtain rfl : n = cs.length := by omega
      have e1 : decide ((cs.length : Int) < (cs.length : Int)) = false := decide_eq_false (by omega)
      have e2 : decide (cs.length < cs.length) = false := decide_eq_false (by omega)
      go_wp2_with fail
      go_ret
      refine ⟨true, rfl, fun _ => ⟨?_, fun c hc => ?_⟩, HO.out⟩
      · by_cases e : cs.length = 0
        · omega
        · have := (HG.out (cs.length - 1) _ (by omega) (List.getElem?_eq_getElem (by omega))).1
          omega
      · obtain ⟨i, hi⟩ := List.getElem?_of_mem hc
        obtain ⟨hl, -⟩ := List.getElem?_eq_some_iff.1 hi
        exact (HG.out i c hl hi).2
def awF : Nat → Int
  | 0 => 1
  | _ => 0
def awH : H := ⟨1, ⟨⟨#[107]⟩, awF, none, 0, []⟩⟩
theorem awF_nrm : Nrm awF := fun j hj => by
  match j, hj with
  | j + 8, _ => rfl
theorem awH_ok : okH awH.abs = true := okH_iff.2 ⟨rfl, rfl, ⟨fun j hj => by
  match j with
  | 0 => exact ⟨by show (0 : Int) ≤ 1; omega, by show (1 : Int) ≤ _; omega⟩
  | j + 1 => exact ⟨by show (0 : Int) ≤ 0; omega, by show (0 : Int) ≤ _; omega⟩, by simp [awH, H.abs, E.abs, cont], by simp [awH, H.abs, E.abs, cont], by simp [awH, H.abs, E.abs, cont]⟩⟩
theorem aw_put : hpR [] awH.abs = ⟨[awH.abs], true, 0⟩ := by
  rw [hpR_new awH_ok rfl (by simp)]
  rfl
theorem aw_drop : drpB [awH.abs] (1, ⟨#[107]⟩) zer (cont []) = false := by
  have : fndG HK.nk (1, ⟨#[107]⟩) [awH.abs] = some awH.abs := by
    have := fnd_some HK.nk (t := [awH.abs]) (k := (1, ⟨#[107]⟩)) (x := awH.abs) (List.pairwise_singleton _ _)
    exact this.2 ⟨by simp, rfl⟩
  unfold drpB
  rw [this]
  show leqS awF zer [] [] = false
  rw [← Bool.not_eq_true, leq_iff]
  rintro ⟨-, -, h, -⟩
  have := h 0 (by omega)
  have e : (1 : Int) ≤ 0 := this
  omega
set_option maxRecDepth 100000 in
set_option maxHeartbeats 2000000 in
theorem awake_any (w : World) : Calls Try.prog 10 #[] w fun e w' => e = .returned (.bool true) ∧ Off (fun _ => False) w w' := by
  have hnot := not_any
  go_enter Try.func10, Try.ntmps10
  go_wp2_with fail
  refine (hnew_any w).mono ?_
  rintro e w1 ⟨p, rfl, hs, hp, o1⟩
  have HS1 : Hid _ := hs
  have HP : Hid _ := hp
  have HO1 : Hid _ := o1
  clear hs hp o1
  go_wp2_with fail
  refine (hput_any (fun c => c = p) p [] awH w1 HS1.out (Row.nil _ none 0 (by omega)) awF_nrm).mono ?_
  rw [show absH [] = [] from rfl, aw_put]
  rintro e w2 ⟨rfl, D, xs, hs, hx, o2, hd⟩
  have HS2 : Hid _ := hs
  have HX : Hid _ := hx
  have HD : Hid _ := hd
  have HO2 : Hid _ := HO1.out.trans o2 (fun i hi e => by have := HP.out; omega)
  have HSZ : Hid (w.heap.size ≤ w1.heap.size) := HO1.out.size
  clear hs hx hd o2
  go_wp2_with fail
  refine (hdrop_any D p xs 1 ⟨#[107]⟩ zer none 0 [] w2 HS2.out (Row.nil _ none 0 (by omega))).mono ?_
  rw [HX.out, aw_drop, show drpT [awH.abs] (1, ⟨#[107]⟩) zer (cont []) = [awH.abs] by unfold drpT; rw [aw_drop]; rfl]
  rintro e w3 ⟨rfl, ys, hs, hy, o3⟩
  have HS3 : Hid _ := hs
  have HO3 : Hid _ := HO2.out.trans o3 (fun i hi e => by have h1 := HP.out; have h2 := HSZ.out; rcases HD.out i e with k | k <;> omega)
  have HL : Hid (((ys.length : Int) == 1) = true) := by
    have : ys.length = 1 := by have := congrArg List.length hy; rwa [absH_len] at this
    show _ = true
    rw [this]
    rfl
  clear hs hy o3
  go_wp2_with fail
  refine (hlen_any D p ys w3 HS3.out).mono ?_
  rintro e w4 ⟨rfl, hw⟩
  rw [hw]
  clear hw w4
  have hl := HL.out
  go_wp2_with fail
  go_ret
  exact ⟨rfl, HO3.out⟩
end Go.Proofs.Ytfhacfedklaaiaa

/- What the arguments of the laws are: hints, Sibs, slices of calls. -/
namespace Go.Proofs.Ytfhacfedklaaiaa
open Go.ChangeShapes Go.WideShapes Go.ChangeAt Go.RowKit

theorem cellsEn : Try.prog.cellsOf 37 = 10 := by kernel_rfl
theorem cellsHi : Try.prog.cellsOf 39 = 11 := by kernel_rfl
theorem cellsCa : Try.prog.cellsOf 41 = 21 := by kernel_rfl
theorem cells9 : Try.prog.cellsOf 9 = 1 := by kernel_rfl
theorem fieldsEntry : ∃ f0 f1 : Field, Try.prog.underlying 37 = some (.struct #[f0, f1]) ∧ (f0.offset = 0 ∧ f0.type = 9) ∧ (f1.offset = 1 ∧ f1.type = 35) :=
  ⟨_, _, Try.underlying37, ⟨rfl, rfl⟩, ⟨rfl, rfl⟩⟩
theorem fieldsHint : ∃ f0 f1 : Field, Try.prog.underlying 39 = some (.struct #[f0, f1]) ∧ (f0.offset = 0 ∧ f0.type = 3) ∧ (f1.offset = 1 ∧ f1.type = 37) :=
  ⟨_, _, Try.underlying39, ⟨rfl, rfl⟩, ⟨rfl, rfl⟩⟩
theorem fieldsCall : ∃ f0 f1 f2 : Field, Try.prog.underlying 41 = some (.struct #[f0, f1, f2]) ∧ (f0.offset = 0 ∧ f0.type = 3) ∧ (f1.offset = 1 ∧ f1.type = 39) ∧ (f2.offset = 12 ∧ f2.type = 35) :=
  ⟨_, _, _, Try.underlying41, ⟨rfl, rfl⟩, ⟨rfl, rfl⟩, ⟨rfl, rfl⟩⟩
theorem list10 {α : Type} (l : List α) (h : l.length = 10) : ∃ y0 y1 y2 y3 y4 y5 y6 y7 y8 y9, l = [y0, y1, y2, y3, y4, y5, y6, y7, y8, y9] := by
  match l, h with
  | [y0, y1, y2, y3, y4, y5, y6, y7, y8, y9], _ => exact ⟨y0, y1, y2, y3, y4, y5, y6, y7, y8, y9, rfl⟩
theorem list11 {α : Type} (l : List α) (h : l.length = 11) : ∃ y0 y1 y2 y3 y4 y5 y6 y7 y8 y9 y10, l = [y0, y1, y2, y3, y4, y5, y6, y7, y8, y9, y10] := by
  match l, h with
  | [y0, y1, y2, y3, y4, y5, y6, y7, y8, y9, y10], _ => exact ⟨y0, y1, y2, y3, y4, y5, y6, y7, y8, y9, y10, rfl⟩
theorem list21 {α : Type} (l : List α) (h : l.length = 21) : ∃ y0 y1 y2 y3 y4 y5 y6 y7 y8 y9 y10 y11 y12 y13 y14 y15 y16 y17 y18 y19 y20, l = [y0, y1, y2, y3, y4, y5, y6, y7, y8, y9, y10, y11, y12, y13, y14, y15, y16, y17, y18, y19, y20] := by
  match l, h with
  | [y0, y1, y2, y3, y4, y5, y6, y7, y8, y9, y10, y11, y12, y13, y14, y15, y16, y17, y18, y19, y20], _ => exact ⟨y0, y1, y2, y3, y4, y5, y6, y7, y8, y9, y10, y11, y12, y13, y14, y15, y16, y17, y18, y19, y20, rfl⟩
section
variable {HH : Type} {enc : TypeId × Value → HH}
set_option maxRecDepth 100000 in
theorem sibs_cells {W : World} {fuel : Nat} {c0 c1 c2 c3 c4 c5 c6 c7 c8 : Value} {d : DataW HH} {pl : List MemPlace}
    (hf : DataW.trod enc Try.prog W 0 (fun _ => true) true fuel 35 [c0, c1, c2, c3, c4, c5, c6, c7, c8] = some (d, pl)) (hz : ∀ n ∈ d.weights Try.prog 35, n ≤ reachBytes) :
    ∃ (f : Nat → Int) (a : Option Addr) (cap : Nat) (l : List V), [c0, c1, c2, c3, c4, c5, c6, c7, c8] = (#[.int .i64 (f 0), .int .i64 (f 1), .int .i64 (f 2), .int .i64 (f 3), .int .i64 (f 4), .int .i64 (f 5), .int .i64 (f 6), .int .i64 (f 7), .slice a l.length cap] : Array Value).toList ∧ Row W a cap l ∧ Nrm f := by
  obtain ⟨f0, f1, hu, ⟨o0, t0⟩, ⟨o1, t1⟩⟩ := fieldsSibs
  obtain ⟨xs, m, -, hxy, hvl, hxl, hfl⟩ := DataW.trod_struct hu hf
  obtain ⟨x0, x1, rfl⟩ := list2 xs (by simpa using hxl)
  have g0 := hfl 0 f0 rfl
  have g1 := hfl 1 f1 rfl
  rw [o0, t0, cellsV] at g0
  rw [o1, t1, cellsL] at g1
  simp at g0 g1
  obtain ⟨f, e, hr⟩ := vec_cells g0
  simp only [List.cons.injEq, and_true] at e
  obtain ⟨rfl, rfl, rfl, rfl, rfl, rfl, rfl, rfl⟩ := e
  obtain ⟨a, len, cap, rfl⟩ : ∃ a len cap, c8 = .slice a len cap := by
    rcases Go.Deep.open_slice Try.underlying33 g1 with ⟨hcs, -⟩ | ⟨x, l, c, m, n, D, Pl, hcs, -⟩
    · simp at hcs; exact ⟨_, _, _, hcs⟩
    · simp at hcs; exact ⟨_, _, _, hcs⟩
  simp only [Prod.mk.injEq] at hxy
  obtain ⟨rfl, -⟩ := hxy
  obtain ⟨l, rfl, hrow⟩ := row_of g1 (fun n hn => hz n (by
    simp only [DataW.weights, hu]
    exact DataW.weights_mem_each (j := 1) (t := 33) (d := x1.1) (by simp [t1]) rfl _ hn))
  exact ⟨nrm f, a, cap, l, rfl, hrow, nrm_ok f⟩
set_option maxRecDepth 100000 in
/-- The ten cells of an entry. -/
theorem ent_cells {W : World} {fuel : Nat} {vs : List Value} {d : DataW HH} {pl : List MemPlace}
    (hf : DataW.trod enc Try.prog W 0 (fun _ => true) true fuel 37 vs = some (d, pl)) (hz : ∀ n ∈ d.weights Try.prog 37, n ≤ reachBytes) :
    ∃ e : E, vs = ecs e ∧ e.key.size ≤ maxLen ∧ Row W e.a e.cap e.l ∧ Nrm e.f := by
  obtain ⟨f0, f1, hu, ⟨o0, t0⟩, ⟨o1, t1⟩⟩ := fieldsEntry
  obtain ⟨xs, m, -, hxy, hvl, hxl, hfl⟩ := DataW.trod_struct hu hf
  rw [cellsEn] at hvl
  obtain ⟨c, c0, c1, c2, c3, c4, c5, c6, c7, c8, rfl⟩ := list10 vs hvl
  obtain ⟨x0, x1, rfl⟩ := list2 xs (by simpa using hxl)
  have g0 := hfl 0 f0 rfl
  have g1 := hfl 1 f1 rfl
  rw [o0, t0, cells9] at g0
  rw [o1, t1, cellsS] at g1
  simp at g0 g1
  obtain ⟨s, hs, -, hsz⟩ := DataW.trod_string Try.underlying9 g0
  simp at hs
  subst hs
  simp only [Prod.mk.injEq] at hxy
  obtain ⟨rfl, -⟩ := hxy
  obtain ⟨f, a, cap, l, e, hrow, hnr⟩ := sibs_cells g1 (fun n hn => hz n (by
    simp only [DataW.weights, hu]
    exact DataW.weights_mem_each (j := 1) (t := 35) (d := x1.1) (by simp [t1]) rfl _ hn))
  simp only [List.cons.injEq, and_true] at e
  obtain ⟨rfl, rfl, rfl, rfl, rfl, rfl, rfl, rfl, rfl⟩ := e
  exact ⟨⟨s, f, a, cap, l⟩, rfl, hsz, hrow, hnr⟩
set_option maxRecDepth 100000 in
/-- The eleven cells of a hint. -/
theorem hint_cells {W : World} {fuel : Nat} {vs : List Value} {d : DataW HH} {pl : List MemPlace}
    (hf : DataW.trod enc Try.prog W 0 (fun _ => true) true fuel 39 vs = some (d, pl)) (hz : ∀ n ∈ d.weights Try.prog 39, n ≤ reachBytes) :
    ∃ h : H, vs = hcs h ∧ Row W h.e.a h.e.cap h.e.l ∧ Nrm h.e.f := by
  obtain ⟨f0, f1, hu, ⟨o0, t0⟩, ⟨o1, t1⟩⟩ := fieldsHint
  obtain ⟨xs, m, -, hxy, hvl, hxl, hfl⟩ := DataW.trod_struct hu hf
  rw [cellsHi] at hvl
  obtain ⟨y0, y1, y2, y3, y4, y5, y6, y7, y8, y9, y10, rfl⟩ := list11 vs hvl
  obtain ⟨x0, x1, rfl⟩ := list2 xs (by simpa using hxl)
  have g0 := hfl 0 f0 rfl
  have g1 := hfl 1 f1 rfl
  rw [o0, t0, cells3] at g0
  rw [o1, t1, cellsEn] at g1
  simp at g0 g1
  obtain ⟨n, hn⟩ : ∃ n : Int, y0 = .int .i64 n := by
    obtain ⟨n, hn, -⟩ := DataW.trod_int Try.underlying3 g0
    simp at hn
    exact ⟨n, hn⟩
  subst hn
  simp only [Prod.mk.injEq] at hxy
  obtain ⟨rfl, -⟩ := hxy
  obtain ⟨e, he, -, hrow, hnr⟩ := ent_cells g1 (fun n hn => hz n (by
    simp only [DataW.weights, hu]
    exact DataW.weights_mem_each (j := 1) (t := 37) (d := x1.1) (by simp [t1]) rfl _ hn))
  refine ⟨⟨n, e⟩, ?_, hrow, hnr⟩
  rw [he]
  rfl
set_option maxRecDepth 100000 in
/-- The cells of a call. -/
theorem call_cells {W : World} {fuel : Nat} {vs : List Value} {d : DataW HH} {pl : List MemPlace}
    (hf : DataW.trod enc Try.prog W 0 (fun _ => true) true fuel 41 vs = some (d, pl)) (hz : ∀ n ∈ d.weights Try.prog 41, n ≤ reachBytes) :
    ∃ c : C, vs = ccs c ∧ Row W c.h.e.a c.h.e.cap c.h.e.l ∧ Nrm c.h.e.f ∧ Row W c.a c.cap c.l ∧ Nrm c.f := by
  obtain ⟨f0, f1, f2, hu, ⟨o0, t0⟩, ⟨o1, t1⟩, ⟨o2, t2⟩⟩ := fieldsCall
  obtain ⟨xs, m, -, hxy, hvl, hxl, hfl⟩ := DataW.trod_struct hu hf
  rw [cellsCa] at hvl
  obtain ⟨y0, y1, y2, y3, y4, y5, y6, y7, y8, y9, y10, y11, y12, y13, y14, y15, y16, y17, y18, y19, y20, rfl⟩ := list21 vs hvl
  obtain ⟨x0, x1, x2, rfl⟩ := list3 xs (by simpa using hxl)
  have g0 := hfl 0 f0 rfl
  have g1 := hfl 1 f1 rfl
  have g2 := hfl 2 f2 rfl
  rw [o0, t0, cells3] at g0
  rw [o1, t1, cellsHi] at g1
  rw [o2, t2, cellsS] at g2
  simp at g0 g1 g2
  obtain ⟨n, hn⟩ : ∃ n : Int, y0 = .int .i64 n := by
    obtain ⟨n, hn, -⟩ := DataW.trod_int Try.underlying3 g0
    simp at hn
    exact ⟨n, hn⟩
  subst hn
  simp only [Prod.mk.injEq] at hxy
  obtain ⟨rfl, -⟩ := hxy
  obtain ⟨h, he, hrow, hnr⟩ := hint_cells g1 (fun n hn => hz n (by
    simp only [DataW.weights, hu]
    exact DataW.weights_mem_each (j := 1) (t := 39) (d := x1.1) (by simp [t1]) rfl _ hn))
  obtain ⟨f, a, cap, l, e2, hrow2, hnr2⟩ := sibs_cells g2 (fun n hn => hz n (by
    simp only [DataW.weights, hu]
    exact DataW.weights_mem_each (j := 2) (t := 35) (d := x2.1) (by simp [t2]) rfl _ hn))
  simp only [hcs, List.cons.injEq, and_true] at he e2
  obtain ⟨rfl, rfl, rfl, rfl, rfl, rfl, rfl, rfl, rfl, rfl, rfl⟩ := he
  obtain ⟨rfl, rfl, rfl, rfl, rfl, rfl, rfl, rfl, rfl⟩ := e2
  exact ⟨⟨n, h, f, a, cap, l⟩, rfl, hrow, hnr, hrow2, hnr2⟩
set_option maxRecDepth 100000 in
/-- A hint that came in. -/
theorem argH {W : World} {base fuel : Nat} {v : Value} {d : DataW HH} {pl : List MemPlace}
    (hv : Value.okWide Try.prog W .any base 39 v) (hf : DataW.trod enc Try.prog W 0 (fun _ => true) true fuel 39 v.cells.toList = some (d, pl)) (hz : ∀ n ∈ d.weights Try.prog 39, n ≤ reachBytes) :
    ∃ h : H, v = .agg (hcs h).toArray ∧ Row W h.e.a h.e.cap h.e.l ∧ Nrm h.e.f := by
  obtain ⟨cs, rfl, hs, hok⟩ : ∃ cs, v = .agg cs ∧ cs.size = Try.prog.cellsOf 39 ∧ Row.okWide Try.prog W .any base 39 cs := by
    simpa [Value.okWide, Try.underlying39] using hv
  obtain ⟨e, h1, h2, h3⟩ := hint_cells (vs := cs.toList) hf hz
  refine ⟨e, ?_, h2, h3⟩
  rw [← h1, Array.toArray_toList]
set_option maxRecDepth 100000 in
/-- Sibs that came in. -/
theorem argN {W : World} {base fuel : Nat} {v : Value} {d : DataW HH} {pl : List MemPlace}
    (hv : Value.okWide Try.prog W .any base 35 v) (hf : DataW.trod enc Try.prog W 0 (fun _ => true) true fuel 35 v.cells.toList = some (d, pl)) (hz : ∀ n ∈ d.weights Try.prog 35, n ≤ reachBytes) :
    ∃ (f : Nat → Int) (a : Option Addr) (cap : Nat) (l : List V), v = .agg #[.int .i64 (f 0), .int .i64 (f 1), .int .i64 (f 2), .int .i64 (f 3), .int .i64 (f 4), .int .i64 (f 5), .int .i64 (f 6), .int .i64 (f 7), .slice a l.length cap] ∧ Row W a cap l ∧ Nrm f := by
  obtain ⟨f, a, cap, l, rfl, -, hr⟩ := argS hv hf hz
  exact ⟨nrm f, a, cap, l, rfl, hr, nrm_ok f⟩
/-- A slice of calls that came in. -/
theorem argC {w : World} {fuel : Nat} {a : Option Addr} {len cap : Nat} {d : DataW HH} {pl : List MemPlace} (h : DataW.trod enc Try.prog w 0 (fun _ => true) true fuel 22 [.slice a len cap] = some (d, pl)) (hz : ∀ n ∈ d.weights Try.prog 22, n ≤ reachBytes) :
    ∃ es : List C, es.length = len ∧ Cas w a cap es ∧ ∀ e ∈ es, Nrm e.h.e.f ∧ Nrm e.f := by
  rcases Go.Deep.open_slice Try.underlying22 h with ⟨hcs, -⟩ | ⟨x, l, c, m, n, D, Pl, hcs, -, hl, hm, hmm, hx, hel⟩
  · simp at hcs
    obtain ⟨rfl, rfl, rfl⟩ := hcs
    exact ⟨[], rfl, Cas.nil w none 0 (by omega), fun e he => by simp at he⟩
  · simp at hcs
    obtain ⟨rfl, rfl, rfl⟩ := hcs
    simp only [if_true] at hmm
    unfold maxLen at hm
    simp only [Prod.mk.injEq] at hx
    obtain ⟨rfl, -⟩ := hx
    have each : ∀ i, i < len → ∃ e : C, ∃ b off, x.add (i * 21) = ⟨b, off, none⟩ ∧ (∀ j u, (ccs e)[j]? = some u → w.cell? ⟨b, off + j, none⟩ = some u) ∧ (Nrm e.h.e.f ∧ Nrm e.f) ∧ Row w e.h.e.a e.h.e.cap e.h.e.l ∧ Row w e.a e.cap e.l := by
      intro i hi
      obtain ⟨vs, hv, ht⟩ := hel i (by omega)
      rw [cellsCa] at hv
      obtain ⟨-, hvl, hcell⟩ := World.cells?_some hv
      obtain ⟨e, rfl, hr1, hn1, hr2, hn2⟩ := call_cells ht (fun n hn => hz n (by
          simp only [DataW.weights, Try.underlying22, List.mem_cons, List.mem_append]
          exact .inr (.inl (weights_all (List.mem_map.2 ⟨i, List.mem_range.2 hi, rfl⟩) n hn))))
      have hc : ∀ k v, (ccs e)[k]? = some v → w.cell? ((x.add (i * 21)).add k) = some v := fun k v hk => by
        have : k < 21 := by
          obtain ⟨h, -⟩ := List.getElem?_eq_some_iff.1 hk
          rwa [ccs_len] at h
        rw [hcell k this]
        exact hk
      generalize x.add (i * 21) = y at hc ⊢
      obtain ⟨b, off, spot⟩ := y
      have k0 := hc 0 _ rfl
      have hspot : spot = none := by simpa [Addr.add] using World.cell?_spot k0
      subst hspot
      exact ⟨e, b, off, rfl, fun j u hj => by have := hc j u hj; rwa [add_lit] at this, ⟨hn1, hn2⟩, hr1, hr2⟩
    haveI : Inhabited C := ⟨⟨0, ⟨0, ⟨⟨#[]⟩, zer, none, 0, []⟩⟩, zer, none, 0, []⟩⟩
    obtain ⟨vs, hv⟩ := Go.Deep.choose_lt each
    refine ⟨(List.range len).map vs, by simp, ⟨by simp; omega, by omega, fun i u hi => ?_⟩, fun e he => ?_⟩
    · have hlt : i < len := by
        obtain ⟨h, -⟩ := List.getElem?_eq_some_iff.1 hi
        simpa using h
      simp [hlt] at hi
      subst hi
      obtain ⟨b0, off0, e0, -⟩ := hv 0 (by omega)
      obtain ⟨b, off, e, hk, -, hok⟩ := hv i hlt
      simp only [Nat.zero_mul] at e0
      obtain ⟨bx, ox, sx⟩ := x
      have e0' : (⟨bx, ox, sx⟩ : Addr) = ⟨b0, off0, none⟩ := by simpa [Addr.add] using e0
      simp only [Addr.mk.injEq] at e0'
      obtain ⟨rfl, rfl, rfl⟩ := e0'
      rw [add_lit] at e
      simp only [Addr.mk.injEq, and_true] at e
      obtain ⟨rfl, rfl⟩ := e
      exact ⟨bx, ox, rfl, hk, hok⟩
    · simp only [List.mem_map, List.mem_range] at he
      obtain ⟨i, hi, rfl⟩ := he
      obtain ⟨_, _, _, _, h, _⟩ := hv i hi
      exact h
end
end Go.Proofs.Ytfhacfedklaaiaa
