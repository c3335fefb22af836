/- The walk of TableBuckets. -/
import Derived.Test.YtbagahlphnafdaaJns
import Derived.Test.YtbagahlphnafdaaArg10
import Derived.Deep.Cut
namespace Go.Proofs.Ytbagahlphnafdaa
open Go.RowKit

/-- How many keys lie in the buckets below. -/
def cum (X : List K) (n : Nat) : Nat := (X.filter fun e => decide (bkt (tx e.key) < n)).length
theorem cum_zero (X : List K) : cum X 0 = 0 := by
  unfold cum
  rw [List.filter_eq_nil_iff.2 (fun x _ => by simp)]
  rfl
theorem cum_le (X : List K) (n : Nat) : cum X n ≤ X.length := List.length_filter_le _ _
theorem cum_four (X : List K) : cum X 4 = X.length := by
  unfold cum
  rw [List.filter_eq_self.2 (fun x _ => decide_eq_true (bkt_lt _))]
theorem cum_step : ∀ (X : List K) (n : Nat), cum X (n + 1) = cum X n + (X.filter fun e => decide (((bkt (tx e.key) : Nat) : Int) = (n : Int))).length
  | [], n => rfl
  | x :: X, n => by
    have ih := cum_step X n
    unfold cum at ih ⊢
    rw [List.filter_cons, List.filter_cons, List.filter_cons]
    by_cases h1 : bkt (tx x.key) < n
    · have h2 : ¬ ((bkt (tx x.key) : Nat) : Int) = (n : Int) := by omega
      rw [if_pos (decide_eq_true (by omega)), if_pos (decide_eq_true h1), if_neg (by simp [h2])]
      simp only [List.length_cons]
      omega
    · by_cases h2 : bkt (tx x.key) = n
      · rw [if_pos (decide_eq_true (by omega)), if_neg (by simp [h1]), if_pos (decide_eq_true (by rw [h2]))]
        simp only [List.length_cons]
        omega
      · have h3 : ¬ ((bkt (tx x.key) : Nat) : Int) = (n : Int) := by omega
        rw [if_neg (by simp; omega), if_neg (by simp [h1]), if_neg (by simp [h3])]
        exact ih
theorem less_kb (a b : ByteArray) : Op.bytesLess a.toList b.toList = blt a b := by
  rw [toL, toL]
  unfold blt kb
  generalize a.data.toList = x
  generalize b.data.toList = y
  induction x generalizing y with
  | nil => cases y <;> rfl
  | cons c x ih =>
    cases y with
    | nil => rfl
    | cons d y =>
      show (_ || _) = (_ || _)
      rw [ih]
theorem geq_str {a b : ByteArray} (h : Op.bytesLess a.toList b.toList = true) (t : TypeId) (w : World) : (binOp .geq t (.string a) (.string b)).run Try.prog w = .ok (.bool false) w := by
  simp [binOp, Op.stringOp, h]
theorem rise {X : List K} (hs : Sor K.key X) {f : K → Bool} {rs r2 : List E} (h : absE rs = X.filter f) (he : absE r2 = absE rs) {i : Nat} {x y : E} (hy : r2[i - 1]? = some y) (hx : rs[i]? = some x) (hi : 0 < i) : blt y.key x.key = true := by
  have hs2 : Sor K.key (absE rs) := by rw [h]; exact List.Pairwise.sublist List.filter_sublist hs
  have h1 : (absE rs)[i]? = some x.abs := by simp [absE, hx]
  have h2 : (absE rs)[i - 1]? = some y.abs := by rw [← he]; simp [absE, hy]
  obtain ⟨l1, e1⟩ := List.getElem?_eq_some_iff.1 h1
  obtain ⟨l2, e2⟩ := List.getElem?_eq_some_iff.1 h2
  have := List.pairwise_iff_getElem.1 hs2 (i - 1) i l2 l1 (by omega)
  rw [e1, e2] at this
  exact this
theorem exec_bin10 {P : Program} {ρ : Operand → Value} {o : Oper} {op : BinOp} {t t2 : TypeId} {x y : Operand} {v : Value} {w : World} (ho : o.op = .binOp op t x y t2) (hg : (eqGuard op t x y (ρ x) (ρ y)).run P w = .ok () w) (h : (binOp op t (ρ x) (ρ y)).run P w = .ok v w) : Sem.run P (execOp ρ o) w = .ok (.value v) w := by
  have e : execOp ρ o = (do pure (.value (← (do eqGuard op t x y (ρ x) (ρ y); binOp op t (ρ x) (ρ y))))) := by unfold execOp; rw [ho]
  rw [e, Sem.run_bind, Sem.run_bind, hg]
  show (((binOp op t (ρ x) (ρ y)).run P w).andThen _) = _
  rw [h]
  rfl
set_option maxRecDepth 100000 in
set_option maxHeartbeats 4000000 in
theorem buckets_walk (a : Option Addr) (cap : Nat) (es : List E) (w : World) (hE : Ens w a cap es) (_ : ∀ e ∈ es, e.key.size ≤ maxLen) :
    Calls Try.prog 8 #[.slice a es.length cap] w fun e w' => e = .returned (.bool true) ∧ Off (fun _ => False) w w' := by
  have hnot := not_any
  have HE : Hid _ := hE
  clear hE
  cases hl : lightE es
  · go_enter Try.func8, Try.ntmps8
    go_wp2_with fail
    refine (light_any a cap es w HE.out).mono ?_
    rw [hl]
    rintro e w1 ⟨rfl, o1⟩
    go_wp2_with fail
    refine (awake_any _).mono ?_
    rintro e va ⟨rfl, oa⟩
    go_wp2_with fail
    go_ret
    exact ⟨rfl, o1.trans oa (fun _ _ h => h)⟩
  · have H60 : Hid (es.length ≤ 60) := (light_iff.1 hl).1
    go_enter Try.func8, Try.ntmps8
    go_wp2_with fail
    refine (light_any a cap es w HE.out).mono ?_
    rw [hl]
    rintro e w1 ⟨rfl, o1⟩
    go_wp2_with fail
    refine (tnew_any _).mono ?_
    rintro e w2 ⟨p, b, rfl, tb, hp, hb, o2⟩
    have HB : Hid (w.heap.size ≤ b) := Nat.le_trans o1.size hb
    have HT0 : Hid _ := tb
    have HO0 : Hid _ := o1.trans o2 (fun _ _ h => h)
    clear tb hp hb o1 o2 hl
    go_wp2_with fail
    go_loopw [17] (fun y wr => ∃ (n : Nat) (t : List E), y = .int .i64 (n : Int) ∧ n ≤ es.length ∧ absE t = joins [] (es.take n) ∧ Tab p b t wr ∧ Off (fun _ => False) w wr) (fun y _ => (es.length - intOf y).toNat)
    case atStart => exact ⟨0, [], rfl, by omega, rfl, HT0.out, HO0.out⟩
    case round =>
      obtain ⟨n, t, rfl, hn, hj, ht, O⟩ := hrel
      have HJ : Hid _ := hj
      have HT : Hid _ := ht
      have HO : Hid _ := O

      have h60 := H60.out
      clear hj ht O
      by_cases hlt : n < es.length
      · have e1 : decide ((n : Int) < (es.length : Int)) = true := decide_eq_true (by omega)
        have e2 : decide (n < es.length) = true := decide_eq_true hlt
        obtain ⟨x, hx⟩ : ∃ x, es[n]? = some x := ⟨_, List.getElem?_eq_getElem hlt⟩
        have hE := HE.out.off HO.out
        obtain ⟨bx, ox, rfl, kx, rx⟩ := hE.at_ n x hx
        obtain ⟨k0, k1, k2, k3, k4, k5, k6, k7, k8, k9⟩ := ent10 kx
        have hix := idx_ents hlt
        have HRX : Hid _ := rx
        clear kx rx
        clear hE
        go_upto_region 7 with fail
        have Cq7 := Cel.new wr 37 #[.string x.key, .int .i64 (x.f 0), .int .i64 (x.f 1), .int .i64 (x.f 2), .int .i64 (x.f 3), .int .i64 (x.f 4), .int .i64 (x.f 5), .int .i64 (x.f 6), .int .i64 (x.f 7), .slice x.a x.l.length x.cap]
        have OA : Off (fun _ => False) wr (wr.alloc (.cells #[.string x.key, .int .i64 (x.f 0), .int .i64 (x.f 1), .int .i64 (x.f 2), .int .i64 (x.f 3), .int .i64 (x.f 4), .int .i64 (x.f 5), .int .i64 (x.f 6), .int .i64 (x.f 7), .slice x.a x.l.length x.cap] 37)) := (Off.refl _ wr).alloc _
        generalize hq : wr.heap.size = q7 at Cq7 ⊢
        generalize hv : wr.alloc (.cells #[.string x.key, .int .i64 (x.f 0), .int .i64 (x.f 1), .int .i64 (x.f 2), .int .i64 (x.f 3), .int .i64 (x.f 4), .int .i64 (x.f 5), .int .i64 (x.f 6), .int .i64 (x.f 7), .slice x.a x.l.length x.cap] 37) = V7 at Cq7 OA ⊢
        clear hq hv
        clear k0 k1 k2 k3 k4 k5 k6 k7 k8 k9 hix
        obtain ⟨x0, x1, x2, x3, x4, x5, x6, x7, x8, x9⟩ := cel10 Cq7
        have HTV : Hid _ := HT.out.free OA
        have HRV : Hid _ := HRX.out.off OA
        have HOV : Hid _ := HO.out.trans OA (fun _ _ h => h)
        have HOA : Hid _ := OA
        clear OA Cq7
        go_wp2_with fail
        clear x0 x1 x2 x3 x4 x5 x6 x7 x8 x9
        refine (tjoin_any p b t x.key x.f x.a x.cap x.l _ HTV.out HRV.out).mono ?_
        rintro e w3 ⟨g, a', c', l', sm, er, t', rfl, hj, -, -, tb, o3⟩
        have HJ3 : Hid (absE t' = jo (absE t) x) := (congrArg JR.x hj).symm
        have HT3 : Hid _ := tb
        have HO3 : Hid _ := HOV.out.trans o3 (fun i hi e => by have := HB.out; omega)
        have HO3' : Hid _ := o3
        clear hj tb o3
        go_wp2_with fail
        go_roundw
        case rel =>
          refine ⟨n + 1, t', by go_num, by omega, ?_, HT3.out, HO3.out⟩
          rw [joins_step [] hx, HJ3.out, HJ.out]
        case measure => simp [intOf]; omega
      · obtain rfl : n = es.length := by omega
        have e1 : decide ((es.length : Int) < (es.length : Int)) = false := decide_eq_false (by omega)
        have e2 : decide (es.length < es.length) = false := decide_eq_false (by omega)
        rw [joins_all] at HJ
        have HOK : Hid (OkT (absE t)) := by show OkT _; rw [HJ.out]; exact okT_joins okT_nil es
        have HF : Hid (t.length ≤ 256) := HT.out.few
        go_wp2_with fail
        go_loopw [6, 25] (fun y z wr => ∃ bb : Nat, y = .int .i64 ((cum (absE t) bb : Nat) : Int) ∧ z = .int .i64 (bb : Int) ∧ bb ≤ 4 ∧ Off (fun _ => False) w wr ∧ Tab p b t wr) (fun _ z _ => (4 - intOf z).toNat)
        case atStart => exact ⟨0, by rw [cum_zero]; rfl, rfl, by omega, HO.out, HT.out⟩
        case round =>
          clear HT HO
          obtain ⟨bb, rfl, rfl, hb4, O, ht⟩ := hrel
          have HT2 : Hid _ := ht
          have HO2 : Hid _ := O
          clear ht O
          have hcm0 : cum (absE t) bb ≤ 256 := by have h1 := cum_le (absE t) bb; rw [absE_len] at h1; have := HF.out; omega
          by_cases hlt : bb < 4
          · have e1 : decide ((bb : Int) < 4) = true := decide_eq_true (by omega)
            have e2 : decide (bb < 4) = true := decide_eq_true hlt
            go_wp2_with fail
            refine (tbucket_any p b t (bb : Int) _ HT2.out (okT_few HOK.out rfl)).mono ?_
            rintro e w4 ⟨ar, cr, rs, rfl, hrs, ogr, rwr, -, o4⟩
            have HRS : Hid _ := hrs
            have HEN : Hid _ := ogr.ens rwr
            have HT4 : Hid _ := HT2.out.free o4
            have HO4 : Hid _ := HO2.out.trans o4 (fun _ _ h => h)
            have HST : Hid (cum (absE t) (bb + 1) = cum (absE t) bb + rs.length) := by show _ = _; rw [cum_step, ← hrs, absE_len]
            have HCM : Hid (cum (absE t) bb + rs.length ≤ 256) := by
              have h1 := cum_le (absE t) (bb + 1)
              rw [absE_len, HST.out] at h1
              have := HF.out
              show _ ≤ _
              omega
            have HRL : Hid (rs.length ≤ 256) := by have := HCM.out; show _ ≤ _; omega
            clear hrs ogr rwr o4
            go_wp2_with fail
            go_loopw [6, 32] (fun y z wr => ∃ i : Nat, y = .int .i64 ((cum (absE t) bb + i : Nat) : Int) ∧ z = .int .i64 (i : Int) ∧ i ≤ rs.length ∧ Off (fun _ => False) w4 wr) (fun _ z _ => (rs.length - intOf z).toNat)
            case atStart => exact ⟨0, rfl, rfl, by omega, Off.refl _ _⟩
            case round =>
              obtain ⟨i, rfl, rfl, hn, O⟩ := hrel
              have HO5 : Hid _ := O
              clear O
              have hrl := HRL.out
              have hcm := HCM.out
              by_cases hlt : i < rs.length
              · have e1 : decide ((i : Int) < (rs.length : Int)) = true := decide_eq_true (by omega)
                have e2 : decide (i < rs.length) = true := decide_eq_true hlt
                obtain ⟨x, hx⟩ : ∃ x, rs[i]? = some x := ⟨_, List.getElem?_eq_getElem hlt⟩
                have hE := HEN.out.off HO5.out
                obtain ⟨bx, ox, rfl, kx, rx⟩ := hE.at_ i x hx
                obtain ⟨k0, k1, k2, k3, k4, k5, k6, k7, k8, k9⟩ := ent10 kx
                have hix := idx_ents hlt
                have HRX : Hid _ := rx
                clear kx rx
                clear hE
                go_upto_region 16 with fail
                have Cq9 := Cel.new wr 37 #[.string x.key, .int .i64 (x.f 0), .int .i64 (x.f 1), .int .i64 (x.f 2), .int .i64 (x.f 3), .int .i64 (x.f 4), .int .i64 (x.f 5), .int .i64 (x.f 6), .int .i64 (x.f 7), .slice x.a x.l.length x.cap]
                have OA : Off (fun _ => False) wr (wr.alloc (.cells #[.string x.key, .int .i64 (x.f 0), .int .i64 (x.f 1), .int .i64 (x.f 2), .int .i64 (x.f 3), .int .i64 (x.f 4), .int .i64 (x.f 5), .int .i64 (x.f 6), .int .i64 (x.f 7), .slice x.a x.l.length x.cap] 37)) := (Off.refl _ wr).alloc _
                generalize hq : wr.heap.size = q9 at Cq9 ⊢
                generalize hv : wr.alloc (.cells #[.string x.key, .int .i64 (x.f 0), .int .i64 (x.f 1), .int .i64 (x.f 2), .int .i64 (x.f 3), .int .i64 (x.f 4), .int .i64 (x.f 5), .int .i64 (x.f 6), .int .i64 (x.f 7), .slice x.a x.l.length x.cap] 37) = V9 at Cq9 OA ⊢
                clear hq hv
                clear k0 k1 k2 k3 k4 k5 k6 k7 k8 k9 hix
                have HQ9 : Hid _ := Cq9
                have HO9 : Hid _ := HO5.out.trans OA (fun _ _ h => h)
                have HTV : Hid _ := HT4.out.free HO9.out
                clear OA Cq9
                have hxm : x.abs ∈ (absE t).filter (fun e : K => decide (((bkt (tx e.key) : Nat) : Int) = (bb : Int))) := by rw [← HRS.out]; exact List.mem_map.2 ⟨x, List.mem_of_getElem? hx, rfl⟩
                rw [List.mem_filter] at hxm
                have HBB : Hid ((((bkt (tx x.key) : Nat) : Int) != (bb : Int)) = false) := by
                  have h1 : ((bkt (tx x.key) : Nat) : Int) = (bb : Int) := of_decide_eq_true hxm.2
                  show _ = false
                  rw [h1]
                  simp
                have HXK : Hid (x.key.size ≤ 32) := by
                  have h1 := HOK.out.key x.abs hxm.1
                  simp only [keyB, Bool.and_eq_true, decide_eq_true_eq] at h1
                  exact h1.2
                clear hxm
                go_wp2_with fail
                refine wp_region_held_drew (S := fun w' => Off (fun _ => False) V9 w') (by kernel_rfl) ((Off.refl _ V9).drew) (fun hS => ?_)
                by_cases hpos : 0 < i
                · have p1 : decide ((0 : Int) < (i : Int)) = true := decide_eq_true (by omega)
                  have p2 : decide (0 < i) = true := decide_eq_true hpos
                  refine take_at (i := 0) 37 (v := .pointer (some ⟨q9, 0, none⟩)) rfl rfl (by kernel_rfl) (by kernel_rfl) (by kernel_rfl) (fun _ _ _ h => h) (Or.inl ⟨by rfl, fun w' hw' => by go_simp⟩) hS ?_
                  simp only [Act.put, List.setIfInBounds_toArray, List.set_cons_zero, List.set_cons_succ]
                  refine take_at (i := 1) 38 (v := .string x.key) rfl rfl (by kernel_rfl) (by kernel_rfl) (by kernel_rfl) (fun _ _ _ h => h) (Or.inl ⟨by rfl, fun w' hw' => by obtain ⟨x0, x1, x2, x3, x4, x5, x6, x7, x8, x9⟩ := cel10 (HQ9.out.off hw' (fun h => h)); go_simp⟩) hS ?_
                  simp only [Act.put, List.setIfInBounds_toArray, List.set_cons_zero, List.set_cons_succ]
                  refine take_at (i := 3) 40 (v := .int .i64 (bb : Int)) rfl rfl (by kernel_rfl) (by kernel_rfl) (by kernel_rfl) (fun _ _ _ h => h) (Or.inl ⟨by rfl, fun w' hw' => by go_simp⟩) hS ?_
                  simp only [Act.put, List.setIfInBounds_toArray, List.set_cons_zero, List.set_cons_succ]
                  refine wpAnyH_ready (rs := [2]) (by kernel_rfl) (by simp) ?_
                  refine AllReadyH.cons rfl (fun K' hK' => ?_) AllReadyH.nil
                  go_simp
                  refine (rbucket_any x.key (by have := HXK.out; omega) _).mono ?_
                  rintro e v1 ⟨rfl, hv1⟩
                  rw [hv1]
                  refine hK'.out _ _ hS (fun hS => ?_)
                  clear hK' K' hv1 v1
                  refine take_at (i := 4) 41 (v := .bool false) rfl rfl (by kernel_rfl) (by kernel_rfl) (by kernel_rfl) (fun _ _ _ h => h) (Or.inl ⟨by rfl, fun w' hw' => by have e := HBB.out; go_simp⟩) hS ?_
                  simp only [Act.put, List.setIfInBounds_toArray, List.set_cons_zero, List.set_cons_succ]
                  refine take_at (i := 5) 42 (v := .bool false) rfl rfl (by kernel_rfl) (by kernel_rfl) (by kernel_rfl) (fun _ _ _ h => h) (Or.inl ⟨by rfl, fun w' hw' => by go_simp⟩) hS ?_
                  simp only [Act.put, List.setIfInBounds_toArray, List.set_cons_zero, List.set_cons_succ]
                  refine take_at (i := 6) 43 (v := .int .i64 (i : Int)) rfl rfl (by kernel_rfl) (by kernel_rfl) (by kernel_rfl) (fun _ _ _ h => h) (Or.inl ⟨by rfl, fun w' hw' => by go_simp⟩) hS ?_
                  simp only [Act.put, List.setIfInBounds_toArray, List.set_cons_zero, List.set_cons_succ]
                  refine take_at (i := 7) 44 (v := .bool true) rfl rfl (by kernel_rfl) (by kernel_rfl) (by kernel_rfl) (fun _ _ _ h => h) (Or.inl ⟨by rfl, fun w' hw' => by go_simp⟩) hS ?_
                  simp only [Act.put, List.setIfInBounds_toArray, List.set_cons_zero, List.set_cons_succ]
                  refine take_at (i := 8) 45 (v := .bool true) rfl rfl (by kernel_rfl) (by kernel_rfl) (by kernel_rfl) (fun _ _ _ h => h) (Or.inl ⟨by rfl, fun w' hw' => by go_simp⟩) hS ?_
                  simp only [Act.put, List.setIfInBounds_toArray, List.set_cons_zero, List.set_cons_succ]
                  refine take_at (i := 9) 46 (v := .pointer (some ⟨p, 0, none⟩)) rfl rfl (by kernel_rfl) (by kernel_rfl) (by kernel_rfl) (fun _ _ _ h => h) (Or.inl ⟨by rfl, fun w' hw' => by go_simp⟩) hS ?_
                  simp only [Act.put, List.setIfInBounds_toArray, List.set_cons_zero, List.set_cons_succ]
                  refine take_at (i := 10) 47 (v := .int .i64 (bb : Int)) rfl rfl (by kernel_rfl) (by kernel_rfl) (by kernel_rfl) (fun _ _ _ h => h) (Or.inl ⟨by rfl, fun w' hw' => by go_simp⟩) hS ?_
                  simp only [Act.put, List.setIfInBounds_toArray, List.set_cons_zero, List.set_cons_succ]
                  have HSUB : Hid (((i - 1 : Nat) : Int) = (i : Int) - 1) := by show _ = _; omega
                  refine take_at (i := 12) 49 (v := .int .i64 (i : Int)) rfl rfl (by kernel_rfl) (by kernel_rfl) (by kernel_rfl) (fun _ _ _ h => h) (Or.inl ⟨by rfl, fun w' hw' => by go_simp⟩) hS ?_
                  simp only [Act.put, List.setIfInBounds_toArray, List.set_cons_zero, List.set_cons_succ]
                  refine take_at (i := 13) 50 (v := .int .i64 ((i - 1 : Nat) : Int)) rfl rfl (by kernel_rfl) (by kernel_rfl) (by kernel_rfl) (fun _ _ _ h => h) (Or.inl ⟨by rfl, fun w' hw' => by rw [HSUB.out]; go_simp; rw [IntKind.wrap_i64]; omega⟩) hS ?_
                  simp only [Act.put, List.setIfInBounds_toArray, List.set_cons_zero, List.set_cons_succ]
                  refine take_at (i := 17) 54 (v := .pointer (some ⟨q9, 0, none⟩)) rfl rfl (by kernel_rfl) (by kernel_rfl) (by kernel_rfl) (fun _ _ _ h => h) (Or.inl ⟨by rfl, fun w' hw' => by go_simp⟩) hS ?_
                  simp only [Act.put, List.setIfInBounds_toArray, List.set_cons_zero, List.set_cons_succ]
                  refine take_at (i := 18) 55 (v := .string x.key) rfl rfl (by kernel_rfl) (by kernel_rfl) (by kernel_rfl) (fun _ _ _ h => h) (Or.inl ⟨by rfl, fun w' hw' => by obtain ⟨x0, x1, x2, x3, x4, x5, x6, x7, x8, x9⟩ := cel10 (HQ9.out.off hw' (fun h => h)); go_simp⟩) hS ?_
                  simp only [Act.put, List.setIfInBounds_toArray, List.set_cons_zero, List.set_cons_succ]
                  refine wpAnyH_ready (rs := [11]) (by kernel_rfl) (by simp) ?_
                  refine AllReadyH.cons rfl (fun K' hK' => ?_) AllReadyH.nil
                  go_simp
                  refine (tbucket_any p b t (bb : Int) _ (HTV.out.free hS) (okT_few HOK.out rfl)).mono ?_
                  rintro e v2 ⟨a2, c2, r2, rfl, h2, og2, rw2, -, o2⟩
                  have hS2 := hS.trans o2 (fun _ _ h => h)
                  refine hK'.out _ _ hS2 (fun hS => ?_)
                  clear hK' K' hS2
                  have HEQ2 : Hid (absE r2 = absE rs) := by show _ = _; rw [h2, HRS.out]
                  have hl2 : r2.length = rs.length := by have h3 := congrArg List.length HEQ2.out; rw [absE_len, absE_len] at h3; exact h3
                  obtain ⟨y, hy⟩ : ∃ y, r2[i - 1]? = some y := ⟨_, List.getElem?_eq_getElem (by omega)⟩
                  obtain ⟨b2, o2x, rfl, k2, -⟩ := (og2.ens rw2).at_ (i - 1) y hy
                  have HK0 : Hid _ := (ent10 k2).1
                  have HLS : Hid (Op.bytesLess y.key.toList x.key.toList = true) := by show _ = true; rw [less_kb]; exact rise (abs_sor.2 HTV.out.sor) HRS.out HEQ2.out hy hx hpos
                  have hr2l : i - 1 < r2.length := by omega
                  clear h2 og2 rw2 o2 k2 hy
                  refine take_at (i := 14) 51 (v := .pointer (some ⟨b2, o2x + (i - 1) * 10, none⟩)) rfl rfl (by kernel_rfl) (by kernel_rfl) (by kernel_rfl) (fun _ _ _ h => h) (Or.inl ⟨by rfl, fun w' hw' => exec_idx10 rfl (idx_ents hr2l c2 b2 o2x w')⟩) hS ?_
                  simp only [Act.put, List.setIfInBounds_toArray, List.set_cons_zero, List.set_cons_succ]
                  refine take_at (i := 15) 52 (v := .pointer (some ⟨b2, o2x + (i - 1) * 10, none⟩)) rfl rfl (by kernel_rfl) (by kernel_rfl) (by kernel_rfl) (fun _ _ _ h => h) (Or.inl ⟨by rfl, fun w' hw' => by go_simp⟩) hS ?_
                  simp only [Act.put, List.setIfInBounds_toArray, List.set_cons_zero, List.set_cons_succ]
                  have k0 := HK0.out
                  refine wpAnyH_ready (rs := [16]) (by kernel_rfl) (by simp) ?_
                  refine AllReadyH.cons rfl (fun K' hK' => ?_) AllReadyH.nil
                  go_simp
                  refine hK'.out _ _ hS (fun hS => ?_)
                  clear hK' K'
                  refine take_at (i := 19) 56 (v := .bool false) rfl rfl (by kernel_rfl) (by kernel_rfl) (by kernel_rfl) (fun _ _ _ h => h) (Or.inl ⟨by rfl, fun w' hw' => exec_bin10 rfl (by go_simp) (geq_str HLS.out _ w')⟩) hS ?_
                  simp only [Act.put, List.setIfInBounds_toArray, List.set_cons_zero, List.set_cons_succ]
                  refine take_at (i := 20) 57 (v := .bool false) rfl rfl (by kernel_rfl) (by kernel_rfl) (by kernel_rfl) (fun _ _ _ h => h) (Or.inl ⟨by rfl, fun w' hw' => by go_simp⟩) hS ?_
                  simp only [Act.put, List.setIfInBounds_toArray, List.set_cons_zero, List.set_cons_succ]
                  refine take_at (i := 21) 58 (v := .bool false) rfl rfl (by kernel_rfl) (by kernel_rfl) (by kernel_rfl) (fun _ _ _ h => h) (Or.inl ⟨by rfl, fun w' hw' => by go_simp⟩) hS ?_
                  simp only [Act.put, List.setIfInBounds_toArray, List.set_cons_zero, List.set_cons_succ]
                  refine wpAnyH_done (by kernel_rfl) ?_ _
                  have HOE : Hid _ := hS
                  clear hS
                  go_wp2_with fail
                  go_roundw
                  case rel => exact ⟨i + 1, by go_num, by go_num, by omega, HO9.out.trans HOE.out (fun _ _ h => h)⟩
                  case measure => simp [intOf]; omega
                · have p1 : decide ((0 : Int) < (i : Int)) = false := decide_eq_false (by omega)
                  have p2 : decide (0 < i) = false := decide_eq_false hpos
                  refine take_at (i := 0) 37 (v := .pointer (some ⟨q9, 0, none⟩)) rfl rfl (by kernel_rfl) (by kernel_rfl) (by kernel_rfl) (fun _ _ _ h => h) (Or.inl ⟨by rfl, fun w' hw' => by go_simp⟩) hS ?_
                  simp only [Act.put, List.setIfInBounds_toArray, List.set_cons_zero, List.set_cons_succ]
                  refine take_at (i := 1) 38 (v := .string x.key) rfl rfl (by kernel_rfl) (by kernel_rfl) (by kernel_rfl) (fun _ _ _ h => h) (Or.inl ⟨by rfl, fun w' hw' => by obtain ⟨x0, x1, x2, x3, x4, x5, x6, x7, x8, x9⟩ := cel10 (HQ9.out.off hw' (fun h => h)); go_simp⟩) hS ?_
                  simp only [Act.put, List.setIfInBounds_toArray, List.set_cons_zero, List.set_cons_succ]
                  refine take_at (i := 3) 40 (v := .int .i64 (bb : Int)) rfl rfl (by kernel_rfl) (by kernel_rfl) (by kernel_rfl) (fun _ _ _ h => h) (Or.inl ⟨by rfl, fun w' hw' => by go_simp⟩) hS ?_
                  simp only [Act.put, List.setIfInBounds_toArray, List.set_cons_zero, List.set_cons_succ]
                  refine wpAnyH_ready (rs := [2]) (by kernel_rfl) (by simp) ?_
                  refine AllReadyH.cons rfl (fun K' hK' => ?_) AllReadyH.nil
                  go_simp
                  refine (rbucket_any x.key (by have := HXK.out; omega) _).mono ?_
                  rintro e v1 ⟨rfl, hv1⟩
                  rw [hv1]
                  refine hK'.out _ _ hS (fun hS => ?_)
                  clear hK' K' hv1 v1
                  refine take_at (i := 4) 41 (v := .bool false) rfl rfl (by kernel_rfl) (by kernel_rfl) (by kernel_rfl) (fun _ _ _ h => h) (Or.inl ⟨by rfl, fun w' hw' => by have e := HBB.out; go_simp⟩) hS ?_
                  simp only [Act.put, List.setIfInBounds_toArray, List.set_cons_zero, List.set_cons_succ]
                  refine take_at (i := 5) 42 (v := .bool false) rfl rfl (by kernel_rfl) (by kernel_rfl) (by kernel_rfl) (fun _ _ _ h => h) (Or.inl ⟨by rfl, fun w' hw' => by go_simp⟩) hS ?_
                  simp only [Act.put, List.setIfInBounds_toArray, List.set_cons_zero, List.set_cons_succ]
                  refine take_at (i := 6) 43 (v := .int .i64 (i : Int)) rfl rfl (by kernel_rfl) (by kernel_rfl) (by kernel_rfl) (fun _ _ _ h => h) (Or.inl ⟨by rfl, fun w' hw' => by go_simp⟩) hS ?_
                  simp only [Act.put, List.setIfInBounds_toArray, List.set_cons_zero, List.set_cons_succ]
                  refine take_at (i := 7) 44 (v := .bool false) rfl rfl (by kernel_rfl) (by kernel_rfl) (by kernel_rfl) (fun _ _ _ h => h) (Or.inl ⟨by rfl, fun w' hw' => by go_simp⟩) hS ?_
                  simp only [Act.put, List.setIfInBounds_toArray, List.set_cons_zero, List.set_cons_succ]
                  refine take_at (i := 8) 45 (v := .bool false) rfl rfl (by kernel_rfl) (by kernel_rfl) (by kernel_rfl) (fun _ _ _ h => h) (Or.inl ⟨by rfl, fun w' hw' => by go_simp⟩) hS ?_
                  simp only [Act.put, List.setIfInBounds_toArray, List.set_cons_zero, List.set_cons_succ]
                  refine take_at (i := 9) 46 (v := undef) rfl rfl (by kernel_rfl) (by kernel_rfl) (by kernel_rfl) (fun _ _ _ h => h) (Or.inr ⟨by rfl, rfl⟩) hS ?_
                  simp only [Act.put, List.setIfInBounds_toArray, List.set_cons_zero, List.set_cons_succ]
                  refine take_at (i := 10) 47 (v := undef) rfl rfl (by kernel_rfl) (by kernel_rfl) (by kernel_rfl) (fun _ _ _ h => h) (Or.inr ⟨by rfl, rfl⟩) hS ?_
                  simp only [Act.put, List.setIfInBounds_toArray, List.set_cons_zero, List.set_cons_succ]
                  refine take_at (i := 11) 48 (v := undef) rfl rfl (by kernel_rfl) (by kernel_rfl) (by kernel_rfl) (fun _ _ _ h => h) (Or.inr ⟨by rfl, rfl⟩) hS ?_
                  simp only [Act.put, List.setIfInBounds_toArray, List.set_cons_zero, List.set_cons_succ]
                  refine take_at (i := 12) 49 (v := undef) rfl rfl (by kernel_rfl) (by kernel_rfl) (by kernel_rfl) (fun _ _ _ h => h) (Or.inr ⟨by rfl, rfl⟩) hS ?_
                  simp only [Act.put, List.setIfInBounds_toArray, List.set_cons_zero, List.set_cons_succ]
                  refine take_at (i := 13) 50 (v := undef) rfl rfl (by kernel_rfl) (by kernel_rfl) (by kernel_rfl) (fun _ _ _ h => h) (Or.inr ⟨by rfl, rfl⟩) hS ?_
                  simp only [Act.put, List.setIfInBounds_toArray, List.set_cons_zero, List.set_cons_succ]
                  refine take_at (i := 14) 51 (v := undef) rfl rfl (by kernel_rfl) (by kernel_rfl) (by kernel_rfl) (fun _ _ _ h => h) (Or.inr ⟨by rfl, rfl⟩) hS ?_
                  simp only [Act.put, List.setIfInBounds_toArray, List.set_cons_zero, List.set_cons_succ]
                  refine take_at (i := 15) 52 (v := undef) rfl rfl (by kernel_rfl) (by kernel_rfl) (by kernel_rfl) (fun _ _ _ h => h) (Or.inr ⟨by rfl, rfl⟩) hS ?_
                  simp only [Act.put, List.setIfInBounds_toArray, List.set_cons_zero, List.set_cons_succ]
                  refine take_at (i := 16) 53 (v := undef) rfl rfl (by kernel_rfl) (by kernel_rfl) (by kernel_rfl) (fun _ _ _ h => h) (Or.inr ⟨by rfl, rfl⟩) hS ?_
                  simp only [Act.put, List.setIfInBounds_toArray, List.set_cons_zero, List.set_cons_succ]
                  refine take_at (i := 17) 54 (v := undef) rfl rfl (by kernel_rfl) (by kernel_rfl) (by kernel_rfl) (fun _ _ _ h => h) (Or.inr ⟨by rfl, rfl⟩) hS ?_
                  simp only [Act.put, List.setIfInBounds_toArray, List.set_cons_zero, List.set_cons_succ]
                  refine take_at (i := 18) 55 (v := undef) rfl rfl (by kernel_rfl) (by kernel_rfl) (by kernel_rfl) (fun _ _ _ h => h) (Or.inr ⟨by rfl, rfl⟩) hS ?_
                  simp only [Act.put, List.setIfInBounds_toArray, List.set_cons_zero, List.set_cons_succ]
                  refine take_at (i := 19) 56 (v := undef) rfl rfl (by kernel_rfl) (by kernel_rfl) (by kernel_rfl) (fun _ _ _ h => h) (Or.inr ⟨by rfl, rfl⟩) hS ?_
                  simp only [Act.put, List.setIfInBounds_toArray, List.set_cons_zero, List.set_cons_succ]
                  refine take_at (i := 20) 57 (v := .bool false) rfl rfl (by kernel_rfl) (by kernel_rfl) (by kernel_rfl) (fun _ _ _ h => h) (Or.inl ⟨by rfl, fun w' hw' => by go_simp⟩) hS ?_
                  simp only [Act.put, List.setIfInBounds_toArray, List.set_cons_zero, List.set_cons_succ]
                  refine take_at (i := 21) 58 (v := .bool false) rfl rfl (by kernel_rfl) (by kernel_rfl) (by kernel_rfl) (fun _ _ _ h => h) (Or.inl ⟨by rfl, fun w' hw' => by go_simp⟩) hS ?_
                  simp only [Act.put, List.setIfInBounds_toArray, List.set_cons_zero, List.set_cons_succ]
                  refine wpAnyH_done (by kernel_rfl) ?_ _
                  have HOE : Hid _ := hS
                  clear hS
                  go_wp2_with fail
                  go_roundw
                  case rel => exact ⟨i + 1, by go_num, by go_num, by omega, HO9.out.trans HOE.out (fun _ _ h => h)⟩
                  case measure => simp [intOf]; omega
              · obtain rfl : i = rs.length := by omega
                have e1 : decide ((rs.length : Int) < (rs.length : Int)) = false := decide_eq_false (by omega)
                have e2 : decide (rs.length < rs.length) = false := decide_eq_false (by omega)
                go_wp2_with fail
                go_roundw
                case rel => exact ⟨bb + 1, by rw [HST.out], by go_num, by omega, HO4.out.trans HO5.out (fun _ _ h => h), HT4.out.free HO5.out⟩
                case measure => simp [intOf]; omega
          · obtain rfl : bb = 4 := by omega
            go_wp2_with fail
            refine (tlen_any p b t _ HT2.out).mono ?_
            rintro e w6 ⟨rfl, hw6⟩
            rw [hw6]
            clear hw6 w6
            have hq : (((cum (absE t) 4 : Nat) : Int) == (t.length : Int)) = true := by rw [cum_four, absE_len]; simp
            go_wp2_with fail
            refine (awake_any _).mono ?_
            rintro e va ⟨rfl, oa⟩
            go_wp2_with fail
            go_ret
            exact ⟨rfl, HO2.out.trans oa (fun _ _ h => h)⟩
end Go.Proofs.Ytbagahlphnafdaa
