/- The program's Suspect and Tick. -/
import Derived.Test.YtakijikehpblfaaVh16
namespace Go.Proofs.Ytakijikehpblfaa
set_option maxRecDepth 100000
open Go.RowKit

/-- Suspect. -/
def susB (d : VD) (k : Int) : Bool := othB d.n d.self k && decide ((d.m k.toNat).1 = 0)
def susD (d : VD) (k : Int) : VD := if susB d k = true then holdD d k.toNat (1, (d.m k.toNat).2) else d
theorem suspect_any {p : Nat} {d : VD} (k : Int) {w : World} (h : Vw p d w) :
    Calls Try.prog 20 #[.pointer (some ⟨p, 0, none⟩), .int .i64 k] w fun e w' => e = .returned (.bool (susB d k)) ∧ Vw p (susD d k) w' ∧ Off (fun c => c = p) w w' := by
  have HV : Hid _ := h
  have H1 : Hid _ := other_any k h
  have hn := h.n8
  clear h
  cases hh : othB d.n d.self k
  · rw [hh] at H1
    have HB : Hid (susB d k = false) := by show _ = _; unfold susB; rw [hh]; rfl
    have HD : Hid (susD d k = d) := if_neg (by rw [HB.out]; simp)
    clear hh
    go_enter Try.func20, Try.ntmps20
    go_wp2_with fail
    refine Calls.mono H1.out ?_
    rintro e w2 ⟨rfl, hw⟩
    rw [hw]
    clear hw w2
    go_wp2_with fail
    go_ret
    rw [HD.out, HB.out]
    exact ⟨rfl, HV.out, Off.refl _ w⟩
  · rw [hh] at H1
    obtain ⟨i, rfl, hi, -⟩ := othB_of hh
    have x0 := HV.out.m0 hi
    have x1 := HV.out.m1 hi
    have hi8 : (i : Int) < 8 := by omega
    by_cases hs : (d.m i).1 = 0
    · have HB : Hid (susB d (i : Int) = true) := by show _ = _; unfold susB; rw [hh, Int.toNat_natCast]; simp [hs]
      have HD : Hid (susD d (i : Int) = holdD d i (1, (d.m i).2)) := by show _ = _; unfold susD; rw [if_pos HB.out, Int.toNat_natCast]
      have HC : Hid _ := hold_any hi (1, (d.m i).2) HV.out
      have hE : eqM (d.m i).1 (d.m i).2 1 (d.m i).2 = false := by rw [hs]; simp [eqM]
      rw [hE] at HC
      rw [hs] at x0
      have e0 : ((0 : Int) != 0) = false := rfl
      clear hh hs hE
      generalize (d.m i).2 = y at *
      go_enter Try.func20, Try.ntmps20
      go_wp2_with fail
      refine Calls.mono H1.out ?_
      rintro e w2 ⟨rfl, hw⟩
      rw [hw]
      clear hw w2
      go_wp2_with fail
      refine Calls.mono HC.out ?_
      rintro e w2 ⟨rfl, v2, o2⟩
      have HV2 : Hid _ := v2
      have HO2 : Hid _ := o2
      clear v2 o2
      go_wp2_with fail
      go_ret
      rw [HD.out, HB.out]
      exact ⟨rfl, HV2.out, HO2.out⟩
    · have HB : Hid (susB d (i : Int) = false) := by show _ = _; unfold susB; rw [hh, Int.toNat_natCast]; simp [hs]
      have HD : Hid (susD d (i : Int) = d) := if_neg (by rw [HB.out]; simp)
      have e0 : ((d.m i).1 != 0) = true := by simp [hs]
      clear hh hs
      generalize (d.m i).1 = s at *
      go_enter Try.func20, Try.ntmps20
      go_wp2_with fail
      refine Calls.mono H1.out ?_
      rintro e w2 ⟨rfl, hw⟩
      rw [hw]
      clear hw w2
      go_wp2_with fail
      go_ret
      rw [HD.out, HB.out]
      exact ⟨rfl, HV.out, Off.refl _ w⟩
theorem suspect_nil (k : Int) (w : World) : Calls Try.prog 20 #[.pointer none, .int .i64 k] w fun e w' => e = .returned (.bool false) ∧ w' = w := by
  have H1 : Hid _ := other_nil k w
  go_enter Try.func20, Try.ntmps20
  go_wp2_with fail
  refine Calls.mono H1.out ?_
  rintro e w2 ⟨rfl, hw⟩
  rw [hw]
  clear hw w2
  go_wp2_with fail
  go_ret
  exact ⟨rfl, rfl⟩

/-- A Tick at i. -/
def tkB (d : VD) (i : Nat) : Bool := decide ((d.m i).1 = 1 ∧ d.age i = 5)
def tickS (d : VD) (i : Nat) : VD := if tkB d i = true then holdD (oldD d i) i (2, (d.m i).2) else oldD d i
/-- A Tick at the first k. -/
def tickK (d : VD) : Nat → VD
  | 0 => d
  | k + 1 => tickS (tickK d k) k
def tickN (d : VD) : Nat → Nat
  | 0 => 0
  | k + 1 => tickN d k + if tkB (tickK d k) k = true then 1 else 0
theorem holdD_n (d : VD) (i : Nat) (x : Int × Int) : (holdD d i x).n = d.n ∧ (holdD d i x).self = d.self ∧ (holdD d i x).op = d.op := by unfold holdD; split <;> exact ⟨rfl, rfl, rfl⟩
theorem oldD_n (d : VD) (i : Nat) : (oldD d i).n = d.n ∧ (oldD d i).self = d.self ∧ (oldD d i).op = d.op ∧ (oldD d i).m = d.m := by unfold oldD; split <;> exact ⟨rfl, rfl, rfl, rfl⟩
theorem holdD_m (d : VD) (i : Nat) (x : Int × Int) (j : Nat) : (holdD d i x).m j = if j = i then x else d.m j := by
  unfold holdD
  split
  · rename_i h
    split
    · rename_i e; rw [e, h]
    · rfl
  · rfl
theorem holdD_age (d : VD) (i : Nat) (x : Int × Int) (j : Nat) : (holdD d i x).age j = if j = i ∧ d.m i ≠ x then 0 else d.age j := by
  unfold holdD
  split
  · rename_i h
    rw [if_neg (fun e => e.2 h)]
  · rename_i h
    show upd d.age i 0 j = _
    unfold upd
    by_cases e : j = i <;> simp [e, h]
theorem oldD_age (d : VD) (i : Nat) (j : Nat) : (oldD d i).age j = if j = i ∧ (d.m i).1 = 1 then d.age i + 1 else d.age j := by
  unfold oldD
  split
  · rename_i h
    show upd d.age i _ j = _
    unfold upd
    by_cases e : j = i <;> simp [e, h]
  · rename_i h
    rw [if_neg (fun e => h e.2)]
theorem tickS_n (d : VD) (i : Nat) : (tickS d i).n = d.n ∧ (tickS d i).self = d.self ∧ (tickS d i).op = d.op := by
  unfold tickS
  have h1 := oldD_n d i
  split
  · have h2 := holdD_n (oldD d i) i (2, (d.m i).2)
    exact ⟨h2.1.trans h1.1, h2.2.1.trans h1.2.1, h2.2.2.trans h1.2.2.1⟩
  · exact ⟨h1.1, h1.2.1, h1.2.2.1⟩
theorem tickS_m (d : VD) (i j : Nat) : (tickS d i).m j = if j = i ∧ tkB d i = true then (2, (d.m i).2) else d.m j := by
  unfold tickS
  split
  · rename_i h
    rw [holdD_m, (oldD_n d i).2.2.2]
    by_cases e : j = i <;> simp [e, h]
  · rename_i h
    rw [(oldD_n d i).2.2.2, if_neg (fun e => h e.2)]
theorem tickS_age (d : VD) (i j : Nat) : (tickS d i).age j = if j = i ∧ (d.m i).1 = 1 then (if d.age i = 5 then 0 else d.age i + 1) else d.age j := by
  unfold tickS
  split
  · rename_i h
    have h' := of_decide_eq_true h
    rw [holdD_age, (oldD_n d i).2.2.2, oldD_age]
    have hne : d.m i ≠ (2, (d.m i).2) := fun e => by have := congrArg Prod.fst e; simp at this; omega
    by_cases e : j = i
    · subst e; simp [h'.1, h'.2, hne]
    · simp [e]
  · rename_i h
    rw [oldD_age]
    have h' : ¬ ((d.m i).1 = 1 ∧ d.age i = 5) := fun e => h (decide_eq_true e)
    by_cases e : j = i ∧ (d.m i).1 = 1
    · rw [if_pos e, if_pos e, if_neg (fun e5 => h' ⟨e.2, e5⟩)]
    · rw [if_neg e, if_neg e]
theorem tickK_n (d : VD) (k : Nat) : (tickK d k).n = d.n ∧ (tickK d k).self = d.self ∧ (tickK d k).op = d.op := by
  induction k with
  | zero => exact ⟨rfl, rfl, rfl⟩
  | succ k ih =>
    have h := tickS_n (tickK d k) k
    exact ⟨h.1.trans ih.1, h.2.1.trans ih.2.1, h.2.2.trans ih.2.2⟩
theorem tickK_hi (d : VD) (k : Nat) : ∀ j, k ≤ j → (tickK d k).m j = d.m j ∧ (tickK d k).age j = d.age j := by
  induction k with
  | zero => exact fun j _ => ⟨rfl, rfl⟩
  | succ k ih =>
    intro j hj
    have h := ih j (by omega)
    constructor
    · show (tickS (tickK d k) k).m j = _
      rw [tickS_m, if_neg (by omega), h.1]
    · show (tickS (tickK d k) k).age j = _
      rw [tickS_age, if_neg (by omega), h.2]
theorem tickN_le (d : VD) (k : Nat) : tickN d k ≤ k := by
  induction k with
  | zero => exact Nat.le_refl _
  | succ k ih => unfold tickN; split <;> omega
/-- A Tick. -/
def tickD (d : VD) : VD := tickK d d.n
theorem tick_any {p : Nat} {d : VD} (ha : ∀ i, i < d.n → 0 ≤ d.age i ∧ d.age i ≤ 1000000) {w : World} (h : Vw p d w) :
    Calls Try.prog 21 #[.pointer (some ⟨p, 0, none⟩)] w fun e w' => e = .returned (.int .i64 (tickN d d.n : Nat)) ∧ Vw p (tickD d) w' ∧ Off (fun c => c = p) w w' := by
  have HV : Hid _ := h
  have HA : Hid _ := ha
  have c0 := h.c0
  have hn := h.n8
  have HTD : Hid (tickD d = tickK d d.n) := rfl
  clear h ha
  generalize hnn : d.n = n at *
  have HN : Hid (d.n = n) := hnn
  clear hnn
  go_enter Try.func21, Try.ntmps21
  go_wp2_with fail
  go_loopw [3, 11] (fun s3 s11 wr => ∃ k : Nat, s3 = .int .i64 (tickN d k : Nat) ∧ s11 = .int .i64 (k : Int) ∧ k ≤ n ∧ Vw p (tickK d k) wr ∧ Off (fun c => c = p) w wr) (fun _ i _ => ((n : Int) - intOf i).toNat)
  case atStart => exact ⟨0, rfl, rfl, by omega, HV.out, Off.refl _ w⟩
  case round =>
    obtain ⟨k, rfl, rfl, hk, v, o⟩ := hrel
    have HW : Hid _ := v
    have HO : Hid _ := o
    have hle := tickN_le d k
    clear v o
    by_cases hlt : k < n
    · have hkd : Hid (k < (tickK d k).n) := by show _ < _; rw [(tickK_n d k).1, HN.out]; exact hlt
      have HC : Hid _ := older_any hkd.out (by rw [(tickK_hi d k k (Nat.le_refl _)).2]; exact HA.out k hlt) HW.out
      cases hb : tkB (tickK d k) k
      · have HB : Hid (tickN d (k + 1) = tickN d k) := by show _ = _; simp only [tickN, hb]; rfl
        have HD : Hid (tickK d (k + 1) = oldD (tickK d k) k) := by show tickS _ _ = _; unfold tickS; rw [hb]; rfl
        unfold tkB at hb
        rw [hb] at HC
        clear hb
        generalize tickN d k = N at *
        go_wp2_with fail
        refine Calls.mono HC.out ?_
        rintro e w2 ⟨rfl, v2, o2⟩
        have HV2 : Hid _ := v2
        have HO2 : Hid _ := HO.out.trans o2 (fun _ _ h => h)
        clear v2 o2
        go_wp2_with fail
        go_roundw
        case rel => exact ⟨k + 1, by rw [HB.out], by go_num, by omega, by rw [HD.out]; exact HV2.out, HO2.out⟩
        case measure => simp [intOf]; omega
      · have HB : Hid (tickN d (k + 1) = tickN d k + 1) := by show _ = _; simp only [tickN, hb]; rfl
        have HD : Hid (tickK d (k + 1) = holdD (oldD (tickK d k) k) k (2, ((tickK d k).m k).2)) := by show tickS _ _ = _; unfold tickS; rw [hb]; rfl
        have hb1 := (of_decide_eq_true hb).1
        unfold tkB at hb
        rw [hb] at HC
        clear hb
        have HEQ : Hid (eqM ((tickK d k).m k).1 ((tickK d k).m k).2 2 ((tickK d k).m k).2 = false) := by show _ = _; rw [hb1]; simp [eqM]
        have HM : Hid ((oldD (tickK d k) k).m = (tickK d k).m) := (oldD_n _ _).2.2.2
        have hko : Hid (k < (oldD (tickK d k) k).n) := by show _ < _; rw [(oldD_n _ _).1]; exact hkd.out
        clear hb1
        generalize tickN d k = N at *
        go_wp2_with fail
        refine Calls.mono HC.out ?_
        rintro e w2 ⟨rfl, v2, o2⟩
        have HO2 : Hid _ := HO.out.trans o2 (fun _ _ h => h)
        have x1 := v2.m1 hko.out
        have HC2 : Hid _ := hold_any hko.out (2, ((tickK d k).m k).2) v2
        rw [HM.out] at x1 HC2
        rw [HEQ.out] at HC2
        have hk8 : (k : Int) < 8 := by omega
        clear v2 o2
        generalize ((tickK d k).m k).2 = y at *
        go_wp2_with fail
        refine Calls.mono HC2.out ?_
        rintro e w3 ⟨rfl, v3, o3⟩
        have HV3 : Hid _ := v3
        have HO3 : Hid _ := HO2.out.trans o3 (fun _ _ h => h)
        clear v3 o3
        go_wp2_with fail
        go_roundw
        case rel => exact ⟨k + 1, by rw [HB.out]; go_num, by go_num, by omega, by rw [HD.out]; exact HV3.out, HO3.out⟩
        case measure => simp [intOf]; omega
    · obtain rfl : k = n := by omega
      go_wp2_with fail
      go_ret
      exact ⟨rfl, HTD.out ▸ HW.out, HO.out⟩
theorem tick_nil (w : World) : Calls Try.prog 21 #[.pointer none] w fun e w' => e = .returned (.int .i64 0) ∧ w' = w := by
  go_enter Try.func21, Try.ntmps21
  go_wp2_with fail
  go_ret
  exact ⟨rfl, rfl⟩
end Go.Proofs.Ytakijikehpblfaa
