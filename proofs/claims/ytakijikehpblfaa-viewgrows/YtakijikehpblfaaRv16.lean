/- The reference's view. -/
import Derived.Test.YtakijikehpblfaaThv16
import Derived.Test.YtakijikehpblfaaIr16
import Derived.BigQuiet
namespace Go.Proofs.Ytakijikehpblfaa
set_option maxRecDepth 100000
open Go.RowKit

theorem Cel.ne {b b' : Nat} {t t' : TypeId} {cs cs' : Array Value} {w : World} (h : Cel b t cs w) (k : Cel b' t' cs' w) (ht : t ≠ t') : b ≠ b' := fun e => by
  subst e
  have := h.is.symm.trans k.is
  simp at this
  exact ht this.2
/-- The reference's view at block q: its rows a, b, c. -/
structure RVw (q a b c : Nat) (d : VD) (w : World) : Prop where
  cel : Cel q 37 #[.int .i64 (d.self : Int), .slice (some ⟨a, 0, none⟩) d.n d.n, .slice (some ⟨b, 0, none⟩) d.n d.n, .slice (some ⟨c, 0, none⟩) d.n d.n] w
  m : MRow a d.n d.m w
  age : IRow b d.n d.age w
  op : IRow c d.n d.op w
  bc : b ≠ c
  n8 : d.n ≤ 8
  self : d.self < d.n
theorem RVw.qa {q a b c : Nat} {d : VD} {w : World} (h : RVw q a b c d w) : q ≠ a ∧ q ≠ b ∧ q ≠ c ∧ a ≠ b ∧ a ≠ c := by
  obtain ⟨c1, k1, -⟩ := h.m.is
  obtain ⟨c2, k2, -⟩ := h.age.is
  obtain ⟨c3, k3, -⟩ := h.op.is
  exact ⟨h.cel.ne k1 (by decide), h.cel.ne k2 (by decide), h.cel.ne k3 (by decide), k1.ne k2 (by decide), k1.ne k3 (by decide)⟩
theorem RVw.off {D : Nat → Prop} {q a b c : Nat} {d : VD} {w w' : World} (h : RVw q a b c d w) (k : Off D w w') (hD : ¬ D q ∧ ¬ D a ∧ ¬ D b ∧ ¬ D c) : RVw q a b c d w' :=
  ⟨h.cel.off k hD.1, h.m.off k hD.2.1, h.age.off k hD.2.2.1, h.op.off k hD.2.2.2, h.bc, h.n8, h.self⟩
theorem RVw.drew {q a b c : Nat} {d : VD} {w : World} (h : RVw q a b c d w) : RVw q a b c d w.drew := h.off ((Off.refl (fun _ => False) w).drew) ⟨fun h => h, fun h => h, fun h => h, fun h => h⟩
theorem RVw.c0 {q a b c : Nat} {d : VD} {w : World} (h : RVw q a b c d w) : w.cell? ⟨q, 0, none⟩ = some (.int .i64 (d.self : Int)) := h.cel.cell 0
theorem RVw.c1 {q a b c : Nat} {d : VD} {w : World} (h : RVw q a b c d w) : w.cell? ⟨q, 1, none⟩ = some (.slice (some ⟨a, 0, none⟩) d.n d.n) := h.cel.cell 1
theorem RVw.c2 {q a b c : Nat} {d : VD} {w : World} (h : RVw q a b c d w) : w.cell? ⟨q, 2, none⟩ = some (.slice (some ⟨b, 0, none⟩) d.n d.n) := h.cel.cell 2
theorem RVw.c3 {q a b c : Nat} {d : VD} {w : World} (h : RVw q a b c d w) : w.cell? ⟨q, 3, none⟩ = some (.slice (some ⟨c, 0, none⟩) d.n d.n) := h.cel.cell 3
/-- A write into the members. -/
theorem RVw.setm {q a b c : Nat} {d : VD} {w w' : World} (h : RVw q a b c d w) (o : Off (fun k => k = a) w w') {f : Nat → Mb} (hm : MRow a d.n f w') : RVw q a b c { d with m := f } w' :=
  ⟨h.cel.off o h.qa.1, hm, h.age.off o h.qa.2.2.2.1.symm, h.op.off o h.qa.2.2.2.2.symm, h.bc, h.n8, h.self⟩
theorem RVw.setage {q a b c : Nat} {d : VD} {w w' : World} (h : RVw q a b c d w) (o : Off (fun k => k = b) w w') {f : Nat → Int} (hm : IRow b d.n f w') : RVw q a b c { d with age := f } w' :=
  ⟨h.cel.off o h.qa.2.1, h.m.off o h.qa.2.2.2.1, hm, h.op.off o h.bc.symm, h.bc, h.n8, h.self⟩
theorem RVw.setop {q a b c : Nat} {d : VD} {w w' : World} (h : RVw q a b c d w) (o : Off (fun k => k = c) w w') {f : Nat → Int} (hm : IRow c d.n f w') : RVw q a b c { d with op := f } w' :=
  ⟨h.cel.off o h.qa.2.2.1, h.m.off o h.qa.2.2.2.2, h.age.off o h.bc, hm, h.bc, h.n8, h.self⟩
theorem off1 {a b c k : Nat} {w w' : World} (o : Off (fun x => x = k) w w') (hk : k = a ∨ k = b ∨ k = c) : Off (fun x => x = a ∨ x = b ∨ x = c) w w' := o.mono (fun _ _ e => by rcases hk with h | h | h <;> omega)

theorem rother_any {q a b c : Nat} {d : VD} (k : Int) {w : World} (h : RVw q a b c d w) : Calls Try.prog 40 #[.pointer (some ⟨q, 0, none⟩), .int .i64 k] w fun e w' => e = .returned (.bool (othB d.n d.self k)) ∧ w' = w := by
  have c0 := h.c0
  have c1 := h.c1
  clear h
  by_cases h1 : 0 ≤ k
  · by_cases h2 : k < (d.n : Int)
    · have e2 : decide (k < (d.n : Int)) = true := decide_eq_true h2
      have hb : othB d.n d.self k = decide (k ≠ (d.self : Int)) := decide_eq_decide.2 ⟨fun h => h.2.2, fun h => ⟨h1, h2, h⟩⟩
      rw [hb]
      by_cases h3 : k = (d.self : Int)
      · rw [decide_eq_false (fun e => e h3)]
        rw [← h3] at c0
        clear hb h3
        go_enter Try.func40, Try.ntmps40
        go_wp2_with fail
        go_ret
        exact ⟨rfl, rfl⟩
      · rw [decide_eq_true h3]
        have e3 : (k != (d.self : Int)) = true := by simp [h3]
        clear hb
        go_enter Try.func40, Try.ntmps40
        go_wp2_with fail
        go_ret
        exact ⟨rfl, rfl⟩
    · have e2 : decide (k < (d.n : Int)) = false := decide_eq_false h2
      have hb : othB d.n d.self k = false := decide_eq_false (fun h => h2 h.2.1)
      rw [hb]
      clear hb
      go_enter Try.func40, Try.ntmps40
      go_wp2_with fail
      go_ret
      exact ⟨rfl, rfl⟩
  · have hb : othB d.n d.self k = false := decide_eq_false (fun h => h1 h.1)
    rw [hb]
    clear hb
    go_enter Try.func40, Try.ntmps40
    go_wp2_with fail
    go_ret
    exact ⟨rfl, rfl⟩
theorem rstate_any {q a b c : Nat} {d : VD} (k : Int) {w : World} (h : RVw q a b c d w) : Calls Try.prog 14 #[.pointer (some ⟨q, 0, none⟩), .int .i64 k] w fun e w' => e = .returned (.int .i64 (if hasB d.n k = true then (d.m k.toNat).1 else 2)) ∧ w' = w := by
  have HV : Hid _ := h
  have c1 := h.c1
  clear h
  cases hh : hasB d.n k
  · rw [if_neg (by simp)]
    by_cases h1 : 0 ≤ k
    · have h2 : (d.n : Int) ≤ k := by
        have h := of_decide_eq_false hh
        omega
      clear hh
      go_enter Try.func14, Try.ntmps14
      go_wp2_with fail
      go_ret
      exact ⟨rfl, rfl⟩
    · clear hh
      go_enter Try.func14, Try.ntmps14
      go_wp2_with fail
      go_ret
      exact ⟨rfl, rfl⟩
  · obtain ⟨i, rfl, hi⟩ := hasB_of hh
    have x0 := HV.out.m.m0 hi
    rw [if_pos rfl, Int.toNat_natCast]
    generalize (d.m i).1 = x at *
    have hi' : (i : Int) < (d.n : Int) := by omega
    go_enter Try.func14, Try.ntmps14
    go_wp2_with fail
    go_ret
    exact ⟨rfl, rfl⟩
theorem rmissed_any {q a b c : Nat} {d : VD} (k : Int) {w : World} (h : RVw q a b c d w) : Calls Try.prog 31 #[.pointer (some ⟨q, 0, none⟩), .int .i64 k] w fun e w' => e = .returned (.int .i64 (if othB d.n d.self k = true then d.op k.toNat else 0)) ∧ w' = w := by
  have HV : Hid _ := h
  have H1 : Hid _ := rother_any k h
  have c3 := h.c3
  clear h
  cases hh : othB d.n d.self k
  · rw [hh] at H1
    rw [if_neg (by simp)]
    go_enter Try.func31, Try.ntmps31
    go_wp2_with fail
    refine Calls.mono H1.out ?_
    rintro e w2 ⟨rfl, hw⟩
    rw [hw]
    clear hw w2
    go_wp2_with fail
    go_ret
    exact ⟨rfl, rfl⟩
  · rw [hh] at H1
    obtain ⟨i, rfl, hi, -⟩ := othB_of hh
    have x0 := HV.out.op.at_ hi
    rw [if_pos rfl, Int.toNat_natCast]
    generalize d.op i = x at *
    clear hh
    go_enter Try.func31, Try.ntmps31
    go_wp2_with fail
    refine Calls.mono H1.out ?_
    rintro e w2 ⟨rfl, hw⟩
    rw [hw]
    clear hw w2
    go_wp2_with fail
    go_ret
    exact ⟨rfl, rfl⟩
theorem rasked_any {q a b c : Nat} {d : VD} (k : Int) (ho : ∀ i, i < d.n → -9223372036854775808 ≤ d.op i ∧ d.op i < 9223372036854775807) {w : World} (h : RVw q a b c d w) :
    Calls Try.prog 29 #[.pointer (some ⟨q, 0, none⟩), .int .i64 k] w fun e w' => e = .returned (.tuple #[]) ∧ RVw q a b c (askD d k) w' ∧ Off (fun k => k = a ∨ k = b ∨ k = c) w w' := by
  have HV : Hid _ := h
  have H1 : Hid _ := rother_any k h
  have c3 := h.c3
  clear h
  cases hh : othB d.n d.self k
  · rw [hh] at H1
    have HD : Hid (askD d k = d) := if_neg (by simp [hh])
    clear ho hh
    go_enter Try.func29, Try.ntmps29
    go_wp2_with fail
    refine Calls.mono H1.out ?_
    rintro e w2 ⟨rfl, hw⟩
    rw [hw]
    clear hw w2
    go_wp2_with fail
    go_end0
    rw [HD.out]
    exact ⟨rfl, HV.out, Off.refl _ w⟩
  · rw [hh] at H1
    have HD : Hid (askD d k = { d with op := upd d.op k.toNat (d.op k.toNat + 1) }) := if_pos hh
    obtain ⟨i, rfl, hi, -⟩ := othB_of hh
    rw [Int.toNat_natCast] at HD
    have x0 := HV.out.op.at_ hi
    have fr := HV.out.op.free
    have hb := ho i hi
    have HSS : Hid (IRow c d.n (upd d.op i (d.op i + 1)) (w.setCell ⟨c, i, none⟩ (.int .i64 (d.op i + 1)))) := HV.out.op.set i hi _
    have HSO : Hid (Off (fun k => k = c) w (w.setCell ⟨c, i, none⟩ (.int .i64 (d.op i + 1)))) := (Off.refl (fun k => k = c) w).setCell (.inl rfl) _
    clear ho hh
    generalize d.op i = x at *
    go_enter Try.func29, Try.ntmps29
    go_wp2_with fail
    refine Calls.mono H1.out ?_
    rintro e w2 ⟨rfl, hw⟩
    rw [hw]
    clear hw w2
    go_wp2_with fail
    go_end0
    rw [HD.out]
    exact ⟨rfl, HV.out.setop HSO.out HSS.out, off1 HSO.out (by simp)⟩
/-- It was heard, to the reference. -/
def rhearD (d : VD) (k : Int) : VD := if othB d.n d.self k = true then { d with op := upd d.op k.toNat 0 } else d
theorem rheard_any {q a b c : Nat} {d : VD} (k : Int) {w : World} (h : RVw q a b c d w) :
    Calls Try.prog 30 #[.pointer (some ⟨q, 0, none⟩), .int .i64 k] w fun e w' => e = .returned (.tuple #[]) ∧ RVw q a b c (rhearD d k) w' ∧ Off (fun k => k = a ∨ k = b ∨ k = c) w w' := by
  have HV : Hid _ := h
  have H1 : Hid _ := rother_any k h
  have c3 := h.c3
  clear h
  cases hh : othB d.n d.self k
  · rw [hh] at H1
    have HD : Hid (rhearD d k = d) := if_neg (by simp [hh])
    clear hh
    go_enter Try.func30, Try.ntmps30
    go_wp2_with fail
    refine Calls.mono H1.out ?_
    rintro e w2 ⟨rfl, hw⟩
    rw [hw]
    clear hw w2
    go_wp2_with fail
    go_end0
    rw [HD.out]
    exact ⟨rfl, HV.out, Off.refl _ w⟩
  · rw [hh] at H1
    have HD : Hid (rhearD d k = { d with op := upd d.op k.toNat 0 }) := if_pos hh
    obtain ⟨i, rfl, hi, -⟩ := othB_of hh
    rw [Int.toNat_natCast] at HD
    have x0 := HV.out.op.at_ hi
    have fr := HV.out.op.free
    have HSS : Hid (IRow c d.n (upd d.op i 0) (w.setCell ⟨c, i, none⟩ (.int .i64 0))) := HV.out.op.set i hi _
    have HSO : Hid (Off (fun k => k = c) w (w.setCell ⟨c, i, none⟩ (.int .i64 0))) := (Off.refl (fun k => k = c) w).setCell (.inl rfl) _
    clear hh
    go_enter Try.func30, Try.ntmps30
    go_wp2_with fail
    refine Calls.mono H1.out ?_
    rintro e w2 ⟨rfl, hw⟩
    rw [hw]
    clear hw w2
    go_wp2_with fail
    go_end0
    rw [HD.out]
    exact ⟨rfl, HV.out.setop HSO.out HSS.out, off1 HSO.out (by simp)⟩
theorem rsuspect_any {q a b c : Nat} {d : VD} (k : Int) {w : World} (h : RVw q a b c d w) :
    Calls Try.prog 27 #[.pointer (some ⟨q, 0, none⟩), .int .i64 k] w fun e w' => e = .returned (.bool (susB d k)) ∧ RVw q a b c (susD d k) w' ∧ Off (fun k => k = a ∨ k = b ∨ k = c) w w' := by
  have HV : Hid _ := h
  have H1 : Hid _ := rother_any k h
  have c1 := h.c1
  have c2 := h.c2
  have hq := h.qa
  clear h
  cases hh : othB d.n d.self k
  · rw [hh] at H1
    have HB : Hid (susB d k = false) := by show _ = _; unfold susB; rw [hh]; rfl
    have HD : Hid (susD d k = d) := if_neg (by rw [HB.out]; simp)
    clear hh
    go_enter Try.func27, Try.ntmps27
    go_wp2_with fail
    refine Calls.mono H1.out ?_
    rintro e w2 ⟨rfl, hw⟩
    rw [hw]
    clear hw w2
    go_wp2_with fail
    go_ret
    rw [HD.out, HB.out]
    exact ⟨rfl, HV.out, Off.refl _ w⟩
  · rw [hh] at H1
    obtain ⟨i, rfl, hi, -⟩ := othB_of hh
    have x0 := HV.out.m.m0 hi
    have x2 := HV.out.age.at_ hi
    have fr := HV.out.m.free
    have fr2 := HV.out.age.free
    have hi' : (i : Int) < (d.n : Int) := by omega
    by_cases hs : (d.m i).1 = 0
    · have HB : Hid (susB d (i : Int) = true) := by show _ = _; unfold susB; rw [hh, Int.toNat_natCast]; simp [hs]
      have HD : Hid (susD d (i : Int) = { { d with m := upd d.m i (1, (d.m i).2) } with age := upd d.age i 0 }) := by
        show _ = _; unfold susD; rw [if_pos HB.out, Int.toNat_natCast]
        exact if_neg (fun e => by rw [e] at hs; cases hs)
      rw [hs] at x0
      have HM : Hid (MRow a d.n (upd d.m i (1, (d.m i).2)) (w.setCell ⟨a, i * 2, none⟩ (.int .i64 1))) := HV.out.m.set0 i hi 1
      have HOM : Hid (Off (fun k => k = a) w (w.setCell ⟨a, i * 2, none⟩ (.int .i64 1))) := (Off.refl (fun k => k = a) w).setCell (.inl rfl) _
      have HV1 : Hid _ := HV.out.setm HOM.out HM.out
      have HAG : Hid (IRow b d.n (upd d.age i 0) ((w.setCell ⟨a, i * 2, none⟩ (.int .i64 1)).setCell ⟨b, i, none⟩ (.int .i64 0))) := HV1.out.age.set i hi 0
      have HOB : Hid (Off (fun k => k = b) (w.setCell ⟨a, i * 2, none⟩ (.int .i64 1)) ((w.setCell ⟨a, i * 2, none⟩ (.int .i64 1)).setCell ⟨b, i, none⟩ (.int .i64 0))) := (Off.refl (fun k => k = b) _).setCell (.inl rfl) _
      have HV2 : Hid _ := HV1.out.setage HOB.out HAG.out
      have e0 : ((0 : Int) != 0) = false := rfl
      clear hh hs
      go_enter Try.func27, Try.ntmps27
      go_wp2_with fail
      refine Calls.mono H1.out ?_
      rintro e w2 ⟨rfl, hw⟩
      rw [hw]
      clear hw w2
      go_wp2_with fail
      go_region
      go_wp2_with fail
      go_ret
      rw [HD.out, HB.out]
      exact ⟨rfl, HV2.out.drew, ((off1 HOM.out (by simp)).trans (off1 HOB.out (by simp)) (fun _ _ h => h)).drew⟩
    · have HB : Hid (susB d (i : Int) = false) := by show _ = _; unfold susB; rw [hh, Int.toNat_natCast]; simp [hs]
      have HD : Hid (susD d (i : Int) = d) := if_neg (by rw [HB.out]; simp)
      have e0 : ((d.m i).1 != 0) = true := by simp [hs]
      clear hh hs
      generalize (d.m i).1 = s at *
      go_enter Try.func27, Try.ntmps27
      go_wp2_with fail
      refine Calls.mono H1.out ?_
      rintro e w2 ⟨rfl, hw⟩
      rw [hw]
      clear hw w2
      go_wp2_with fail
      go_ret
      rw [HD.out, HB.out]
      exact ⟨rfl, HV.out, Off.refl _ w⟩
/-- The reference's Tick at i. -/
def rtS (d : VD) (i : Nat) : Bool := decide (i ≠ d.self ∧ (d.m i).1 = 1)
def rtickS (d : VD) (i : Nat) : VD :=
  if rtS d i = true then (if 5 ≤ d.age i then { { d with age := upd d.age i (d.age i + 1) } with m := upd d.m i (2, (d.m i).2) } else { d with age := upd d.age i (d.age i + 1) }) else d
def rtickK (d : VD) : Nat → VD
  | 0 => d
  | k + 1 => rtickS (rtickK d k) k
def rtickN (d : VD) : Nat → Nat
  | 0 => 0
  | k + 1 => rtickN d k + if rtS (rtickK d k) k = true ∧ 5 ≤ (rtickK d k).age k then 1 else 0
theorem rtickS_n (d : VD) (i : Nat) : (rtickS d i).n = d.n ∧ (rtickS d i).self = d.self ∧ (rtickS d i).op = d.op := by
  unfold rtickS
  split
  · split <;> exact ⟨rfl, rfl, rfl⟩
  · exact ⟨rfl, rfl, rfl⟩
theorem rtickS_m (d : VD) (i j : Nat) : (rtickS d i).m j = if j = i ∧ rtS d i = true ∧ 5 ≤ d.age i then (2, (d.m i).2) else d.m j := by
  unfold rtickS
  split
  · rename_i h
    split
    · rename_i h5
      show upd d.m i _ j = _
      unfold upd
      by_cases e : j = i <;> simp [e, h, h5]
    · rename_i h5
      rw [if_neg (fun e => h5 e.2.2)]
  · rename_i h
    rw [if_neg (fun e => h e.2.1)]
theorem rtickS_age (d : VD) (i j : Nat) : (rtickS d i).age j = if j = i ∧ rtS d i = true then d.age i + 1 else d.age j := by
  unfold rtickS
  split
  · rename_i h
    split
    · show upd d.age i _ j = _
      unfold upd
      by_cases e : j = i <;> simp [e, h]
    · show upd d.age i _ j = _
      unfold upd
      by_cases e : j = i <;> simp [e, h]
  · rename_i h
    rw [if_neg (fun e => h e.2)]
theorem rtickK_n (d : VD) (k : Nat) : (rtickK d k).n = d.n ∧ (rtickK d k).self = d.self ∧ (rtickK d k).op = d.op := by
  induction k with
  | zero => exact ⟨rfl, rfl, rfl⟩
  | succ k ih =>
    have h := rtickS_n (rtickK d k) k
    exact ⟨h.1.trans ih.1, h.2.1.trans ih.2.1, h.2.2.trans ih.2.2⟩
theorem rtickK_hi (d : VD) (k : Nat) : ∀ j, k ≤ j → (rtickK d k).m j = d.m j ∧ (rtickK d k).age j = d.age j := by
  induction k with
  | zero => exact fun j _ => ⟨rfl, rfl⟩
  | succ k ih =>
    intro j hj
    have h := ih j (by omega)
    constructor
    · show (rtickS (rtickK d k) k).m j = _
      rw [rtickS_m, if_neg (by omega), h.1]
    · show (rtickS (rtickK d k) k).age j = _
      rw [rtickS_age, if_neg (by omega), h.2]
theorem rtickN_le (d : VD) (k : Nat) : rtickN d k ≤ k := by
  induction k with
  | zero => exact Nat.le_refl _
  | succ k ih => unfold rtickN; split <;> omega
set_option maxHeartbeats 1000000 in
theorem rtick_any {q a b c : Nat} {d : VD} (ha : ∀ i, i < d.n → (d.m i).1 = 1 → 0 ≤ d.age i ∧ d.age i ≤ 1000000) {w : World} (h : RVw q a b c d w) :
    Calls Try.prog 28 #[.pointer (some ⟨q, 0, none⟩)] w fun e w' => e = .returned (.int .i64 (rtickN d d.n : Nat)) ∧ RVw q a b c (rtickK d d.n) w' ∧ Off (fun k => k = a ∨ k = b ∨ k = c) w w' := by
  have HV : Hid _ := h
  have HA : Hid _ := ha
  have c1 := h.c1
  have hn := h.n8
  clear h ha
  generalize hnn : d.n = n at *
  have HN : Hid (d.n = n) := hnn
  clear hnn
  go_enter Try.func28, Try.ntmps28
  go_wp2_with fail
  clear c1
  go_loopw [3, 10] (fun s3 s10 wr => ∃ k : Nat, s3 = .int .i64 (rtickN d k : Nat) ∧ s10 = .int .i64 (k : Int) ∧ k ≤ n ∧ RVw q a b c (rtickK d k) wr ∧ Off (fun k => k = a ∨ k = b ∨ k = c) w wr) (fun _ i _ => ((n : Int) - intOf i).toNat)
  case atStart => exact ⟨0, rfl, rfl, by omega, HV.out, Off.refl _ w⟩
  case round =>
    obtain ⟨k, rfl, rfl, hk, v, o⟩ := hrel
    have HW : Hid _ := v
    have HO : Hid _ := o
    have hle := rtickN_le d k
    clear v o
    by_cases hlt : k < n
    · have HHI : Hid _ := rtickK_hi d k k (Nat.le_refl _)
      have HNN : Hid ((rtickK d k).n = n ∧ (rtickK d k).self = d.self) := by
        have := rtickK_n d k
        exact ⟨this.1.trans HN.out, this.2.1⟩
      have HAK : Hid (((rtickK d k).m k).1 = 1 → 0 ≤ (rtickK d k).age k ∧ (rtickK d k).age k ≤ 1000000) := by
        show _ → _
        rw [HHI.out.1, HHI.out.2]
        exact HA.out k hlt
      have HDS : Hid (rtickK d (k + 1) = rtickS (rtickK d k) k) := rfl
      have HNS : Hid (rtickN d (k + 1) = rtickN d k + if rtS (rtickK d k) k = true ∧ 5 ≤ (rtickK d k).age k then 1 else 0) := rfl
      clear HHI
      generalize rtickK d k = D at *
      generalize rtickN d k = N at *
      have hkD : k < D.n := by rw [HNN.out.1]; exact hlt
      have HKD : Hid _ := hkD
      have H1 : Hid _ := rother_any (k : Int) HW.out
      have c1 := HW.out.c1
      have c2 := HW.out.c2
      have x0 := HW.out.m.m0 hkD
      have x2 := HW.out.age.at_ hkD
      have fr2 := HW.out.age.free
      have fr1 := HW.out.m.free
      rw [HNN.out.1] at c1 c2
      clear hkD
      by_cases hs : rtS D k = true
      · have hs' := of_decide_eq_true hs
        have hoth : othB D.n D.self (k : Int) = true := by
          unfold othB; rw [decide_eq_true_iff, HNN.out.1]; omega
        rw [hoth] at H1
        rw [hs'.2] at x0
        have hak := HAK.out hs'.2
        have e0 : ((1 : Int) != 1) = false := rfl
        have HAG : Hid (IRow b D.n (upd D.age k (D.age k + 1)) (wr.setCell ⟨b, k, none⟩ (.int .i64 (D.age k + 1)))) := HW.out.age.set k HKD.out _
        have HOB : Hid (Off (fun k => k = b) wr (wr.setCell ⟨b, k, none⟩ (.int .i64 (D.age k + 1)))) := (Off.refl (fun k => k = b) wr).setCell (.inl rfl) _
        have HV1 : Hid _ := HW.out.setage HOB.out HAG.out
        have HAGE : Hid (upd D.age k (D.age k + 1) k = D.age k + 1) := upd_same _ _ _
        by_cases h5 : 5 ≤ D.age k
        · have HD : Hid (rtickK d (k + 1) = { { D with age := upd D.age k (D.age k + 1) } with m := upd D.m k (2, (D.m k).2) }) := by
            show _ = _; rw [HDS.out]; unfold rtickS; rw [if_pos hs, if_pos h5]
          have HB : Hid (rtickN d (k + 1) = N + 1) := by show _ = _; rw [HNS.out, if_pos ⟨hs, h5⟩]
          clear hs hs' hoth
          generalize D.age k = ag at *
          go_wp2_with fail
          refine Calls.mono H1.out ?_
          rintro e w2 ⟨rfl, hw⟩
          rw [hw]
          clear hw w2
          go_upto_region 7 with fail
          generalize hW1 : wr.setCell ⟨b, k, none⟩ (.int .i64 (ag + 1)) = W1 at HOB HV1 ⊢
          clear hW1 c1 c2 x0 x2 fr1 fr2
          have c1 := HV1.out.c1
          have c2 := HV1.out.c2
          have x0 := HV1.out.m.m0 HKD.out
          have x2 := HV1.out.age.at_ HKD.out
          have fr1 := HV1.out.m.free
          have HM1 : Hid _ := HV1.out.m.set0 k HKD.out 2
          have HOM : Hid (Off (fun k => k = a) W1 (W1.setCell ⟨a, k * 2, none⟩ (.int .i64 2))) := (Off.refl (fun k => k = a) W1).setCell (.inl rfl) _
          have HV2 : Hid _ := HV1.out.setm HOM.out HM1.out
          simp only at c1 c2 x0 x2
          rw [HNN.out.1] at c1 c2
          rw [HAGE.out] at x2
          go_wp2_with fail
          go_roundw
          case rel => exact ⟨k + 1, by rw [HB.out]; go_num, by go_num, by omega, by rw [HD.out]; exact HV2.out, HO.out.trans ((off1 HOB.out (by simp)).trans (off1 HOM.out (by simp)) (fun _ _ h => h)) (fun _ _ h => h)⟩
          case measure => simp [intOf]; omega
        · have HD : Hid (rtickK d (k + 1) = { D with age := upd D.age k (D.age k + 1) }) := by
            show _ = _; rw [HDS.out]; unfold rtickS; rw [if_pos hs, if_neg h5]
          have HB : Hid (rtickN d (k + 1) = N) := by show _ = _; rw [HNS.out, if_neg (fun e => h5 e.2)]; rfl
          clear hs hs' hoth
          generalize D.age k = ag at *
          go_wp2_with fail
          refine Calls.mono H1.out ?_
          rintro e w2 ⟨rfl, hw⟩
          rw [hw]
          clear hw w2
          go_upto_region 7 with fail
          generalize hW1 : wr.setCell ⟨b, k, none⟩ (.int .i64 (ag + 1)) = W1 at HOB HV1 ⊢
          clear hW1 c1 c2 x0 x2 fr1 fr2
          have c2 := HV1.out.c2
          have x2 := HV1.out.age.at_ HKD.out
          simp only at c2 x2
          rw [HNN.out.1] at c2
          rw [HAGE.out] at x2
          go_wp2_with fail
          go_roundw
          case rel => exact ⟨k + 1, by rw [HB.out], by go_num, by omega, by rw [HD.out]; exact HV1.out, HO.out.trans (off1 HOB.out (by simp)) (fun _ _ h => h)⟩
          case measure => simp [intOf]; omega
      · have HD : Hid (rtickK d (k + 1) = D) := by show _ = _; rw [HDS.out]; unfold rtickS; rw [if_neg hs]
        have HB : Hid (rtickN d (k + 1) = N) := by show _ = _; rw [HNS.out, if_neg (fun e => hs e.1)]; rfl
        by_cases hself : k = D.self
        · have hoth : othB D.n D.self (k : Int) = false := by
            unfold othB; rw [decide_eq_false_iff_not]; omega
          rw [hoth] at H1
          clear hs hoth hself x0 x2
          go_wp2_with fail
          refine Calls.mono H1.out ?_
          rintro e w2 ⟨rfl, hw⟩
          rw [hw]
          clear hw w2
          go_wp2_with fail
          go_roundw
          case rel => exact ⟨k + 1, by rw [HB.out], by go_num, by omega, by rw [HD.out]; exact HW.out, HO.out⟩
          case measure => simp [intOf]; omega
        · have hoth : othB D.n D.self (k : Int) = true := by
            unfold othB; rw [decide_eq_true_iff, HNN.out.1]; omega
          rw [hoth] at H1
          have hne : (D.m k).1 ≠ 1 := fun e => hs (decide_eq_true ⟨hself, e⟩)
          clear hs hoth hself x2
          generalize (D.m k).1 = s at *
          have e1 : (s != 1) = true := by simp [hne]
          clear hne
          go_wp2_with fail
          refine Calls.mono H1.out ?_
          rintro e w2 ⟨rfl, hw⟩
          rw [hw]
          clear hw w2
          go_wp2_with fail
          go_roundw
          case rel => exact ⟨k + 1, by rw [HB.out], by go_num, by omega, by rw [HD.out]; exact HW.out, HO.out⟩
          case measure => simp [intOf]; omega
    · obtain rfl : k = n := by omega
      go_wp2_with fail
      go_ret
      exact ⟨rfl, HW.out, HO.out⟩
end Go.Proofs.Ytakijikehpblfaa
