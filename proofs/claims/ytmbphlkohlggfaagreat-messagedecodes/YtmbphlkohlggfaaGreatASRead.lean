/- Items of several texts. -/
import Derived.Deep.Cut
import Derived.Test.YtmbphlkohlggfaaGreatARefA
import Derived.Test.YtmbphlkohlggfaaGreatAInsP
import Derived.Test.YtmbphlkohlggfaaGreatAWRefR
import Derived.Test.YtmbphlkohlggfaaGreatASWr
namespace Go.Proofs.YtmbphlkohlggfaaGreat
open Go.RowKit
def rdV (s : RS) : Nat → RS
 | 0 => s
 | n + 1 => (intS (rdV s n)).2
def rdF (s : RS) (j : Nat) : Int := (intS (rdV s j)).1
def readB (s : RS) : Bool := decide ((rdV s 8).2 = 0) && mayB (rdF s)
def readF (s : RS) : Nat → Int := if readB s = true then rdF s else zer
theorem results_vecb {fn : Func} {p u : Tmp} (h : fn.results = #[.cell p 41, .tmp u]) {tmps : Array Value} {w : World} {b : Nat} {f : Nat → Int} (hp : tmps.getD p undef = .pointer (some ⟨b, 0, none⟩)) {v : Value} (hu : tmps.getD u undef = v) (hc : Cel b 41 #[.int .i64 (f 0), .int .i64 (f 1), .int .i64 (f 2), .int .i64 (f 3), .int .i64 (f 4), .int .i64 (f 5), .int .i64 (f 6), .int .i64 (f 7)] w) :
  (results fn tmps).run Tryz.prog w = .ok (.tuple #[.agg #[.int .i64 (f 0), .int .i64 (f 1), .int .i64 (f 2), .int .i64 (f 3), .int .i64 (f 4), .int .i64 (f 5), .int .i64 (f 6), .int .i64 (f 7)], v]) w := by
 rw [results_cell_tmp h]
 have ha : (asAddr (.pointer (some ⟨b, 0, none⟩))).run Tryz.prog w = .ok ⟨b, 0, none⟩ w := rfl
 rw [hp, hu, ha]
 have hv := run_loadVar_row (P := Tryz.prog) w b 41 41 #[.int .i64 (f 0), .int .i64 (f 1), .int .i64 (f 2), .int .i64 (f 3), .int .i64 (f 4), .int .i64 (f 5), .int .i64 (f 6), .int .i64 (f 7)] (0, 0) (.array 8 2) hc.is (by kernel_rfl) rfl (by kernel_rfl)
 simp only [Result.andThen, hv]
theorem vfailed_any {D : Nat → Prop} {b : Nat} {s : RS} {w : World} (hR : Rdr 96 D b s w) :
  Calls Tryz.prog 114 #[.pointer (some ⟨b, 0, none⟩)] w fun e w' => e = .returned (.bool (!decide (s.2 = 0))) ∧ w' = w := by
 have HR : Hid _ := hR
 have hok := hR.ok
 clear hR
 by_cases h0 : s.1.length = 0
 ·have e0 : (((s.1.length : Nat) : Int) == 0) = true := by simp [h0]
  have he : endS s = s.2 := by
   have : s.1 = [] := List.eq_nil_of_length_eq_zero h0
   simp [endS, this]
  have e1 : ((((endS s : Nat) : Int)) != 0) = !decide (s.2 = 0) := by
   rw [he]
   by_cases h2 : s.2 = 0
   ·simp [h2]
   ·have : (((s.2 : Nat) : Int) != 0) = true := by simp [h2]
    rw [this]
    simp [h2]
  clear h0 he hok
  go_enter Tryz.func114, Tryz.ntmps114
  go_wp2_with fail
  refine (rleft_any HR.out).mono ?_
  rintro e w1 ⟨rfl, hw⟩
  rw [hw]; clear hw w1
  go_wp2_with fail
  refine (rend_any HR.out).mono ?_
  rintro e w1 ⟨rfl, hw⟩
  rw [hw]; clear hw w1
  go_wp2_with fail
  go_ret
  exact ⟨rfl, rfl⟩
 ·have e0 : (((s.1.length : Nat) : Int) == 0) = false := by rw [beq_eq_false_iff_ne]; omega
  have h2 : s.2 = 0 := by
   rcases Nat.eq_zero_or_pos s.2 with h | h
   ·exact h
   ·have := hok.2.1 (by omega)
    simp [this] at h0
  have e1 : Hid ((!decide (s.2 = 0)) = false) := (show (!decide (s.2 = 0)) = false by simp [h2])
  clear h0 h2 hok
  go_enter Tryz.func114, Tryz.ntmps114
  go_wp2_with fail
  refine (rleft_any HR.out).mono ?_
  rintro e w1 ⟨rfl, hw⟩
  rw [hw]; clear hw w1
  go_wp2_with fail
  go_ret
  rw [e1.out]
  exact ⟨rfl, rfl⟩
theorem rdr_cells {T : TypeId} {D : Nat → Prop} {b : Nat} {s : RS} {w : World} (h : Rdr T D b s w) : ∃ tad cap, w.cell? ⟨b, 0, none⟩ = some (.slice tad s.1.length cap) ∧ w.cell? ⟨b, 1, none⟩ = some (.int .i64 ((s.2 : Nat) : Int)) := by
 obtain ⟨tad, cap, h1, -⟩ := h.is
 exact ⟨tad, cap, by rw [h1.cell]; rfl, by rw [h1.cell]; rfl⟩
set_option maxRecDepth 100000 in
set_option maxHeartbeats 1000000 in
theorem vread_any {D : Nat → Prop} {b : Nat} {s : RS} {w : World} (hR : Rdr 96 D b s w) :
  Calls Tryz.prog 91 #[.pointer (some ⟨b, 0, none⟩)] w fun e w' => e = .returned (.tuple #[.agg #[.int .i64 (readF s 0), .int .i64 (readF s 1), .int .i64 (readF s 2), .int .i64 (readF s 3), .int .i64 (readF s 4), .int .i64 (readF s 5), .int .i64 (readF s 6), .int .i64 (readF s 7)], .bool (readB s)]) ∧ Rdr 96 D b (rdV s 8) w' ∧ Off (fun c => c = b) w w' := by
 have hnot := not_any
 have hb := hR.here
 have HL : Hid (∀ c, D c → c < w.heap.size) := hR.lt
 have HR : Hid _ := hR
 clear hR
 go_enter Tryz.func91, Tryz.ntmps91
 go_wp2_with fail
 go_loopw [6] (fun y wr => ∃ (n : Nat) (g : Nat → Int), y = .int .i64 (n : Int) ∧ n ≤ 8 ∧ (∀ j, j < 8 → g j = if j < n then rdF s j else 0) ∧ Cel (w.heap.size + 1) 41 #[.int .i64 (g 0), .int .i64 (g 1), .int .i64 (g 2), .int .i64 (g 3), .int .i64 (g 4), .int .i64 (g 5), .int .i64 (g 6), .int .i64 (g 7)] wr ∧ Cel w.heap.size 41 #[.int .i64 (zer 0), .int .i64 (zer 1), .int .i64 (zer 2), .int .i64 (zer 3), .int .i64 (zer 4), .int .i64 (zer 5), .int .i64 (zer 6), .int .i64 (zer 7)] wr ∧ Rdr 96 D b (rdV s n) wr ∧ Off (fun c => c = b) w wr) (fun y _ => (8 - intOf y).toNat)
 case atStart =>
  refine ⟨0, zer, rfl, by omega, fun j hj => by simp [zer], Cel.new1 w _ _ _, (Cel.new w _ _).alloc _, ?_, ((Off.refl _ w).alloc _).alloc _⟩
  exact HR.out.off (((Off.refl (fun _ => False) w).alloc _).alloc _) (fun h => h) (fun _ _ _ h => h)
 case round =>
  obtain ⟨n, g, rfl, hn, hg, cv, cr, hr, O⟩ := hrel
  have HG : Hid _ := hg
  have CV : Hid _ := cv
  have CR : Hid _ := cr
  have HR' : Hid _ := hr
  clear hg cv cr hr
  by_cases h : n < 8
  ·have hd : decide ((n : Int) < 8) = true := by simp; omega
   have ha := at_vec (w.heap.size + 1) h
   go_wp2_with fail
   refine (rint_any HR'.out).mono ?_
   rintro e v1 ⟨rfl, R1, o1⟩
   have V1 := CV.out.off o1 (by omega)
   have Z1 := CR.out.off o1 (by omega)
   have O1 : Off (fun c => c = b) w v1 := O.trans o1 (fun _ _ h => h)
   have hc : v1.cell? ⟨w.heap.size + 1, n, none⟩ = some (.int .i64 (g n)) := (V1.cell n).trans (vec_get g h)
   have hf := V1.free n
   have HV1 : Hid _ := V1
   have HZ1 : Hid _ := Z1
   have HR1 : Hid _ := R1
   clear V1 Z1 R1 o1 O
   go_wp2_with fail
   go_roundw
   case rel =>
    refine ⟨n + 1, upd g n (intS (rdV s n)).1, by go_num, by omega, fun j hj => ?_, ?_, ?_, ?_, O1.setCell (.inr (by simp)) _⟩
    ·have := HG.out j hj
     simp only [upd]
     split
     ·subst j
      simp [rdF]
     ·rw [this]
      have e : (j < n + 1) ↔ (j < n) := by omega
      simp [e]
    ·have := HV1.out.set n (.int .i64 (intS (rdV s n)).1)
     rw [vec_set g h] at this
     exact this
    ·exact HZ1.out.other (by simp) _
    ·exact HR1.out.off (D := D) ((Off.refl (fun c => c = w.heap.size + 1) v1).setCell (.inl rfl) _) (by omega) (fun c _ hc => by have := HL.out c hc; omega)
   case measure => simp [intOf]; omega
  ·obtain rfl : n = 8 := by omega
   have hgf : ∀ j, j < 8 → g j = rdF s j := fun j hj => by have := HG.out j hj; simpa [hj] using this
   have hmay : mayB g = mayB (rdF s) := by
    rw [Bool.eq_iff_iff]
    simp only [mayB, decide_eq_true_eq]
    constructor
    ·intro h j hj
     rw [← hgf j hj]
     exact h j hj
    ·intro h j hj
     rw [hgf j hj]
     exact h j hj
   have HM : Hid _ := hmay
   have hg0 := hgf 0 (by omega)
   have hg1 := hgf 1 (by omega)
   have hg2 := hgf 2 (by omega)
   have hg3 := hgf 3 (by omega)
   have hg4 := hgf 4 (by omega)
   have hg5 := hgf 5 (by omega)
   have hg6 := hgf 6 (by omega)
   have hg7 := hgf 7 (by omega)
   have CV2 : Cel (w.heap.size + 1) 41 #[.int .i64 (rdF s 0), .int .i64 (rdF s 1), .int .i64 (rdF s 2), .int .i64 (rdF s 3), .int .i64 (rdF s 4), .int .i64 (rdF s 5), .int .i64 (rdF s 6), .int .i64 (rdF s 7)] wr := by
    have := CV.out
    rw [hg0, hg1, hg2, hg3, hg4, hg5, hg6, hg7] at this
    exact this
   clear hg0 hg1 hg2 hg3 hg4 hg5 hg6 hg7 hgf hmay CV HM HG
   obtain ⟨c0, c1, c2, c3, c4, c5, c6, c7⟩ := cel8 CV2
   obtain ⟨d0, d1, d2, d3, d4, d5, d6, d7⟩ := cel8 CR.out
   have fr := CR.out.free
   have CC : Hid _ := CV2
   clear CV2
   by_cases h9 : (rdV s 8).2 = 0
   ·go_wp2_with fail
    refine (vfailed_any HR'.out).mono ?_
    rintro e v1 ⟨rfl, hw⟩
    rw [hw]; clear hw v1
    rw [show (!decide ((rdV s 8).2 = 0)) = false by simp [h9]]
    go_wp2_with fail
    refine (may_any (rdF s) _).mono ?_
    rintro e v2 ⟨rfl, o2⟩
    clear c0 c1 c2 c3 c4 c5 c6 c7 d0 d1 d2 d3 d4 d5 d6 d7 fr
    have C2 := CC.out.off o2 (fun h => h)
    have Z2 := CR.out.off o2 (fun h => h)
    have R2 := HR'.out.off o2 (fun h => h) (fun _ _ _ h => h)
    have O2 : Off (fun c => c = b) w v2 := O.trans o2 (fun _ _ h => h.elim)
    obtain ⟨c0, c1, c2, c3, c4, c5, c6, c7⟩ := cel8 C2
    obtain ⟨d0, d1, d2, d3, d4, d5, d6, d7⟩ := cel8 Z2
    have fr := Z2.free
    have HZ2 : Hid _ := Z2
    have HR2 : Hid _ := R2
    clear C2 Z2 R2 o2 CC CR HR'
    by_cases hm : mayB (rdF s) = true
    ·have rb : Hid (readB s = true) := (show readB s = true by simp [readB, h9, hm])
     have rf : Hid (readF s = rdF s) := (show readF s = rdF s by simp [readF, rb.out])
     rw [hm]
     clear hm
     go_wp2_with fail
     refine bodyPost_ret (results_vecb rfl rfl rfl (HZ2.out.st8 (rdF s))) rfl ?_
     rw [rb.out, rf.out]
     refine ⟨rfl, ?_, O2.st8 (.inr (by omega)) _⟩
     exact HR2.out.off ((Off.refl (fun c => c = w.heap.size) v2).st8 (.inl rfl) (rdF s)) (by omega) (fun c _ hc => by have := HL.out c hc; omega)
    ·have hm : mayB (rdF s) = false := by simpa using hm
     have rb : Hid (readB s = false) := (show readB s = false by simp [readB, hm])
     have rf : Hid (readF s = zer) := (show readF s = zer by simp [readF, rb.out])
     rw [hm]
     clear hm
     go_wp2_with fail
     refine bodyPost_ret (results_vecb rfl rfl rfl (HZ2.out.st8 zer)) rfl ?_
     rw [rb.out, rf.out]
     refine ⟨rfl, ?_, O2.st8 (.inr (by omega)) zer⟩
     exact HR2.out.off ((Off.refl (fun c => c = w.heap.size) v2).st8 (.inl rfl) zer) (by omega) (fun c _ hc => by have := HL.out c hc; omega)
   ·have rb : Hid (readB s = false) := (show readB s = false by simp [readB, h9])
    have rf : Hid (readF s = zer) := (show readF s = zer by simp [readF, rb.out])
    go_wp2_with fail
    refine (vfailed_any HR'.out).mono ?_
    rintro e v1 ⟨rfl, hw⟩
    rw [hw]; clear hw v1
    rw [show (!decide ((rdV s 8).2 = 0)) = true by simp [h9]]
    go_wp2_with fail
    refine bodyPost_ret (results_vecb rfl rfl rfl (CR.out.st8 zer)) rfl ?_
    rw [rb.out, rf.out]
    refine ⟨rfl, ?_, O.st8 (.inr (by omega)) zer⟩
    exact HR'.out.off ((Off.refl (fun c => c = w.heap.size) wr).st8 (.inl rfl) zer) (by omega) (fun c _ hc => by have := HL.out c hc; omega)
set_option maxRecDepth 100000 in
set_option maxHeartbeats 1000000 in
theorem fvread_any {D : Nat → Prop} {b : Nat} {s : RS} {w : World} (hR : Rdr 68 D b s w) :
  Calls Tryz.prog 67 #[.pointer (some ⟨b, 0, none⟩)] w fun e w' => e = .returned (.tuple #[.agg #[.int .i64 (readF s 0), .int .i64 (readF s 1), .int .i64 (readF s 2), .int .i64 (readF s 3), .int .i64 (readF s 4), .int .i64 (readF s 5), .int .i64 (readF s 6), .int .i64 (readF s 7)], .bool (readB s)]) ∧ Rdr 68 D b (rdV s 8) w' ∧ Off (fun c => c = b) w w' := by
 have hnot := not_any
 have hb := hR.here
 have HL : Hid (∀ c, D c → c < w.heap.size) := hR.lt
 have HR : Hid _ := hR
 clear hR
 go_enter Tryz.func67, Tryz.ntmps67
 go_wp2_with fail
 go_loopw [7] (fun y wr => ∃ (n : Nat) (g : Nat → Int), y = .int .i64 (n : Int) ∧ n ≤ 8 ∧ (∀ j, j < 8 → g j = if j < n then rdF s j else 0) ∧ Cel (w.heap.size + 1) 41 #[.int .i64 (g 0), .int .i64 (g 1), .int .i64 (g 2), .int .i64 (g 3), .int .i64 (g 4), .int .i64 (g 5), .int .i64 (g 6), .int .i64 (g 7)] wr ∧ Cel w.heap.size 41 #[.int .i64 (zer 0), .int .i64 (zer 1), .int .i64 (zer 2), .int .i64 (zer 3), .int .i64 (zer 4), .int .i64 (zer 5), .int .i64 (zer 6), .int .i64 (zer 7)] wr ∧ Rdr 68 D b (rdV s n) wr ∧ Off (fun c => c = b) w wr) (fun y _ => (8 - intOf y).toNat)
 case atStart =>
  refine ⟨0, zer, rfl, by omega, fun j hj => by simp [zer], Cel.new1 w _ _ _, (Cel.new w _ _).alloc _, ?_, ((Off.refl _ w).alloc _).alloc _⟩
  exact HR.out.off (((Off.refl (fun _ => False) w).alloc _).alloc _) (fun h => h) (fun _ _ _ h => h)
 case round =>
  obtain ⟨n, g, rfl, hn, hg, cv, cr, hr, O⟩ := hrel
  have HG : Hid _ := hg
  have CV : Hid _ := cv
  have CR : Hid _ := cr
  have HR' : Hid _ := hr
  clear hg cv cr hr
  by_cases h : n < 8
  ·have hd : decide ((n : Int) < 8) = true := by simp; omega
   have ha := at_vec (w.heap.size + 1) h
   go_wp2_with fail
   refine (frint_any HR'.out).mono ?_
   rintro e v1 ⟨rfl, R1, o1⟩
   have V1 := CV.out.off o1 (by omega)
   have Z1 := CR.out.off o1 (by omega)
   have O1 : Off (fun c => c = b) w v1 := O.trans o1 (fun _ _ h => h)
   have hc : v1.cell? ⟨w.heap.size + 1, n, none⟩ = some (.int .i64 (g n)) := (V1.cell n).trans (vec_get g h)
   have hf := V1.free n
   have HV1 : Hid _ := V1
   have HZ1 : Hid _ := Z1
   have HR1 : Hid _ := R1
   clear V1 Z1 R1 o1 O
   go_wp2_with fail
   go_roundw
   case rel =>
    refine ⟨n + 1, upd g n (intS (rdV s n)).1, by go_num, by omega, fun j hj => ?_, ?_, ?_, ?_, O1.setCell (.inr (by simp)) _⟩
    ·have := HG.out j hj
     simp only [upd]
     split
     ·subst j
      simp [rdF]
     ·rw [this]
      have e : (j < n + 1) ↔ (j < n) := by omega
      simp [e]
    ·have := HV1.out.set n (.int .i64 (intS (rdV s n)).1)
     rw [vec_set g h] at this
     exact this
    ·exact HZ1.out.other (by simp) _
    ·exact HR1.out.off (D := D) ((Off.refl (fun c => c = w.heap.size + 1) v1).setCell (.inl rfl) _) (by omega) (fun c _ hc => by have := HL.out c hc; omega)
   case measure => simp [intOf]; omega
  ·obtain rfl : n = 8 := by omega
   have hgf : ∀ j, j < 8 → g j = rdF s j := fun j hj => by have := HG.out j hj; simpa [hj] using this
   have hmay : mayB g = mayB (rdF s) := by
    rw [Bool.eq_iff_iff]
    simp only [mayB, decide_eq_true_eq]
    constructor
    ·intro h j hj
     rw [← hgf j hj]
     exact h j hj
    ·intro h j hj
     rw [hgf j hj]
     exact h j hj
   have HM : Hid _ := hmay
   have hg0 := hgf 0 (by omega)
   have hg1 := hgf 1 (by omega)
   have hg2 := hgf 2 (by omega)
   have hg3 := hgf 3 (by omega)
   have hg4 := hgf 4 (by omega)
   have hg5 := hgf 5 (by omega)
   have hg6 := hgf 6 (by omega)
   have hg7 := hgf 7 (by omega)
   have CV2 : Cel (w.heap.size + 1) 41 #[.int .i64 (rdF s 0), .int .i64 (rdF s 1), .int .i64 (rdF s 2), .int .i64 (rdF s 3), .int .i64 (rdF s 4), .int .i64 (rdF s 5), .int .i64 (rdF s 6), .int .i64 (rdF s 7)] wr := by
    have := CV.out
    rw [hg0, hg1, hg2, hg3, hg4, hg5, hg6, hg7] at this
    exact this
   clear hg0 hg1 hg2 hg3 hg4 hg5 hg6 hg7 hgf hmay CV HM HG
   obtain ⟨c0, c1, c2, c3, c4, c5, c6, c7⟩ := cel8 CV2
   obtain ⟨d0, d1, d2, d3, d4, d5, d6, d7⟩ := cel8 CR.out
   have fr := CR.out.free
   have CC : Hid _ := CV2
   clear CV2
   obtain ⟨tad, cap, k0, k1⟩ := rdr_cells HR'.out
   by_cases h9 : (rdV s 8).2 = 0
   ·have e9 : ((((rdV s 8).2 : Nat) : Int) != 0) = false := by simp [h9]
    go_wp2_with fail
    refine (fmay_any (rdF s) _).mono ?_
    rintro e v2 ⟨rfl, o2⟩
    clear c0 c1 c2 c3 c4 c5 c6 c7 d0 d1 d2 d3 d4 d5 d6 d7 fr k0 k1
    have C2 := CC.out.off o2 (fun h => h)
    have Z2 := CR.out.off o2 (fun h => h)
    have R2 := HR'.out.off o2 (fun h => h) (fun _ _ _ h => h)
    have O2 : Off (fun c => c = b) w v2 := O.trans o2 (fun _ _ h => h.elim)
    obtain ⟨c0, c1, c2, c3, c4, c5, c6, c7⟩ := cel8 C2
    obtain ⟨d0, d1, d2, d3, d4, d5, d6, d7⟩ := cel8 Z2
    have fr := Z2.free
    have HZ2 : Hid _ := Z2
    have HR2 : Hid _ := R2
    clear C2 Z2 R2 o2 CC CR HR'
    by_cases hm : mayB (rdF s) = true
    ·have rb : Hid (readB s = true) := (show readB s = true by simp [readB, h9, hm])
     have rf : Hid (readF s = rdF s) := (show readF s = rdF s by simp [readF, rb.out])
     rw [hm]
     clear hm
     go_wp2_with fail
     refine bodyPost_ret (results_vecb rfl rfl rfl (HZ2.out.st8 (rdF s))) rfl ?_
     rw [rb.out, rf.out]
     refine ⟨rfl, ?_, O2.st8 (.inr (by omega)) _⟩
     exact HR2.out.off ((Off.refl (fun c => c = w.heap.size) v2).st8 (.inl rfl) (rdF s)) (by omega) (fun c _ hc => by have := HL.out c hc; omega)
    ·have hm : mayB (rdF s) = false := by simpa using hm
     have rb : Hid (readB s = false) := (show readB s = false by simp [readB, hm])
     have rf : Hid (readF s = zer) := (show readF s = zer by simp [readF, rb.out])
     rw [hm]
     clear hm
     go_wp2_with fail
     refine bodyPost_ret (results_vecb rfl rfl rfl (HZ2.out.st8 zer)) rfl ?_
     rw [rb.out, rf.out]
     refine ⟨rfl, ?_, O2.st8 (.inr (by omega)) zer⟩
     exact HR2.out.off ((Off.refl (fun c => c = w.heap.size) v2).st8 (.inl rfl) zer) (by omega) (fun c _ hc => by have := HL.out c hc; omega)
   ·have e9 : ((((rdV s 8).2 : Nat) : Int) != 0) = true := by simp [h9]
    have rb : Hid (readB s = false) := (show readB s = false by simp [readB, h9])
    have rf : Hid (readF s = zer) := (show readF s = zer by simp [readF, rb.out])
    go_wp2_with fail
    refine bodyPost_ret (results_vecb rfl rfl rfl (CR.out.st8 zer)) rfl ?_
    rw [rb.out, rf.out]
    refine ⟨rfl, ?_, O.st8 (.inr (by omega)) zer⟩
    exact HR'.out.off ((Off.refl (fun c => c = w.heap.size) wr).st8 (.inl rfl) zer) (by omega) (fun c _ hc => by have := HL.out c hc; omega)
end Go.Proofs.YtmbphlkohlggfaaGreat

namespace Go.Proofs.YtmbphlkohlggfaaGreat
open Go.RowKit
structure Mk (N : Nat) (w : World) (a : Option Addr) (c : Nat) (l : List V) : Prop where
 own : OwnV w a c l
 lo : ∀ k, blk a = some k → N ≤ k
 val : ∀ v ∈ l, VOk w v ∧ ∀ k, blk v.ad = some k → N ≤ k ∧ k < w.heap.size ∧ blk a ≠ some k
theorem Mk.nil (N : Nat) (w : World) : Mk N w none 0 [] := ⟨OwnV.nil w, fun k hk => by simp [blk] at hk, fun v hv => by simp at hv⟩
theorem Mk.off {D : Nat → Prop} {N : Nat} {w w' : World} {a : Option Addr} {c : Nat} {l : List V} (h : Mk N w a c l) (o : Off D w w') (hD : ∀ k, N ≤ k → k < w.heap.size → ¬ D k) : Mk N w' a c l :=
 ⟨h.own.off o (fun k hk => hD k (h.lo k hk) (h.own.lt k hk)), h.lo, fun v hv => ⟨(h.val v hv).1.off o (fun k _ hk => hD k ((h.val v hv).2 k hk).1 ((h.val v hv).2 k hk).2.1), fun k hk => ⟨((h.val v hv).2 k hk).1, Nat.lt_of_lt_of_le ((h.val v hv).2 k hk).2.1 o.size, ((h.val v hv).2 k hk).2.2⟩⟩⟩
theorem Mk.free {N : Nat} {w w' : World} {a : Option Addr} {c : Nat} {l : List V} (h : Mk N w a c l) (o : Off (fun _ => False) w w') : Mk N w' a c l := h.off o (fun _ _ _ h => h)
theorem Mk.row {N : Nat} {w : World} {a : Option Addr} {c : Nat} {l : List V} (h : Mk N w a c l) : Row w a c l := h.own.toRow (fun v hv => (h.val v hv).1)
theorem Mk.snoc {N : Nat} {w w' : World} {a a' : Option Addr} {c c' : Nat} {l : List V} {u : V} (h : Mk N w a c l) (hN : N ≤ w.heap.size) (hu : VOk w u) (hk : ∀ k, blk u.ad = some k → N ≤ k ∧ k < w.heap.size ∧ blk a ≠ some k)
  (own : OwnV w' a' c' (l ++ [u])) (o : Off (fun k => blk a = some k) w w') (hat : blk a' = blk a ∨ blk a' = some w.heap.size) : Mk N w' a' c' (l ++ [u]) := by
 have far : ∀ k, k < w.heap.size → blk a ≠ some k → blk a' ≠ some k := fun k h1 h2 e => by
  rcases hat with h | h
  ·exact h2 (h ▸ e)
  ·rw [h] at e
   simp at e
   omega
 refine ⟨own, fun k hk => ?_, fun v hv => ?_⟩
 ·rcases hat with e | e
  ·exact h.lo k (e ▸ hk)
  ·rw [e] at hk
   simp at hk
   omega
 ·rw [List.mem_append, List.mem_singleton] at hv
  rcases hv with hv | rfl
  ·have hx := h.val v hv
   exact ⟨hx.1.off o (fun k _ hk => (hx.2 k hk).2.2), fun k hk => ⟨(hx.2 k hk).1, Nat.lt_of_lt_of_le (hx.2 k hk).2.1 o.size, far k (hx.2 k hk).2.1 (hx.2 k hk).2.2⟩⟩
  ·exact ⟨hu.off o (fun k _ h => (hk k h).2.2), fun k h => ⟨(hk k h).1, Nat.lt_of_lt_of_le (hk k h).2.1 o.size, far k (hk k h).2.1 (hk k h).2.2⟩⟩
end Go.Proofs.YtmbphlkohlggfaaGreat

namespace Go.Proofs.YtmbphlkohlggfaaGreat
open Go.RowKit
def valN (s : RS) : Nat := (numS s).1
def valI (s : RS) : Int := (intS (numS s).2).1
def valG (s : RS) : Bool := (flagS (intS (numS s).2).2).1
def valT (s : RS) : List Nat := (textS 200 (flagS (intS (numS s).2).2).2).1
def valS (s : RS) : RS := (textS 200 (flagS (intS (numS s).2).2).2).2
def nodeP (n : Nat) : Int := RowKit.wrap64 (n : Int)
def nodeR (n : Nat) : Int := ((min n 1073741824 : Nat) : Int)
def rdA (nd : Nat → Int) (s : RS) : A := ⟨nd (valN s), valI s, valT s, valG s⟩
theorem nodeP_range (n : Nat) : -9223372036854775808 ≤ nodeP n ∧ nodeP n ≤ 9223372036854775807 := by
 unfold nodeP RowKit.wrap64
 omega
theorem unzig_range5 {n : Nat} (h : n < 18446744073709551616) : -9223372036854775808 ≤ unzig n ∧ unzig n ≤ 9223372036854775807 := by
 unfold unzig
 split <;> omega
theorem text_take (m : Nat) {s : RS} (h : Ok s) : (∀ x ∈ (textS m s).1, x < 256) ∧ (textS m s).1.length ≤ m := by
 have hc := count_ok m h
 unfold textS
 split
 ·simp
 ·split
  ·simp
  ·refine ⟨fun x hx => hc.1.1 x (List.mem_of_mem_take hx), ?_⟩
   simp only [List.length_take]
   have := hc.2.1
   omega
theorem sfailed_any {D : Nat → Prop} {b : Nat} {s : RS} {w : World} (hR : Rdr 96 D b s w) :
  Calls Tryz.prog 113 #[.pointer (some ⟨b, 0, none⟩)] w fun e w' => e = .returned (.bool (!decide (s.2 = 0))) ∧ w' = w := by
 have HR : Hid _ := hR
 have hok := hR.ok
 clear hR
 by_cases h0 : s.1.length = 0
 ·have e0 : (((s.1.length : Nat) : Int) == 0) = true := by simp [h0]
  have he : endS s = s.2 := by
   have : s.1 = [] := List.eq_nil_of_length_eq_zero h0
   simp [endS, this]
  have e1 : ((((endS s : Nat) : Int)) != 0) = !decide (s.2 = 0) := by
   rw [he]
   by_cases h2 : s.2 = 0
   ·simp [h2]
   ·have : (((s.2 : Nat) : Int) != 0) = true := by simp [h2]
    rw [this]
    simp [h2]
  clear h0 he hok
  go_enter Tryz.func113, Tryz.ntmps113
  go_wp2_with fail
  refine (rleft_any HR.out).mono ?_
  rintro e w1 ⟨rfl, hw⟩
  rw [hw]; clear hw w1
  go_wp2_with fail
  refine (rend_any HR.out).mono ?_
  rintro e w1 ⟨rfl, hw⟩
  rw [hw]; clear hw w1
  go_wp2_with fail
  go_ret
  exact ⟨rfl, rfl⟩
 ·have e0 : (((s.1.length : Nat) : Int) == 0) = false := by rw [beq_eq_false_iff_ne]; omega
  have h2 : s.2 = 0 := by
   rcases Nat.eq_zero_or_pos s.2 with h | h
   ·exact h
   ·have := hok.2.1 (by omega)
    simp [this] at h0
  have e1 : Hid ((!decide (s.2 = 0)) = false) := (show (!decide (s.2 = 0)) = false by simp [h2])
  clear h0 h2 hok
  go_enter Tryz.func113, Tryz.ntmps113
  go_wp2_with fail
  refine (rleft_any HR.out).mono ?_
  rintro e w1 ⟨rfl, hw⟩
  rw [hw]; clear hw w1
  go_wp2_with fail
  go_ret
  rw [e1.out]
  exact ⟨rfl, rfl⟩
set_option maxRecDepth 100000 in
set_option maxHeartbeats 1000000 in
theorem readValue_any {D : Nat → Prop} {b : Nat} {s : RS} {w : World} (hR : Rdr 96 D b s w) :
  Calls Tryz.prog 112 #[.pointer (some ⟨b, 0, none⟩)] w fun e w' => ∃ u : V, e = .returned (.agg #[.int .i64 u.node, .int .i64 u.num, .slice u.ad u.data.length u.cap, .bool u.dead]) ∧ u.abs = rdA nodeP s ∧ OwnR w' u.ad u.cap u.data ∧ (∀ k, blk u.ad = some k → w.heap.size ≤ k) ∧ VOk w' u ∧ Rdr 96 D b (valS s) w' ∧ Off (fun c => c = b) w w' := by
 have HOK : Hid _ := hR.ok
 obtain ⟨s1, hs1⟩ : ∃ x, x = (numS s).2 := ⟨_, rfl⟩
 obtain ⟨n, hn⟩ : ∃ x, x = (numS s).1 := ⟨_, rfl⟩
 have e1 : numS s = (n, s1) := by rw [hn, hs1]
 obtain ⟨s2, hs2⟩ : ∃ x, x = (intS s1).2 := ⟨_, rfl⟩
 obtain ⟨i, hi⟩ : ∃ x, x = (intS s1).1 := ⟨_, rfl⟩
 have e2 : intS s1 = (i, s2) := by rw [hi, hs2]
 obtain ⟨s3, hs3⟩ : ∃ x, x = (flagS s2).2 := ⟨_, rfl⟩
 obtain ⟨g, hg⟩ : ∃ x, x = (flagS s2).1 := ⟨_, rfl⟩
 have e3 : flagS s2 = (g, s3) := by rw [hg, hs3]
 obtain ⟨s4, hs4⟩ : ∃ x, x = (textS 200 s3).2 := ⟨_, rfl⟩
 obtain ⟨tx, htx⟩ : ∃ x, x = (textS 200 s3).1 := ⟨_, rfl⟩
 have e4 : textS 200 s3 = (tx, s4) := by rw [htx, hs4]
 have hA : rdA nodeP s = ⟨nodeP n, i, tx, g⟩ := by simp only [rdA, valN, valI, valG, valT, e1, e2, e3, e4]
 have hS : valS s = s4 := by simp only [valS, e1, e2, e3, e4]
 have ok1 : Ok s1 := by have := (num_ok HOK.out).1; rwa [e1] at this
 have hi2 := unzig_range5 (num_ok ok1).2.1
 have hir : -9223372036854775808 ≤ i ∧ i ≤ 9223372036854775807 := by rw [hi]; exact hi2
 have ok2 : Ok s2 := by have := (num_ok ok1).1; rw [hs2]; exact this
 have ok3 : Ok s3 := by have := flag_ok ok2; rwa [e3] at this
 have htl := text_take 200 ok3
 rw [e4] at htl
 rw [hA, hS]
 have HE1 : Hid _ := e1
 have HE2 : Hid _ := e2
 have HE3 : Hid _ := e3
 have HE4 : Hid (textS (200 : Int).toNat s3 = (tx, s4)) := e4
 have HF : Hid _ := And.intro hir htl
 clear hs1 hn hs2 hi hs3 hg hs4 htx e1 e2 e3 e4 hA hS ok1 ok2 ok3 hi2 hir htl
 obtain ⟨W, hW⟩ : ∃ W, W = ((w.alloc (.cells #[.int .i64 zeroV.node, .int .i64 zeroV.num, .slice zeroV.ad zeroV.data.length zeroV.cap, .bool zeroV.dead] 137)).alloc (.cells #[.int .i64 zeroV.node, .int .i64 zeroV.num, .slice zeroV.ad zeroV.data.length zeroV.cap, .bool zeroV.dead] 137)) := ⟨_, rfl⟩
 have O : Off (fun _ => False) w W := by rw [hW]; exact ((Off.refl _ w).alloc _).alloc _
 have D2 : Cel w.heap.size 137 #[.int .i64 zeroV.node, .int .i64 zeroV.num, .slice zeroV.ad zeroV.data.length zeroV.cap, .bool zeroV.dead] W := by rw [hW]; exact (Cel.new w _ _).alloc _
 have D3 : Cel (w.heap.size + 1) 137 #[.int .i64 zeroV.node, .int .i64 zeroV.num, .slice zeroV.ad zeroV.data.length zeroV.cap, .bool zeroV.dead] W := by rw [hW]; exact Cel.new1 w _ _ _
 have HB : Hid (b < w.heap.size) := hR.here
 have HL : Hid (∀ c, D c → c < w.heap.size) := hR.lt
 have R := hR.off O (fun h => h) (fun _ _ _ h => h)
 have OT : Off (fun c => c = b) w W := O.mono (fun _ _ h => h.elim)
 have HW : Hid _ := hW.symm
 clear hW O hR
 go_enter Tryz.func112, Tryz.ntmps112
 go_upto_region 2 with fail
 have eW : ((w.alloc (.cells #[.int .i64 0, .int .i64 0, .slice none 0 0, .bool false] 137)).alloc (.cells #[.int .i64 0, .int .i64 0, .slice none 0 0, .bool false] 137)) = W := HW.out
 rw [eW]
 clear eW HW
 have hsz := D3.lt
 generalize hq3 : w.heap.size + 1 = q3 at D3 ⊢
 generalize hq2 : w.heap.size = q2 at D2 ⊢
 have HQ : Hid (w.heap.size ≤ q2 ∧ w.heap.size ≤ q3 ∧ q2 ≠ q3 ∧ q3 < W.heap.size ∧ q2 < W.heap.size) := ⟨by omega, by omega, by omega, by omega, by omega⟩
 clear hq2 hq3 hsz
 go_wp2_with fail
 refine (rnum_any R).mono ?_
 rw [HE1.out]
 dsimp only
 rintro e v1 ⟨rfl, R1, o1⟩
 replace D2 := D2.off o1 (fun e => by have := HB.out; have := HQ.out; omega)
 replace D3 := D3.off o1 (fun e => by have := HB.out; have := HQ.out; omega)
 replace OT := OT.trans o1 (fun _ _ h => h)
 clear R o1
 have R := R1
 clear R1
 have hwn : RowKit.wrap64 (n : Int) = nodeP n := rfl
 generalize hnp : nodeP n = np at hwn ⊢
 have HNP : Hid (np = nodeP n) := hnp.symm
 clear hnp
 have b3 := D3.free
 obtain ⟨e0, e1, e2, e3⟩ := cel4 D3
 go_upto_region 3 with fail
 clear e0 e1 e2 e3 b3
 have E3 := D3.set 0 (.int .i64 np)
 simp only [List.setIfInBounds_toArray, List.set_cons_zero] at E3
 have os : Off (fun c => c = q3) v1 (v1.setCell ⟨q3, 0, none⟩ (.int .i64 np)) := (Off.refl (fun c => c = q3) v1).setCell (p := ⟨q3, 0, none⟩) (.inl rfl) _
 have R2 := R.off os (fun e => by have := HB.out; have := HQ.out; omega) (fun c _ hc e => by have := HL.out c hc; have := HQ.out; omega)
 have F2 := D2.off os (fun e => by have := HQ.out; omega)
 have OO := OT.setCell (p := ⟨q3, 0, none⟩) (.inr HQ.out.2.1) (.int .i64 np)
 generalize hv : v1.setCell ⟨q3, 0, none⟩ (.int .i64 np) = v2 at E3 os R2 F2 OO ⊢
 clear hv D3 D2 R OT
 clear os hwn
 have D3 := E3
 have D2 := F2
 clear E3 F2
 go_wp2_with fail
 refine (rint_any R2).mono ?_
 rw [HE2.out]
 dsimp only
 rintro e v3 ⟨rfl, R1, o1⟩
 replace D2 := D2.off o1 (fun e => by have := HB.out; have := HQ.out; omega)
 replace D3 := D3.off o1 (fun e => by have := HB.out; have := HQ.out; omega)
 have OT := OO.trans o1 (fun _ _ h => h)
 clear R2 o1 OO
 have R := R1
 clear R1
 have b3 := D3.free
 obtain ⟨e0, e1, e2, e3⟩ := cel4 (v := ⟨np, 0, none, 0, [], false⟩) D3
 go_upto_region 4 with fail
 clear e0 e1 e2 e3 b3
 have E3 := D3.set 1 (.int .i64 i)
 simp only [lsA, lsZ, lsS] at E3
 have os : Off (fun c => c = q3) v3 (v3.setCell ⟨q3, 1, none⟩ (.int .i64 i)) := (Off.refl (fun c => c = q3) v3).setCell (p := ⟨q3, 1, none⟩) (.inl rfl) _
 have R3 := R.off os (fun e => by have := HB.out; have := HQ.out; omega) (fun c _ hc e => by have := HL.out c hc; have := HQ.out; omega)
 have F2 := D2.off os (fun e => by have := HQ.out; omega)
 have OO := OT.setCell (p := ⟨q3, 1, none⟩) (.inr HQ.out.2.1) (.int .i64 i)
 generalize hv : v3.setCell ⟨q3, 1, none⟩ (.int .i64 i) = v4 at E3 os R3 F2 OO ⊢
 clear hv D3 D2 R OT
 clear os
 have D3 := E3
 have D2 := F2
 clear E3 F2
 go_wp2_with fail
 refine (rflag_any R3).mono ?_
 rw [HE3.out]
 dsimp only
 rintro e v5 ⟨rfl, R1, o1⟩
 replace D2 := D2.off o1 (fun e => by have := HB.out; have := HQ.out; omega)
 replace D3 := D3.off o1 (fun e => by have := HB.out; have := HQ.out; omega)
 have OT := OO.trans o1 (fun _ _ h => h)
 clear R3 o1 OO
 have R := R1
 clear R1
 have b3 := D3.free
 obtain ⟨e0, e1, e2, e3⟩ := cel4 (v := ⟨np, i, none, 0, [], false⟩) D3
 go_upto_region 5 with fail
 clear e0 e1 e2 e3 b3
 have E3 := D3.set 3 (.bool g)
 simp only [lsA, lsZ, lsS] at E3
 have os : Off (fun c => c = q3) v5 (v5.setCell ⟨q3, 3, none⟩ (.bool g)) := (Off.refl (fun c => c = q3) v5).setCell (p := ⟨q3, 3, none⟩) (.inl rfl) _
 have R4 := R.off os (fun e => by have := HB.out; have := HQ.out; omega) (fun c _ hc e => by have := HL.out c hc; have := HQ.out; omega)
 have F2 := D2.off os (fun e => by have := HQ.out; omega)
 have OO := OT.setCell (p := ⟨q3, 3, none⟩) (.inr HQ.out.2.1) (.bool g)
 generalize hv : v5.setCell ⟨q3, 3, none⟩ (.bool g) = v6 at E3 os R4 F2 OO ⊢
 clear hv D3 D2 R OT
 clear os
 have D3 := E3
 have D2 := F2
 clear E3 F2
 have HS6 : Hid (q3 < v6.heap.size ∧ q2 < v6.heap.size) := ⟨D3.lt, D2.lt⟩
 go_wp2_with fail
 refine (rtext_any R4 200 (by decide) (by decide)).mono ?_
 rw [HE4.out]
 dsimp only
 rintro e v7 ⟨t, c, rfl, own, hk, R1, o1⟩
 replace D2 := D2.off o1 (fun e => by have := HB.out; have := HQ.out; omega)
 replace D3 := D3.off o1 (fun e => by have := HB.out; have := HQ.out; omega)
 have HSZ : Hid (w.heap.size ≤ v6.heap.size) := OO.size
 have HSQ : Hid (q3 < v6.heap.size ∧ q2 < v6.heap.size) := ⟨HS6.out.1, HS6.out.2⟩
 have OT := OO.trans o1 (fun _ _ h => h)
 clear R4 o1 OO
 have R := R1
 clear R1
 have HOW : Hid _ := own
 have HK : Hid _ := hk
 clear own hk
 have b3 := D3.free
 obtain ⟨e0, e1, e2, e3⟩ := cel4 (v := ⟨np, i, none, 0, [], g⟩) D3
 go_upto_region 6 with fail
 clear e0 e1 e2 e3 b3
 have E3 := D3.set 2 (.slice t tx.length c)
 simp only [lsA, lsZ, lsS] at E3
 have os : Off (fun c => c = q3) v7 (v7.setCell ⟨q3, 2, none⟩ (.slice t tx.length c)) := (Off.refl (fun c => c = q3) v7).setCell (p := ⟨q3, 2, none⟩) (.inl rfl) _
 have R5 := R.off os (fun e => by have := HB.out; have := HQ.out; omega) (fun c _ hc e => by have := HL.out c hc; have := HQ.out; omega)
 have F2 := D2.off os (fun e => by have := HQ.out; omega)
 have OO := OT.setCell (p := ⟨q3, 2, none⟩) (.inr HQ.out.2.1) (.slice t tx.length c)
 generalize hv : v7.setCell ⟨q3, 2, none⟩ (.slice t tx.length c) = v8 at E3 os R5 F2 OO ⊢
 clear hv D3 D2 R OT
 have HOW8 : Hid _ := HOW.out.off os (fun k _ hk e => by have := HK.out k hk; have := HSQ.out.1; omega)
 clear os
 obtain ⟨e0, e1, e2, e3⟩ := cel4 (v := ⟨np, i, t, c, tx, g⟩) E3
 obtain ⟨f0, f1, f2, f3⟩ := cel4 F2
 have fz := F2.free
 have HF2 : Hid _ := F2
 have HR5 : Hid _ := R5
 have HOO : Hid _ := OO
 clear E3 F2 R5 OO
 go_wp2_with fail
 refine bodyPost_ret (results_val rfl rfl (HF2.out.st4 ⟨np, i, t, c, tx, g⟩)) rfl ?_
 have HAB : Hid ((⟨np, i, t, c, tx, g⟩ : V).abs = (⟨nodeP n, i, tx, g⟩ : A)) := by show (⟨np, i, tx, g⟩ : A) = _; rw [HNP.out]
 have os := (Off.refl (fun k => k = q2) v8).st4 (.inl rfl) ⟨np, i, t, c, tx, g⟩
 have own9 := HOW8.out.off os (fun k _ hk e => by have := HK.out k hk; have := HSQ.out.2; omega)
 have hnr := nodeP_range n
 rw [← HNP.out] at hnr
 have htl : tx.length ≤ 140737488351232 := by have := HF.out.2.2; omega
 have vok : VOk _ (⟨np, i, t, c, tx, g⟩ : V) := ⟨own9.src, HF.out.2.1, hnr.1, hnr.2, HF.out.1.1, HF.out.1.2, htl⟩
 have r9 := HR5.out.off os (fun e => by have := HB.out; have := HQ.out; omega) (fun c _ hc e => by have := HL.out c hc; have := HQ.out; omega)
 have o9 := HOO.out.st4 (b := q2) (.inr HQ.out.1) (⟨np, i, t, c, tx, g⟩ : V)
 have f9 : ∀ k, blk t = some k → w.heap.size ≤ k := fun k hk => Nat.le_trans HSZ.out (HK.out k hk)
 exact ⟨(⟨np, i, t, c, tx, g⟩ : V), rfl, HAB.out, own9, f9, vok, r9, o9⟩
end Go.Proofs.YtmbphlkohlggfaaGreat

namespace Go.Proofs.YtmbphlkohlggfaaGreat
open Go.RowKit
structure Frh (N : Nat) (a : Option Addr) (l : List V) : Prop where
 lo : ∀ k, blk a = some k → N ≤ k
 val : ∀ v ∈ l, ∀ k, blk v.ad = some k → N ≤ k
theorem Frh.nil (N : Nat) : Frh N none [] := ⟨fun k hk => by simp [blk] at hk, fun v hv => by simp at hv⟩
theorem Row.far {N q : Nat} {w w' : World} {a : Option Addr} {c : Nat} {l : List V} (h : Row w a c l) (fr : Frh N a l) (hq : q < N) (o : Off (fun k => k = q) w w') : Row w' a c l :=
 h.offD o (fun k _ hk e => by have := fr.lo k hk; omega) (fun v hv k _ hk e => by have := fr.val v hv k hk; omega)
def rdSt (s : RS) : Nat → RS
 | 0 => s
 | n + 1 => valS (rdSt s n)
def rdL (nd : Nat → Int) (n : Nat) (s : RS) : List A := (List.range n).map fun i => rdA nd (rdSt s i)
theorem rdL_succ (nd : Nat → Int) (n : Nat) (s : RS) : rdL nd (n + 1) s = rdL nd n s ++ [rdA nd (rdSt s n)] := by simp [rdL, List.range_succ]
def srV (nd : Nat → Int) (s : RS) : List A := rdL nd (countS 16 (rdV s 8)).1 (countS 16 (rdV s 8)).2
def srS (s : RS) : RS := rdSt (countS 16 (rdV s 8)).2 (countS 16 (rdV s 8)).1
def srB (nd : Nat → Int) (s : RS) : Bool := readB s && decide ((srS s).2 = 0) && mayS (readF s) (srV nd s)
def srF (nd : Nat → Int) (s : RS) : Nat → Int := if srB nd s = true then readF s else zer
def srL (nd : Nat → Int) (s : RS) : List A := if srB nd s = true then srV nd s else []
theorem sr_no {nd : Nat → Int} {s : RS} (h : readB s = false ∨ decide ((srS s).2 = 0) = false ∨ mayS (readF s) (srV nd s) = false) : srB nd s = false ∧ zer = srF nd s ∧ cont [] = srL nd s := by
 have e : srB nd s = false := by
  unfold srB
  rcases h with h | h | h <;> simp [h]
 refine ⟨e, ?_, ?_⟩
 ·simp [srF, e]
 ·simp [srL, e, cont]
theorem sr_yes {nd : Nat → Int} {s : RS} (h1 : readB s = true) (h2 : decide ((srS s).2 = 0) = true) (h3 : mayS (readF s) (srV nd s) = true) : srB nd s = true ∧ readF s = srF nd s ∧ srV nd s = srL nd s := by
 have e : srB nd s = true := by simp [srB, h1, h2, h3]
 simp [srF, srL, e]
theorem rdV_ok {s : RS} (h : Ok s) : ∀ n, Ok (rdV s n)
 | 0 => h
 | n + 1 => (num_ok (rdV_ok h n)).1
set_option maxRecDepth 100000 in
set_option maxHeartbeats 4000000 in
theorem sread_any {D : Nat → Prop} {b : Nat} {s : RS} {w : World} (hR : Rdr 96 D b s w) :
  Calls Tryz.prog 90 #[.pointer (some ⟨b, 0, none⟩)] w fun e w' => ∃ (h : Nat → Int) (a' : Option Addr) (c' : Nat) (l' : List V), e = .returned (.tuple #[.agg #[.int .i64 (h 0), .int .i64 (h 1), .int .i64 (h 2), .int .i64 (h 3), .int .i64 (h 4), .int .i64 (h 5), .int .i64 (h 6), .int .i64 (h 7), .slice a' l'.length c'], .bool (srB nodeP s)]) ∧ h = srF nodeP s ∧ cont l' = srL nodeP s ∧ Row w' a' c' l' ∧ Frh w.heap.size a' l' ∧ Rdr 96 D b (srS s) w' ∧ Off (fun c => c = b) w w' := by
 have hnot := not_any
 have HB : Hid (b < w.heap.size) := hR.here
 have HLD : Hid (∀ c, D c → c < w.heap.size) := hR.lt
 obtain ⟨fF, hfF⟩ : ∃ f, f = readF s := ⟨_, rfl⟩
 obtain ⟨okB, hokB⟩ : ∃ x, x = readB s := ⟨_, rfl⟩
 obtain ⟨cnt, hcn⟩ : ∃ x, x = (countS 16 (rdV s 8)).1 := ⟨_, rfl⟩
 obtain ⟨s2, hs2⟩ : ∃ x, x = (countS 16 (rdV s 8)).2 := ⟨_, rfl⟩
 have HFF : Hid _ := hfF
 have HOK : Hid _ := hokB
 have HCN : Hid (countS 16 (rdV s 8) = (cnt, s2)) := by show _ = _; rw [hcn, hs2]
 have hc16 : cnt ≤ 16 := by rw [hcn]; exact (count_ok 16 (rdV_ok hR.ok 8)).2.1
 clear hfF hokB hcn hs2
 have C2 := Cel.new w 44 #[.int .i64 (zer 0), .int .i64 (zer 1), .int .i64 (zer 2), .int .i64 (zer 3), .int .i64 (zer 4), .int .i64 (zer 5), .int .i64 (zer 6), .int .i64 (zer 7), .slice none 0 0]
 have O : Off (fun _ => False) w (w.alloc (.cells #[.int .i64 (zer 0), .int .i64 (zer 1), .int .i64 (zer 2), .int .i64 (zer 3), .int .i64 (zer 4), .int .i64 (zer 5), .int .i64 (zer 6), .int .i64 (zer 7), .slice none 0 0] 44)) := (Off.refl _ w).alloc _
 have R0 := hR.off O (fun h => h) (fun _ _ _ h => h)
 clear hR
 go_enter Tryz.func90, Tryz.ntmps90
 go_upto_region 1 with fail
 have eW : w.alloc (.cells #[.int .i64 0, .int .i64 0, .int .i64 0, .int .i64 0, .int .i64 0, .int .i64 0, .int .i64 0, .int .i64 0, .slice none 0 0] 44) = w.alloc (.cells #[.int .i64 (zer 0), .int .i64 (zer 1), .int .i64 (zer 2), .int .i64 (zer 3), .int .i64 (zer 4), .int .i64 (zer 5), .int .i64 (zer 6), .int .i64 (zer 7), .slice none 0 0] 44) := rfl
 rw [eW]
 clear eW
 generalize hq : w.heap.size = q2 at C2 ⊢
 have HQ2 : Hid (w.heap.size ≤ q2) := by show _ ≤ _; omega
 generalize hv : w.alloc (.cells #[.int .i64 (zer 0), .int .i64 (zer 1), .int .i64 (zer 2), .int .i64 (zer 3), .int .i64 (zer 4), .int .i64 (zer 5), .int .i64 (zer 6), .int .i64 (zer 7), .slice none 0 0] 44) = W at C2 O R0 ⊢
 clear hq hv
 go_wp2_with fail
 refine (vread_any R0).mono ?_
 rw [← HFF.out, ← HOK.out]
 rintro e w1 ⟨rfl, R1, o1⟩
 replace C2 := C2.off o1 (fun e => by have := HB.out; have := HQ2.out; omega)
 have O1 : Off (fun c => c = b) w w1 := (O.mono (fun _ _ h => h.elim)).trans o1 (fun _ _ h => h)
 have hl2 := C2.lt
 clear R0 o1 O
 go_upto_region 2 with fail
 have C4 := Cel.new w1 41 #[.int .i64 (fF 0), .int .i64 (fF 1), .int .i64 (fF 2), .int .i64 (fF 3), .int .i64 (fF 4), .int .i64 (fF 5), .int .i64 (fF 6), .int .i64 (fF 7)]
 have OA : Off (fun _ => False) w1 (w1.alloc (.cells #[.int .i64 (fF 0), .int .i64 (fF 1), .int .i64 (fF 2), .int .i64 (fF 3), .int .i64 (fF 4), .int .i64 (fF 5), .int .i64 (fF 6), .int .i64 (fF 7)] 41)) := (Off.refl _ w1).alloc _
 generalize hq : w1.heap.size = q4 at C4 ⊢
 generalize hv : w1.alloc (.cells #[.int .i64 (fF 0), .int .i64 (fF 1), .int .i64 (fF 2), .int .i64 (fF 3), .int .i64 (fF 4), .int .i64 (fF 5), .int .i64 (fF 6), .int .i64 (fF 7)] 41) = w2 at C4 OA ⊢
 clear hq hv
 replace C2 := C2.off OA (fun h => h)
 have O2 := O1.trans (OA.mono (fun _ _ h => h.elim)) (fun _ _ h => h)
 have R2 := R1.off OA (fun h => h) (fun _ _ _ h => h)
 have hz2 := OA.size
 clear R1 OA O1
 obtain ⟨x0, x1, x2, x3, x4, x5, x6, x7⟩ := cel8 C4
 go_upto_region 3 with fail
 clear x0 x1 x2 x3 x4 x5 x6 x7
 have C6 := Cel.new w2 44 #[.int .i64 (fF 0), .int .i64 (fF 1), .int .i64 (fF 2), .int .i64 (fF 3), .int .i64 (fF 4), .int .i64 (fF 5), .int .i64 (fF 6), .int .i64 (fF 7), .slice none 0 0]
 have OA : Off (fun _ => False) w2 (w2.alloc (.cells #[.int .i64 (fF 0), .int .i64 (fF 1), .int .i64 (fF 2), .int .i64 (fF 3), .int .i64 (fF 4), .int .i64 (fF 5), .int .i64 (fF 6), .int .i64 (fF 7), .slice none 0 0] 44)) := (Off.refl _ w2).alloc _
 generalize hq : w2.heap.size = q6 at C6 ⊢
 have hq6 : q2 < q6 := by omega
 have hq7 : w.heap.size ≤ q6 := by have := O2.size; omega
 generalize hv : w2.alloc (.cells #[.int .i64 (fF 0), .int .i64 (fF 1), .int .i64 (fF 2), .int .i64 (fF 3), .int .i64 (fF 4), .int .i64 (fF 5), .int .i64 (fF 6), .int .i64 (fF 7), .slice none 0 0] 44) = w3 at C6 OA ⊢
 clear hq hv hz2 hl2
 replace C2 := C2.off OA (fun h => h)
 have O3 := O2.trans (OA.mono (fun _ _ h => h.elim)) (fun _ _ h => h)
 have R3 := R2.off OA (fun h => h) (fun _ _ _ h => h)
 clear R2 OA O2 C4
 go_wp2_with fail
 refine (rcount_any R3 16 (by decide) (by decide)).mono ?_
 rw [show countS (16 : Int).toNat (rdV s 8) = (cnt, s2) from HCN.out]
 dsimp only
 rintro e w8 ⟨rfl, R4, o4⟩
 have HQQ : Hid (q2 ≠ q6 ∧ w.heap.size ≤ q2) := ⟨by omega, HQ2.out⟩
 have HQ6 : Hid (w.heap.size ≤ q6) := hq7
 have HC6 : Hid _ := C6.off o4 (fun e => by have := HB.out; omega)
 have H28 : Hid _ := C2.off o4 (fun e => by have := HB.out; have := HQ2.out; omega)
 have HO8 : Hid (Off (fun c => c = b) w w8) := O3.trans o4 (fun _ _ h => h)
 have HR8 : Hid _ := R4
 have HL6 : Hid (q6 < w8.heap.size) := HC6.out.lt
 have HN : Hid (w.heap.size ≤ w8.heap.size) := HO8.out.size
 clear C6 C2 O3 R3 R4 o4 hq6 hq7
 go_wp2_with fail
 go_loopw [16] (fun y wr => ∃ (i : Nat) (lo : List V) (ao : Option Addr) (co : Nat), y = .int .i64 (i : Int) ∧ i ≤ cnt ∧ Cel q6 44 #[.int .i64 (fF 0), .int .i64 (fF 1), .int .i64 (fF 2), .int .i64 (fF 3), .int .i64 (fF 4), .int .i64 (fF 5), .int .i64 (fF 6), .int .i64 (fF 7), .slice ao lo.length co] wr ∧ Mk w8.heap.size wr ao co lo ∧ lo.length ≤ i ∧ cont lo = rdL nodeP i s2 ∧ Rdr 96 D b (rdSt s2 i) wr ∧ Off (fun c => c = b ∨ c = q6) w8 wr) (fun y _ => (cnt - intOf y).toNat)
 case atStart => exact ⟨0, [], none, 0, rfl, by omega, HC6.out, Mk.nil _ _, by simp, by simp [cont, rdL], HR8.out, Off.refl _ _⟩
 case round =>
  clear HC6 HR8
  obtain ⟨i, lo, ao, co, rfl, hi, bx, mk, hlol, hlo, rd, po⟩ := hrel
  have HBX : Hid _ := bx
  have HMK : Hid _ := mk
  have HLO : Hid _ := hlo
  have HRD : Hid _ := rd
  have HPO : Hid (Off (fun c => c = b ∨ c = q6) w8 wr) := po
  clear bx mk hlo rd po
  by_cases hil : i < cnt
  ·have i1 : decide ((i : Int) < (cnt : Int)) = true := decide_eq_true (by omega)
   have i2 : decide (i < cnt) = true := decide_eq_true hil
   go_upto_region 5 with fail
   have HSW : Hid (w8.heap.size ≤ wr.heap.size) := HPO.out.size
   refine wp_region_held_drew (S := fun w' => Off (fun c => c = b ∨ c = q6 ∨ blk ao = some c) wr w') (by kernel_rfl) ((Off.refl _ wr).drew) (fun hS => ?_)
   have BX := HBX.out.drew
   have MK := HMK.out.free ((Off.refl _ wr).drew)
   have RD := HRD.out.off ((Off.refl (fun _ => False) wr).drew) (fun h => h) (fun _ _ _ h => h)
   have MKA : Hid (∀ k, blk ao = some k → w8.heap.size ≤ k) := HMK.out.lo
   have MKL : Hid (∀ k, blk ao = some k → k < wr.heap.size) := HMK.out.own.lt
   have hv1 : wr.drew.heap.size = wr.heap.size := rfl
   generalize hdr : wr.drew = va at BX MK RD hS hv1 ⊢
   clear hdr
   refine take_at (i := 0) 18 (v := .pointer (some ⟨q6, 8, none⟩)) rfl rfl (by kernel_rfl) (by kernel_rfl) (by kernel_rfl) (fun _ _ _ h => h) (Or.inl ⟨by rfl, fun w' hw' => by go_simp⟩) hS ?_
   simp only [Act.put, lsA, lsZ, lsS]
   refine take_at (i := 2) 20 (v := .pointer (some ⟨b, 0, none⟩)) rfl rfl (by kernel_rfl) (by kernel_rfl) (by kernel_rfl) (fun _ _ _ h => h) (Or.inl ⟨by rfl, fun w' hw' => by go_simp⟩) hS ?_
   simp only [Act.put, lsA, lsZ, lsS]
   refine wpAnyH_ready (rs := [1, 3]) (by kernel_rfl) (by simp) ?_
   refine AllReadyH.cons rfl (fun K' hK' => ?_) (AllReadyH.cons rfl (fun K' hK' => ?_) AllReadyH.nil)
   ·obtain ⟨x0, x1, x2, x3, x4, x5, x6, x7, x8⟩ := cel9 BX
    go_simp
    refine hK'.out _ _ hS (fun hS => ?_)
    clear hK' K' x0 x1 x2 x3 x4 x5 x6 x7 x8
    refine wpAnyH_ready (rs := [3]) (by kernel_rfl) (by simp) ?_
    refine AllReadyH.cons rfl (fun K' hK' => ?_) AllReadyH.nil
    go_simp
    refine (readValue_any RD).mono ?_
    rintro e vb ⟨u, rfl, hu, uo, un, uk, RD2, o1⟩
    have hS1 := hS.trans (o1.mono (E := fun c => c = b ∨ c = q6 ∨ blk ao = some c) (fun _ _ h => .inl h)) (fun _ _ h => h)
    refine hK'.out _ _ hS1 (fun hS => ?_)
    clear hK' K' hS1
    replace BX := BX.off o1 (fun e => by have := HQ6.out; have := HB.out; omega)
    replace MK := MK.off o1 (fun k h1 _ e => by have := HB.out; have := HN.out; omega)
    have UK : VOk vb u ∧ ∀ k, blk u.ad = some k → va.heap.size ≤ k ∧ k < vb.heap.size := ⟨uk, fun k hk => ⟨un k hk, uo.lt k hk⟩⟩
    have HU : Hid _ := hu
    have HSZ : Hid (va.heap.size ≤ vb.heap.size) := o1.size
    clear uo uk un hu o1 RD
    refine wpAnyH_ready (rs := [4]) (by kernel_rfl) (by simp) ?_
    refine AllReadyH.cons rfl (fun K' hK' => ?_) AllReadyH.nil
    go_simp
    refine hK'.out _ _ (hS.alloc _) (fun hS => ?_)
    clear hK' K'
    have CB := Cel.new vb 137 #[.int .i64 u.node, .int .i64 u.num, .slice u.ad u.data.length u.cap, .bool u.dead]
    have OB : Off (fun _ => False) vb (vb.alloc (.cells #[.int .i64 u.node, .int .i64 u.num, .slice u.ad u.data.length u.cap, .bool u.dead] 137)) := (Off.refl _ vb).alloc _
    generalize hqb : vb.heap.size = qb at CB ⊢
    generalize hvb : vb.alloc (.cells #[.int .i64 u.node, .int .i64 u.num, .slice u.ad u.data.length u.cap, .bool u.dead] 137) = vc at CB OB hS ⊢
    clear hvb hqb
    replace BX := BX.off OB (fun h => h)
    replace MK := MK.free OB
    replace RD2 := RD2.off OB (fun h => h) (fun _ _ _ h => h)
    have RB := row_one CB (UK.1.off OB (fun _ _ _ h => h))
    obtain ⟨a2, c2, v2, hr, own2, o2, at2⟩ := app_runV MK.own RB (fun h => by simp at h) (by simp; omega) 42
    refine wpAnyH_ready (rs := [5]) (by kernel_rfl) (by simp) ?_
    refine AllReadyH.cons rfl (fun K' hK' => ?_) AllReadyH.nil
    refine wp_append_if rfl (.tmp 19) (.tmp 22) rfl rfl rfl hr 23 rfl ?_
    simp only [Act.put, lsA, lsZ, lsS]
    have hS2 := hS.trans (o2.mono (E := fun c => c = b ∨ c = q6 ∨ blk ao = some c) (fun _ _ h => .inr (.inr h))) (fun _ _ h => h)
    refine hK'.out _ _ hS2 (fun hS => ?_)
    clear hK' K' hr hS2
    refine take_at (i := 6) 24 (v := .pointer (some ⟨q6, 8, none⟩)) rfl rfl (by kernel_rfl) (by kernel_rfl) (by kernel_rfl) (fun _ _ _ h => h) (Or.inl ⟨by rfl, fun w' hw' => by go_simp⟩) hS ?_
    simp only [Act.put, lsA, lsZ, lsS]
    have szb := HSZ.out
    have szc := OB.size
    have MK2 := MK.snoc (u := u) (by have := HSW.out; omega) (UK.1.off OB (fun _ _ _ h => h)) (fun k hk => ⟨by have := (UK.2 k hk).1; have := HSW.out; omega, by have := (UK.2 k hk).2; omega, fun e => by have := MKL.out k e; have := (UK.2 k hk).1; omega⟩) own2 o2 at2
    have BX2 := BX.off o2 (fun e => by have := MKA.out q6 e; have := HL6.out; omega)
    have RD3 := RD2.off o2 (fun e => by have := MKA.out b e; have := HB.out; have := HN.out; omega) (fun c _ hc e => by have := MKA.out c e; have := HLD.out c hc; have := HN.out; omega)
    obtain ⟨x0, x1, x2, x3, x4, x5, x6, x7, x8⟩ := cel9 BX2
    have fz := BX2.free
    refine wpAnyH_ready (rs := [7]) (by kernel_rfl) (by simp) ?_
    refine AllReadyH.cons rfl (fun K' hK' => ?_) AllReadyH.nil
    go_simp
    have hS3 := hS.setCell (p := ⟨q6, 8, none⟩) (.inl (.inr (.inl rfl))) (.slice a2 (lo ++ [u]).length c2)
    simp only [List.length_append, List.length_cons, List.length_nil, Nat.zero_add] at hS3
    refine hK'.out _ _ hS3 (fun hS => ?_)
    clear hK' K' hS3
    refine wpAnyH_done (by kernel_rfl) ?_ _
    clear x0 x1 x2 x3 x4 x5 x6 x7 x8 fz
    have os := (Off.refl (fun c => c = q6) v2).setCell (p := ⟨q6, 8, none⟩) (.inl rfl) (.slice a2 (lo ++ [u]).length c2)
    have BX3 := BX2.set 8 (.slice a2 (lo ++ [u]).length c2)
    simp only [lsA, lsZ, lsS] at BX3
    have MK3 := MK2.off os (fun k h1 _ h2 => by have := HL6.out; omega)
    have RD4 := RD3.off os (fun e => by have := HQ6.out; have := HB.out; omega) (fun c _ hc e => by have := HLD.out c hc; have := HQ6.out; omega)
    have OF := (HPO.out.mono (E := fun c => c = b ∨ c = q6 ∨ w8.heap.size ≤ c) (fun _ _ h => h.elim .inl (fun h => .inr (.inl h)))).trans hS (fun k _ h => h.elim .inl (fun h => h.elim (fun h => .inr (.inl h)) (fun e => .inr (.inr (MKA.out k e)))))
    simp only [List.length_append, List.length_cons, List.length_nil, Nat.zero_add] at BX3 MK3 RD4 os
    have HB3 : Hid _ := BX3
    have HM3 : Hid _ := MK3
    have HR3 : Hid _ := RD4
    have HOF : Hid _ := OF
    have hl2 : (lo ++ [u]).length = lo.length + 1 := by simp
    have HLC : Hid (cont (lo ++ [u]) = rdL nodeP (i + 1) s2) := by
     show _ = _
     rw [rdL_succ, ← HLO.out, ← HU.out]
     simp [cont]
    clear BX BX2 BX3 MK MK2 MK3 OF hS own2 o2 at2 CB OB UK szb szc RB RD2 RD3 RD4 os
    go_wp2_with fail
    go_roundw
    case rel => exact ⟨i + 1, lo ++ [u], a2, c2, by go_num, by omega, by rw [hl2]; exact HB3.out, HM3.out, by rw [hl2]; omega, HLC.out, HR3.out, HOF.out.mono (fun k hk h => h.elim .inl (fun h => h.elim .inr (fun e => by omega)))⟩
    case measure => simp [intOf]; omega
   ·go_simp
    refine (readValue_any RD).mono ?_
    rintro e vb ⟨u, rfl, hu, uo, un, uk, RD2, o1⟩
    have hS1 := hS.trans (o1.mono (E := fun c => c = b ∨ c = q6 ∨ blk ao = some c) (fun _ _ h => .inl h)) (fun _ _ h => h)
    refine hK'.out _ _ hS1 (fun hS => ?_)
    clear hK' K' hS1
    replace BX := BX.off o1 (fun e => by have := HQ6.out; have := HB.out; omega)
    replace MK := MK.off o1 (fun k h1 _ e => by have := HB.out; have := HN.out; omega)
    have UK : VOk vb u ∧ ∀ k, blk u.ad = some k → va.heap.size ≤ k ∧ k < vb.heap.size := ⟨uk, fun k hk => ⟨un k hk, uo.lt k hk⟩⟩
    have HU : Hid _ := hu
    have HSZ : Hid (va.heap.size ≤ vb.heap.size) := o1.size
    clear uo uk un hu o1 RD
    refine wpAnyH_ready (rs := [1, 4]) (by kernel_rfl) (by simp) ?_
    refine AllReadyH.cons rfl (fun K' hK' => ?_) (AllReadyH.cons rfl (fun K' hK' => ?_) AllReadyH.nil)
    ·obtain ⟨x0, x1, x2, x3, x4, x5, x6, x7, x8⟩ := cel9 BX
     go_simp
     refine hK'.out _ _ hS (fun hS => ?_)
     clear hK' K' x0 x1 x2 x3 x4 x5 x6 x7 x8
     refine wpAnyH_ready (rs := [4]) (by kernel_rfl) (by simp) ?_
     refine AllReadyH.cons rfl (fun K' hK' => ?_) AllReadyH.nil
     go_simp
     refine hK'.out _ _ (hS.alloc _) (fun hS => ?_)
     clear hK' K'
     have CB := Cel.new vb 137 #[.int .i64 u.node, .int .i64 u.num, .slice u.ad u.data.length u.cap, .bool u.dead]
     have OB : Off (fun _ => False) vb (vb.alloc (.cells #[.int .i64 u.node, .int .i64 u.num, .slice u.ad u.data.length u.cap, .bool u.dead] 137)) := (Off.refl _ vb).alloc _
     generalize hqb : vb.heap.size = qb at CB ⊢
     generalize hvb : vb.alloc (.cells #[.int .i64 u.node, .int .i64 u.num, .slice u.ad u.data.length u.cap, .bool u.dead] 137) = vc at CB OB hS ⊢
     clear hvb hqb
     replace BX := BX.off OB (fun h => h)
     replace MK := MK.free OB
     replace RD2 := RD2.off OB (fun h => h) (fun _ _ _ h => h)
     have RB := row_one CB (UK.1.off OB (fun _ _ _ h => h))
     obtain ⟨a2, c2, v2, hr, own2, o2, at2⟩ := app_runV MK.own RB (fun h => by simp at h) (by simp; omega) 42
     refine wpAnyH_ready (rs := [5]) (by kernel_rfl) (by simp) ?_
     refine AllReadyH.cons rfl (fun K' hK' => ?_) AllReadyH.nil
     refine wp_append_if rfl (.tmp 19) (.tmp 22) rfl rfl rfl hr 23 rfl ?_
     simp only [Act.put, lsA, lsZ, lsS]
     have hS2 := hS.trans (o2.mono (E := fun c => c = b ∨ c = q6 ∨ blk ao = some c) (fun _ _ h => .inr (.inr h))) (fun _ _ h => h)
     refine hK'.out _ _ hS2 (fun hS => ?_)
     clear hK' K' hr hS2
     refine take_at (i := 6) 24 (v := .pointer (some ⟨q6, 8, none⟩)) rfl rfl (by kernel_rfl) (by kernel_rfl) (by kernel_rfl) (fun _ _ _ h => h) (Or.inl ⟨by rfl, fun w' hw' => by go_simp⟩) hS ?_
     simp only [Act.put, lsA, lsZ, lsS]
     have szb := HSZ.out
     have szc := OB.size
     have MK2 := MK.snoc (u := u) (by have := HSW.out; omega) (UK.1.off OB (fun _ _ _ h => h)) (fun k hk => ⟨by have := (UK.2 k hk).1; have := HSW.out; omega, by have := (UK.2 k hk).2; omega, fun e => by have := MKL.out k e; have := (UK.2 k hk).1; omega⟩) own2 o2 at2
     have BX2 := BX.off o2 (fun e => by have := MKA.out q6 e; have := HL6.out; omega)
     have RD3 := RD2.off o2 (fun e => by have := MKA.out b e; have := HB.out; have := HN.out; omega) (fun c _ hc e => by have := MKA.out c e; have := HLD.out c hc; have := HN.out; omega)
     obtain ⟨x0, x1, x2, x3, x4, x5, x6, x7, x8⟩ := cel9 BX2
     have fz := BX2.free
     refine wpAnyH_ready (rs := [7]) (by kernel_rfl) (by simp) ?_
     refine AllReadyH.cons rfl (fun K' hK' => ?_) AllReadyH.nil
     go_simp
     have hS3 := hS.setCell (p := ⟨q6, 8, none⟩) (.inl (.inr (.inl rfl))) (.slice a2 (lo ++ [u]).length c2)
     simp only [List.length_append, List.length_cons, List.length_nil, Nat.zero_add] at hS3
     refine hK'.out _ _ hS3 (fun hS => ?_)
     clear hK' K' hS3
     refine wpAnyH_done (by kernel_rfl) ?_ _
     clear x0 x1 x2 x3 x4 x5 x6 x7 x8 fz
     have os := (Off.refl (fun c => c = q6) v2).setCell (p := ⟨q6, 8, none⟩) (.inl rfl) (.slice a2 (lo ++ [u]).length c2)
     have BX3 := BX2.set 8 (.slice a2 (lo ++ [u]).length c2)
     simp only [lsA, lsZ, lsS] at BX3
     have MK3 := MK2.off os (fun k h1 _ h2 => by have := HL6.out; omega)
     have RD4 := RD3.off os (fun e => by have := HQ6.out; have := HB.out; omega) (fun c _ hc e => by have := HLD.out c hc; have := HQ6.out; omega)
     have OF := (HPO.out.mono (E := fun c => c = b ∨ c = q6 ∨ w8.heap.size ≤ c) (fun _ _ h => h.elim .inl (fun h => .inr (.inl h)))).trans hS (fun k _ h => h.elim .inl (fun h => h.elim (fun h => .inr (.inl h)) (fun e => .inr (.inr (MKA.out k e)))))
     simp only [List.length_append, List.length_cons, List.length_nil, Nat.zero_add] at BX3 MK3 RD4 os
     have HB3 : Hid _ := BX3
     have HM3 : Hid _ := MK3
     have HR3 : Hid _ := RD4
     have HOF : Hid _ := OF
     have hl2 : (lo ++ [u]).length = lo.length + 1 := by simp
     have HLC : Hid (cont (lo ++ [u]) = rdL nodeP (i + 1) s2) := by
      show _ = _
      rw [rdL_succ, ← HLO.out, ← HU.out]
      simp [cont]
     clear BX BX2 BX3 MK MK2 MK3 OF hS own2 o2 at2 CB OB UK szb szc RB RD2 RD3 RD4 os
     go_wp2_with fail
     go_roundw
     case rel => exact ⟨i + 1, lo ++ [u], a2, c2, by go_num, by omega, by rw [hl2]; exact HB3.out, HM3.out, by rw [hl2]; omega, HLC.out, HR3.out, HOF.out.mono (fun k hk h => h.elim .inl (fun h => h.elim .inr (fun e => by omega)))⟩
     case measure => simp [intOf]; omega
    ·go_simp
     refine hK'.out _ _ (hS.alloc _) (fun hS => ?_)
     clear hK' K'
     have CB := Cel.new vb 137 #[.int .i64 u.node, .int .i64 u.num, .slice u.ad u.data.length u.cap, .bool u.dead]
     have OB : Off (fun _ => False) vb (vb.alloc (.cells #[.int .i64 u.node, .int .i64 u.num, .slice u.ad u.data.length u.cap, .bool u.dead] 137)) := (Off.refl _ vb).alloc _
     generalize hqb : vb.heap.size = qb at CB ⊢
     generalize hvb : vb.alloc (.cells #[.int .i64 u.node, .int .i64 u.num, .slice u.ad u.data.length u.cap, .bool u.dead] 137) = vc at CB OB hS ⊢
     clear hvb hqb
     replace BX := BX.off OB (fun h => h)
     replace MK := MK.free OB
     replace RD2 := RD2.off OB (fun h => h) (fun _ _ _ h => h)
     refine wpAnyH_ready (rs := [1]) (by kernel_rfl) (by simp) ?_
     refine AllReadyH.cons rfl (fun K' hK' => ?_) AllReadyH.nil
     obtain ⟨x0, x1, x2, x3, x4, x5, x6, x7, x8⟩ := cel9 BX
     go_simp
     refine hK'.out _ _ hS (fun hS => ?_)
     clear hK' K' x0 x1 x2 x3 x4 x5 x6 x7 x8
     have RB := row_one CB (UK.1.off OB (fun _ _ _ h => h))
     obtain ⟨a2, c2, v2, hr, own2, o2, at2⟩ := app_runV MK.own RB (fun h => by simp at h) (by simp; omega) 42
     refine wpAnyH_ready (rs := [5]) (by kernel_rfl) (by simp) ?_
     refine AllReadyH.cons rfl (fun K' hK' => ?_) AllReadyH.nil
     refine wp_append_if rfl (.tmp 19) (.tmp 22) rfl rfl rfl hr 23 rfl ?_
     simp only [Act.put, lsA, lsZ, lsS]
     have hS2 := hS.trans (o2.mono (E := fun c => c = b ∨ c = q6 ∨ blk ao = some c) (fun _ _ h => .inr (.inr h))) (fun _ _ h => h)
     refine hK'.out _ _ hS2 (fun hS => ?_)
     clear hK' K' hr hS2
     refine take_at (i := 6) 24 (v := .pointer (some ⟨q6, 8, none⟩)) rfl rfl (by kernel_rfl) (by kernel_rfl) (by kernel_rfl) (fun _ _ _ h => h) (Or.inl ⟨by rfl, fun w' hw' => by go_simp⟩) hS ?_
     simp only [Act.put, lsA, lsZ, lsS]
     have szb := HSZ.out
     have szc := OB.size
     have MK2 := MK.snoc (u := u) (by have := HSW.out; omega) (UK.1.off OB (fun _ _ _ h => h)) (fun k hk => ⟨by have := (UK.2 k hk).1; have := HSW.out; omega, by have := (UK.2 k hk).2; omega, fun e => by have := MKL.out k e; have := (UK.2 k hk).1; omega⟩) own2 o2 at2
     have BX2 := BX.off o2 (fun e => by have := MKA.out q6 e; have := HL6.out; omega)
     have RD3 := RD2.off o2 (fun e => by have := MKA.out b e; have := HB.out; have := HN.out; omega) (fun c _ hc e => by have := MKA.out c e; have := HLD.out c hc; have := HN.out; omega)
     obtain ⟨x0, x1, x2, x3, x4, x5, x6, x7, x8⟩ := cel9 BX2
     have fz := BX2.free
     refine wpAnyH_ready (rs := [7]) (by kernel_rfl) (by simp) ?_
     refine AllReadyH.cons rfl (fun K' hK' => ?_) AllReadyH.nil
     go_simp
     have hS3 := hS.setCell (p := ⟨q6, 8, none⟩) (.inl (.inr (.inl rfl))) (.slice a2 (lo ++ [u]).length c2)
     simp only [List.length_append, List.length_cons, List.length_nil, Nat.zero_add] at hS3
     refine hK'.out _ _ hS3 (fun hS => ?_)
     clear hK' K' hS3
     refine wpAnyH_done (by kernel_rfl) ?_ _
     clear x0 x1 x2 x3 x4 x5 x6 x7 x8 fz
     have os := (Off.refl (fun c => c = q6) v2).setCell (p := ⟨q6, 8, none⟩) (.inl rfl) (.slice a2 (lo ++ [u]).length c2)
     have BX3 := BX2.set 8 (.slice a2 (lo ++ [u]).length c2)
     simp only [lsA, lsZ, lsS] at BX3
     have MK3 := MK2.off os (fun k h1 _ h2 => by have := HL6.out; omega)
     have RD4 := RD3.off os (fun e => by have := HQ6.out; have := HB.out; omega) (fun c _ hc e => by have := HLD.out c hc; have := HQ6.out; omega)
     have OF := (HPO.out.mono (E := fun c => c = b ∨ c = q6 ∨ w8.heap.size ≤ c) (fun _ _ h => h.elim .inl (fun h => .inr (.inl h)))).trans hS (fun k _ h => h.elim .inl (fun h => h.elim (fun h => .inr (.inl h)) (fun e => .inr (.inr (MKA.out k e)))))
     simp only [List.length_append, List.length_cons, List.length_nil, Nat.zero_add] at BX3 MK3 RD4 os
     have HB3 : Hid _ := BX3
     have HM3 : Hid _ := MK3
     have HR3 : Hid _ := RD4
     have HOF : Hid _ := OF
     have hl2 : (lo ++ [u]).length = lo.length + 1 := by simp
     have HLC : Hid (cont (lo ++ [u]) = rdL nodeP (i + 1) s2) := by
      show _ = _
      rw [rdL_succ, ← HLO.out, ← HU.out]
      simp [cont]
     clear BX BX2 BX3 MK MK2 MK3 OF hS own2 o2 at2 CB OB UK szb szc RB RD2 RD3 RD4 os
     go_wp2_with fail
     go_roundw
     case rel => exact ⟨i + 1, lo ++ [u], a2, c2, by go_num, by omega, by rw [hl2]; exact HB3.out, HM3.out, by rw [hl2]; omega, HLC.out, HR3.out, HOF.out.mono (fun k hk h => h.elim .inl (fun h => h.elim .inr (fun e => by omega)))⟩
     case measure => simp [intOf]; omega
  ·have i1 : decide ((i : Int) < (cnt : Int)) = false := decide_eq_false (by omega)
   have i2 : decide (i < cnt) = false := decide_eq_false hil
   have hcnt : i = cnt := by omega
   have HLF : Hid (cont lo = srV nodeP s) := by show _ = _; rw [HLO.out, hcnt]; simp only [srV, HCN.out]
   have HRF : Hid (Rdr 96 D b (srS s) wr) := by have h := HRD.out; rw [hcnt] at h; show Rdr 96 D b (srS s) wr; unfold srS; rw [HCN.out]; exact h
   have H2F : Hid _ := H28.out.off HPO.out (fun e => by have := HQQ.out; have := HB.out; omega)
   have HOA : Hid (Off (fun c => c = b) w wr) := (HO8.out.trans (HPO.out.mono (E := fun c => c = b ∨ c = q6) (fun _ _ h => h)) (fun k hk h => h.elim id (fun e => by have := HQ6.out; omega)))
   clear HRD HLO hcnt i1 i2
   have i1 : decide ((i : Int) < (cnt : Int)) = false := decide_eq_false (by omega)
   have i2 : decide (i < cnt) = false := decide_eq_false hil
   cases hok : okB
   ·have HRES : Hid (srB nodeP s = false ∧ zer = srF nodeP s ∧ cont [] = srL nodeP s) := sr_no (.inl (by rw [← HOK.out]; exact hok))
    subst hok
    have D2 := H2F.out
    obtain ⟨x0, x1, x2, x3, x4, x5, x6, x7, x8⟩ := cel9 D2
    have fz := D2.free
    go_wp2_with fail
    have E2 := D2.clr9
    have OE := HOA.out.clr9 (b := q2) (.inr HQ2.out)
    refine bodyPost_ret (results_err9 rfl rfl rfl E2) rfl ?_
    have os := (Off.refl (fun c => c = q2) wr).clr9 (b := q2) (.inl rfl)
    exact ⟨zer, none, 0, [], by rw [HRES.out.1]; rfl, HRES.out.2.1, HRES.out.2.2, Row.nil _ _ _ (by omega), Frh.nil _, HRF.out.off os (fun e => by have := HQ2.out; have := HB.out; omega) (fun c _ hc e => by have := HLD.out c hc; have := HQ2.out; omega), OE⟩
   cases hst : decide ((srS s).2 = 0)
   ·have HRES : Hid (srB nodeP s = false ∧ zer = srF nodeP s ∧ cont [] = srL nodeP s) := sr_no (.inr (.inl hst))
    subst hok
    go_wp2_with fail
    refine (sfailed_any HRF.out).mono ?_
    rw [hst]
    rintro e x1 ⟨rfl, hw⟩
    rw [hw]
    clear hw x1
    have D2 := H2F.out
    obtain ⟨x0, x1, x2, x3, x4, x5, x6, x7, x8⟩ := cel9 D2
    have fz := D2.free
    go_wp2_with fail
    have E2 := D2.clr9
    have OE := HOA.out.clr9 (b := q2) (.inr HQ2.out)
    refine bodyPost_ret (results_err9 rfl rfl rfl E2) rfl ?_
    have os := (Off.refl (fun c => c = q2) wr).clr9 (b := q2) (.inl rfl)
    exact ⟨zer, none, 0, [], by rw [HRES.out.1]; rfl, HRES.out.2.1, HRES.out.2.2, Row.nil _ _ _ (by omega), Frh.nil _, HRF.out.off os (fun e => by have := HQ2.out; have := HB.out; omega) (fun c _ hc e => by have := HLD.out c hc; have := HQ2.out; omega), OE⟩
   subst hok
   obtain ⟨x0, x1, x2, x3, x4, x5, x6, x7, x8⟩ := cel9 HBX.out
   go_wp2_with fail
   refine (sfailed_any HRF.out).mono ?_
   rw [hst]
   rintro e x1 ⟨rfl, hw⟩
   rw [hw]
   clear hw x1
   go_wp2_with fail
   clear x0 x1 x2 x3 x4 x5 x6 x7 x8
   refine (smay_any fF ao co lo wr HMK.out.row).mono ?_
   cases hmy : mayS fF (cont lo)
   ·have HRES : Hid (srB nodeP s = false ∧ zer = srF nodeP s ∧ cont [] = srL nodeP s) := sr_no (.inr (.inr (by rw [← HFF.out, ← HLF.out]; exact hmy)))
    rintro e xw ⟨rfl, o9⟩
    have HRF9 := HRF.out.off o9 (fun h => h) (fun _ _ _ h => h)
    have H2G : Hid _ := H2F.out.off o9 (fun h => h)
    have HOB : Hid _ := HOA.out.trans (o9.mono (fun _ _ h => h.elim)) (fun _ _ h => h)
    have D2 := H2G.out
    obtain ⟨x0, x1, x2, x3, x4, x5, x6, x7, x8⟩ := cel9 D2
    have fz := D2.free
    go_wp2_with fail
    have E2 := D2.clr9
    have OE := HOB.out.clr9 (b := q2) (.inr HQ2.out)
    refine bodyPost_ret (results_err9 rfl rfl rfl E2) rfl ?_
    have os := (Off.refl (fun c => c = q2) xw).clr9 (b := q2) (.inl rfl)
    exact ⟨zer, none, 0, [], by rw [HRES.out.1]; rfl, HRES.out.2.1, HRES.out.2.2, Row.nil _ _ _ (by omega), Frh.nil _, HRF9.off os (fun e => by have := HQ2.out; have := HB.out; omega) (fun c _ hc e => by have := HLD.out c hc; have := HQ2.out; omega), OE⟩
   ·have HRES : Hid _ := sr_yes (nd := nodeP) (s := s) (by rw [← HOK.out]) hst (by rw [← HFF.out, ← HLF.out]; exact hmy)
    rintro e xw ⟨rfl, o9⟩
    have HRF9 := HRF.out.off o9 (fun h => h) (fun _ _ _ h => h)
    have D2 := H2F.out.off o9 (fun h => h)
    have HOB : Hid _ := HOA.out.trans (o9.mono (fun _ _ h => h.elim)) (fun _ _ h => h)
    have HMX : Hid _ := HMK.out.free o9
    obtain ⟨x0, x1, x2, x3, x4, x5, x6, x7, x8⟩ := cel9 (HBX.out.off o9 (fun h => h))
    obtain ⟨y0, y1, y2, y3, y4, y5, y6, y7, y8⟩ := cel9 D2
    have fz := D2.free
    have HX1 : Hid (q2 < w8.heap.size) := H28.out.lt
    go_wp2_with fail
    have E2 := D2.st9 fF (.slice ao lo.length co)
    have OE := HOB.out.st9 (b := q2) (.inr HQ2.out) fF (.slice ao lo.length co)
    refine bodyPost_ret (results_sibs2 rfl rfl rfl E2) rfl ?_
    have os := (Off.refl (fun c => c = q2) xw).st9 (b := q2) (.inl rfl) fF (.slice ao lo.length co)
    have rw9 := (HMX.out.off os (fun k hk _ e => by have := HX1.out; omega)).row
    have rd9 := HRF9.off os (fun e => by have := HQ2.out; have := HB.out; omega) (fun c _ hc e => by have := HLD.out c hc; have := HQ2.out; omega)
    have h1 : fF = srF nodeP s := by rw [HFF.out]; exact HRES.out.2.1
    have h2 : cont lo = srL nodeP s := by rw [HLF.out]; exact HRES.out.2.2
    exact ⟨fF, ao, co, lo, by rw [HRES.out.1]; rfl, h1, h2, rw9, ⟨fun k hk => Nat.le_trans HN.out (HMX.out.lo k hk), fun v hv k hk => Nat.le_trans HN.out ((HMX.out.val v hv).2 k hk).1⟩, rd9, OE⟩
end Go.Proofs.YtmbphlkohlggfaaGreat
