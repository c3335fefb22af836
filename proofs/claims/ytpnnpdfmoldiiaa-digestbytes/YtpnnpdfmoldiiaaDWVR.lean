/- Items of several texts. -/
import Derived.Test.YtpnnpdfmoldiiaaDRefA
import Derived.Test.YtpnnpdfmoldiiaaDWRefR
import Derived.Test.YtpnnpdfmoldiiaaDSWr
namespace Go.Proofs.Ytpnnpdfmoldiiaa
open Go.RowKit
def rdV (s : RS) : Nat → RS
 | 0 => s
 | n + 1 => (intS (rdV s n)).2
def rdF (s : RS) (j : Nat) : Int := (intS (rdV s j)).1
def readB (s : RS) : Bool := decide ((rdV s 8).2 = 0) && mayB (rdF s)
def readF (s : RS) : Nat → Int := if readB s = true then rdF s else zer
theorem results_vecb {fn : Func} {p u : Tmp} (h : fn.results = #[.cell p 24, .tmp u]) {tmps : Array Value} {w : World} {b : Nat} {f : Nat → Int} (hp : tmps.getD p undef = .pointer (some ⟨b, 0, none⟩)) {v : Value} (hu : tmps.getD u undef = v) (hc : Cel b 24 #[.int .i64 (f 0), .int .i64 (f 1), .int .i64 (f 2), .int .i64 (f 3), .int .i64 (f 4), .int .i64 (f 5), .int .i64 (f 6), .int .i64 (f 7)] w) :
  (results fn tmps).run Try.prog w = .ok (.tuple #[.agg #[.int .i64 (f 0), .int .i64 (f 1), .int .i64 (f 2), .int .i64 (f 3), .int .i64 (f 4), .int .i64 (f 5), .int .i64 (f 6), .int .i64 (f 7)], v]) w := by
 rw [results_cell_tmp h]
 have ha : (asAddr (.pointer (some ⟨b, 0, none⟩))).run Try.prog w = .ok ⟨b, 0, none⟩ w := rfl
 rw [hp, hu, ha]
 have hv := run_loadVar_row (P := Try.prog) w b 24 24 #[.int .i64 (f 0), .int .i64 (f 1), .int .i64 (f 2), .int .i64 (f 3), .int .i64 (f 4), .int .i64 (f 5), .int .i64 (f 6), .int .i64 (f 7)] (0, 0) (.array 8 2) hc.is (by kernel_rfl) rfl (by kernel_rfl)
 simp only [Result.andThen, hv]
theorem vfailed_any {D : Nat → Prop} {b : Nat} {s : RS} {w : World} (hR : Rdr 106 D b s w) :
  Calls Try.prog 113 #[.pointer (some ⟨b, 0, none⟩)] w fun e w' => e = .returned (.bool (!decide (s.2 = 0))) ∧ w' = w := by
 have HR : Hid _ := hR
 have hok := hR.ok
 clear hR
 by_cases h0 : s.1.length = 0
 ·have e0 : (((s.1.length : Nat) : Int) == 0) = true := by simp [h0]
  have he : endS s = s.2 := by
   have : s.1 = [] := List.eq_nil_of_length_eq_zero h0
   simp [endS, this]
  have e1 : ((((endS s : Nat) : Int)) != 0) = !decide (s.2 = 0) := by
   rw [he]
   by_cases h2 : s.2 = 0
   ·simp [h2]
   ·have : (((s.2 : Nat) : Int) != 0) = true := by simp [h2]
    rw [this]
    simp [h2]
  clear h0 he hok
  go_enter Try.func113, Try.ntmps113
  go_wp2_with fail
  refine (rleft_any HR.out).mono ?_
  rintro e w1 ⟨rfl, hw⟩
  rw [hw]; clear hw w1
  go_wp2_with fail
  refine (rend_any HR.out).mono ?_
  rintro e w1 ⟨rfl, hw⟩
  rw [hw]; clear hw w1
  go_wp2_with fail
  go_ret
  exact ⟨rfl, rfl⟩
 ·have e0 : (((s.1.length : Nat) : Int) == 0) = false := by rw [beq_eq_false_iff_ne]; omega
  have h2 : s.2 = 0 := by
   rcases Nat.eq_zero_or_pos s.2 with h | h
   ·exact h
   ·have := hok.2.1 (by omega)
    simp [this] at h0
  have e1 : Hid ((!decide (s.2 = 0)) = false) := (show (!decide (s.2 = 0)) = false by simp [h2])
  clear h0 h2 hok
  go_enter Try.func113, Try.ntmps113
  go_wp2_with fail
  refine (rleft_any HR.out).mono ?_
  rintro e w1 ⟨rfl, hw⟩
  rw [hw]; clear hw w1
  go_wp2_with fail
  go_ret
  rw [e1.out]
  exact ⟨rfl, rfl⟩
theorem rdr_cells {T : TypeId} {D : Nat → Prop} {b : Nat} {s : RS} {w : World} (h : Rdr T D b s w) : ∃ tad cap, w.cell? ⟨b, 0, none⟩ = some (.slice tad s.1.length cap) ∧ w.cell? ⟨b, 1, none⟩ = some (.int .i64 ((s.2 : Nat) : Int)) := by
 obtain ⟨tad, cap, h1, -⟩ := h.is
 exact ⟨tad, cap, by rw [h1.cell]; rfl, by rw [h1.cell]; rfl⟩
set_option maxRecDepth 100000 in
set_option maxHeartbeats 1000000 in
theorem vread_any {D : Nat → Prop} {b : Nat} {s : RS} {w : World} (hR : Rdr 106 D b s w) :
  Calls Try.prog 72 #[.pointer (some ⟨b, 0, none⟩)] w fun e w' => e = .returned (.tuple #[.agg #[.int .i64 (readF s 0), .int .i64 (readF s 1), .int .i64 (readF s 2), .int .i64 (readF s 3), .int .i64 (readF s 4), .int .i64 (readF s 5), .int .i64 (readF s 6), .int .i64 (readF s 7)], .bool (readB s)]) ∧ Rdr 106 D b (rdV s 8) w' ∧ Off (fun c => c = b) w w' := by
 have hnot := not_any
 have hb := hR.here
 have HL : Hid (∀ c, D c → c < w.heap.size) := hR.lt
 have HR : Hid _ := hR
 clear hR
 go_enter Try.func72, Try.ntmps72
 go_wp2_with fail
 go_loopw [6] (fun y wr => ∃ (n : Nat) (g : Nat → Int), y = .int .i64 (n : Int) ∧ n ≤ 8 ∧ (∀ j, j < 8 → g j = if j < n then rdF s j else 0) ∧ Cel (w.heap.size + 1) 24 #[.int .i64 (g 0), .int .i64 (g 1), .int .i64 (g 2), .int .i64 (g 3), .int .i64 (g 4), .int .i64 (g 5), .int .i64 (g 6), .int .i64 (g 7)] wr ∧ Cel w.heap.size 24 #[.int .i64 (zer 0), .int .i64 (zer 1), .int .i64 (zer 2), .int .i64 (zer 3), .int .i64 (zer 4), .int .i64 (zer 5), .int .i64 (zer 6), .int .i64 (zer 7)] wr ∧ Rdr 106 D b (rdV s n) wr ∧ Off (fun c => c = b) w wr) (fun y _ => (8 - intOf y).toNat)
 case atStart =>
  refine ⟨0, zer, rfl, by omega, fun j hj => by simp [zer], Cel.new1 w _ _ _, (Cel.new w _ _).alloc _, ?_, ((Off.refl _ w).alloc _).alloc _⟩
  exact HR.out.off (((Off.refl (fun _ => False) w).alloc _).alloc _) (fun h => h) (fun _ _ _ h => h)
 case round =>
  obtain ⟨n, g, rfl, hn, hg, cv, cr, hr, O⟩ := hrel
  have HG : Hid _ := hg
  have CV : Hid _ := cv
  have CR : Hid _ := cr
  have HR' : Hid _ := hr
  clear hg cv cr hr
  by_cases h : n < 8
  ·have hd : decide ((n : Int) < 8) = true := by simp; omega
   have ha := at_vec (w.heap.size + 1) h
   go_wp2_with fail
   refine (rint_any HR'.out).mono ?_
   rintro e v1 ⟨rfl, R1, o1⟩
   have V1 := CV.out.off o1 (by omega)
   have Z1 := CR.out.off o1 (by omega)
   have O1 : Off (fun c => c = b) w v1 := O.trans o1 (fun _ _ h => h)
   have hc : v1.cell? ⟨w.heap.size + 1, n, none⟩ = some (.int .i64 (g n)) := (V1.cell n).trans (vec_get g h)
   have hf := V1.free n
   have HV1 : Hid _ := V1
   have HZ1 : Hid _ := Z1
   have HR1 : Hid _ := R1
   clear V1 Z1 R1 o1 O
   go_wp2_with fail
   go_roundw
   case rel =>
    refine ⟨n + 1, upd g n (intS (rdV s n)).1, by go_num, by omega, fun j hj => ?_, ?_, ?_, ?_, O1.setCell (.inr (by simp)) _⟩
    ·have := HG.out j hj
     simp only [upd]
     split
     ·subst j
      simp [rdF]
     ·rw [this]
      have e : (j < n + 1) ↔ (j < n) := by omega
      simp [e]
    ·have := HV1.out.set n (.int .i64 (intS (rdV s n)).1)
     rw [vec_set g h] at this
     exact this
    ·exact HZ1.out.other (by simp) _
    ·exact HR1.out.off (D := D) ((Off.refl (fun c => c = w.heap.size + 1) v1).setCell (.inl rfl) _) (by omega) (fun c _ hc => by have := HL.out c hc; omega)
   case measure => simp [intOf]; omega
  ·obtain rfl : n = 8 := by omega
   have hgf : ∀ j, j < 8 → g j = rdF s j := fun j hj => by have := HG.out j hj; simpa [hj] using this
   have hmay : mayB g = mayB (rdF s) := by
    rw [Bool.eq_iff_iff]
    simp only [mayB, decide_eq_true_eq]
    constructor
    ·intro h j hj
     rw [← hgf j hj]
     exact h j hj
    ·intro h j hj
     rw [hgf j hj]
     exact h j hj
   have HM : Hid _ := hmay
   have hg0 := hgf 0 (by omega)
   have hg1 := hgf 1 (by omega)
   have hg2 := hgf 2 (by omega)
   have hg3 := hgf 3 (by omega)
   have hg4 := hgf 4 (by omega)
   have hg5 := hgf 5 (by omega)
   have hg6 := hgf 6 (by omega)
   have hg7 := hgf 7 (by omega)
   have CV2 : Cel (w.heap.size + 1) 24 #[.int .i64 (rdF s 0), .int .i64 (rdF s 1), .int .i64 (rdF s 2), .int .i64 (rdF s 3), .int .i64 (rdF s 4), .int .i64 (rdF s 5), .int .i64 (rdF s 6), .int .i64 (rdF s 7)] wr := by
    have := CV.out
    rw [hg0, hg1, hg2, hg3, hg4, hg5, hg6, hg7] at this
    exact this
   clear hg0 hg1 hg2 hg3 hg4 hg5 hg6 hg7 hgf hmay CV HM HG
   obtain ⟨c0, c1, c2, c3, c4, c5, c6, c7⟩ := cel8 CV2
   obtain ⟨d0, d1, d2, d3, d4, d5, d6, d7⟩ := cel8 CR.out
   have fr := CR.out.free
   have CC : Hid _ := CV2
   clear CV2
   by_cases h9 : (rdV s 8).2 = 0
   ·go_wp2_with fail
    refine (vfailed_any HR'.out).mono ?_
    rintro e v1 ⟨rfl, hw⟩
    rw [hw]; clear hw v1
    rw [show (!decide ((rdV s 8).2 = 0)) = false by simp [h9]]
    go_wp2_with fail
    refine (may_any (rdF s) _).mono ?_
    rintro e v2 ⟨rfl, o2⟩
    clear c0 c1 c2 c3 c4 c5 c6 c7 d0 d1 d2 d3 d4 d5 d6 d7 fr
    have C2 := CC.out.off o2 (fun h => h)
    have Z2 := CR.out.off o2 (fun h => h)
    have R2 := HR'.out.off o2 (fun h => h) (fun _ _ _ h => h)
    have O2 : Off (fun c => c = b) w v2 := O.trans o2 (fun _ _ h => h.elim)
    obtain ⟨c0, c1, c2, c3, c4, c5, c6, c7⟩ := cel8 C2
    obtain ⟨d0, d1, d2, d3, d4, d5, d6, d7⟩ := cel8 Z2
    have fr := Z2.free
    have HZ2 : Hid _ := Z2
    have HR2 : Hid _ := R2
    clear C2 Z2 R2 o2 CC CR HR'
    by_cases hm : mayB (rdF s) = true
    ·have rb : Hid (readB s = true) := (show readB s = true by simp [readB, h9, hm])
     have rf : Hid (readF s = rdF s) := (show readF s = rdF s by simp [readF, rb.out])
     rw [hm]
     clear hm
     go_wp2_with fail
     refine bodyPost_ret (results_vecb rfl rfl rfl (HZ2.out.st8 (rdF s))) rfl ?_
     rw [rb.out, rf.out]
     refine ⟨rfl, ?_, O2.st8 (.inr (by omega)) _⟩
     exact HR2.out.off ((Off.refl (fun c => c = w.heap.size) v2).st8 (.inl rfl) (rdF s)) (by omega) (fun c _ hc => by have := HL.out c hc; omega)
    ·have hm : mayB (rdF s) = false := by simpa using hm
     have rb : Hid (readB s = false) := (show readB s = false by simp [readB, hm])
     have rf : Hid (readF s = zer) := (show readF s = zer by simp [readF, rb.out])
     rw [hm]
     clear hm
     go_wp2_with fail
     refine bodyPost_ret (results_vecb rfl rfl rfl (HZ2.out.st8 zer)) rfl ?_
     rw [rb.out, rf.out]
     refine ⟨rfl, ?_, O2.st8 (.inr (by omega)) zer⟩
     exact HR2.out.off ((Off.refl (fun c => c = w.heap.size) v2).st8 (.inl rfl) zer) (by omega) (fun c _ hc => by have := HL.out c hc; omega)
   ·have rb : Hid (readB s = false) := (show readB s = false by simp [readB, h9])
    have rf : Hid (readF s = zer) := (show readF s = zer by simp [readF, rb.out])
    go_wp2_with fail
    refine (vfailed_any HR'.out).mono ?_
    rintro e v1 ⟨rfl, hw⟩
    rw [hw]; clear hw v1
    rw [show (!decide ((rdV s 8).2 = 0)) = true by simp [h9]]
    go_wp2_with fail
    refine bodyPost_ret (results_vecb rfl rfl rfl (CR.out.st8 zer)) rfl ?_
    rw [rb.out, rf.out]
    refine ⟨rfl, ?_, O.st8 (.inr (by omega)) zer⟩
    exact HR'.out.off ((Off.refl (fun c => c = w.heap.size) wr).st8 (.inl rfl) zer) (by omega) (fun c _ hc => by have := HL.out c hc; omega)
set_option maxRecDepth 100000 in
set_option maxHeartbeats 1000000 in
theorem fvread_any {D : Nat → Prop} {b : Nat} {s : RS} {w : World} (hR : Rdr 61 D b s w) :
  Calls Try.prog 77 #[.pointer (some ⟨b, 0, none⟩)] w fun e w' => e = .returned (.tuple #[.agg #[.int .i64 (readF s 0), .int .i64 (readF s 1), .int .i64 (readF s 2), .int .i64 (readF s 3), .int .i64 (readF s 4), .int .i64 (readF s 5), .int .i64 (readF s 6), .int .i64 (readF s 7)], .bool (readB s)]) ∧ Rdr 61 D b (rdV s 8) w' ∧ Off (fun c => c = b) w w' := by
 have hnot := not_any
 have hb := hR.here
 have HL : Hid (∀ c, D c → c < w.heap.size) := hR.lt
 have HR : Hid _ := hR
 clear hR
 go_enter Try.func77, Try.ntmps77
 go_wp2_with fail
 go_loopw [7] (fun y wr => ∃ (n : Nat) (g : Nat → Int), y = .int .i64 (n : Int) ∧ n ≤ 8 ∧ (∀ j, j < 8 → g j = if j < n then rdF s j else 0) ∧ Cel (w.heap.size + 1) 24 #[.int .i64 (g 0), .int .i64 (g 1), .int .i64 (g 2), .int .i64 (g 3), .int .i64 (g 4), .int .i64 (g 5), .int .i64 (g 6), .int .i64 (g 7)] wr ∧ Cel w.heap.size 24 #[.int .i64 (zer 0), .int .i64 (zer 1), .int .i64 (zer 2), .int .i64 (zer 3), .int .i64 (zer 4), .int .i64 (zer 5), .int .i64 (zer 6), .int .i64 (zer 7)] wr ∧ Rdr 61 D b (rdV s n) wr ∧ Off (fun c => c = b) w wr) (fun y _ => (8 - intOf y).toNat)
 case atStart =>
  refine ⟨0, zer, rfl, by omega, fun j hj => by simp [zer], Cel.new1 w _ _ _, (Cel.new w _ _).alloc _, ?_, ((Off.refl _ w).alloc _).alloc _⟩
  exact HR.out.off (((Off.refl (fun _ => False) w).alloc _).alloc _) (fun h => h) (fun _ _ _ h => h)
 case round =>
  obtain ⟨n, g, rfl, hn, hg, cv, cr, hr, O⟩ := hrel
  have HG : Hid _ := hg
  have CV : Hid _ := cv
  have CR : Hid _ := cr
  have HR' : Hid _ := hr
  clear hg cv cr hr
  by_cases h : n < 8
  ·have hd : decide ((n : Int) < 8) = true := by simp; omega
   have ha := at_vec (w.heap.size + 1) h
   go_wp2_with fail
   refine (frint_any HR'.out).mono ?_
   rintro e v1 ⟨rfl, R1, o1⟩
   have V1 := CV.out.off o1 (by omega)
   have Z1 := CR.out.off o1 (by omega)
   have O1 : Off (fun c => c = b) w v1 := O.trans o1 (fun _ _ h => h)
   have hc : v1.cell? ⟨w.heap.size + 1, n, none⟩ = some (.int .i64 (g n)) := (V1.cell n).trans (vec_get g h)
   have hf := V1.free n
   have HV1 : Hid _ := V1
   have HZ1 : Hid _ := Z1
   have HR1 : Hid _ := R1
   clear V1 Z1 R1 o1 O
   go_wp2_with fail
   go_roundw
   case rel =>
    refine ⟨n + 1, upd g n (intS (rdV s n)).1, by go_num, by omega, fun j hj => ?_, ?_, ?_, ?_, O1.setCell (.inr (by simp)) _⟩
    ·have := HG.out j hj
     simp only [upd]
     split
     ·subst j
      simp [rdF]
     ·rw [this]
      have e : (j < n + 1) ↔ (j < n) := by omega
      simp [e]
    ·have := HV1.out.set n (.int .i64 (intS (rdV s n)).1)
     rw [vec_set g h] at this
     exact this
    ·exact HZ1.out.other (by simp) _
    ·exact HR1.out.off (D := D) ((Off.refl (fun c => c = w.heap.size + 1) v1).setCell (.inl rfl) _) (by omega) (fun c _ hc => by have := HL.out c hc; omega)
   case measure => simp [intOf]; omega
  ·obtain rfl : n = 8 := by omega
   have hgf : ∀ j, j < 8 → g j = rdF s j := fun j hj => by have := HG.out j hj; simpa [hj] using this
   have hmay : mayB g = mayB (rdF s) := by
    rw [Bool.eq_iff_iff]
    simp only [mayB, decide_eq_true_eq]
    constructor
    ·intro h j hj
     rw [← hgf j hj]
     exact h j hj
    ·intro h j hj
     rw [hgf j hj]
     exact h j hj
   have HM : Hid _ := hmay
   have hg0 := hgf 0 (by omega)
   have hg1 := hgf 1 (by omega)
   have hg2 := hgf 2 (by omega)
   have hg3 := hgf 3 (by omega)
   have hg4 := hgf 4 (by omega)
   have hg5 := hgf 5 (by omega)
   have hg6 := hgf 6 (by omega)
   have hg7 := hgf 7 (by omega)
   have CV2 : Cel (w.heap.size + 1) 24 #[.int .i64 (rdF s 0), .int .i64 (rdF s 1), .int .i64 (rdF s 2), .int .i64 (rdF s 3), .int .i64 (rdF s 4), .int .i64 (rdF s 5), .int .i64 (rdF s 6), .int .i64 (rdF s 7)] wr := by
    have := CV.out
    rw [hg0, hg1, hg2, hg3, hg4, hg5, hg6, hg7] at this
    exact this
   clear hg0 hg1 hg2 hg3 hg4 hg5 hg6 hg7 hgf hmay CV HM HG
   obtain ⟨c0, c1, c2, c3, c4, c5, c6, c7⟩ := cel8 CV2
   obtain ⟨d0, d1, d2, d3, d4, d5, d6, d7⟩ := cel8 CR.out
   have fr := CR.out.free
   have CC : Hid _ := CV2
   clear CV2
   obtain ⟨tad, cap, k0, k1⟩ := rdr_cells HR'.out
   by_cases h9 : (rdV s 8).2 = 0
   ·have e9 : ((((rdV s 8).2 : Nat) : Int) != 0) = false := by simp [h9]
    go_wp2_with fail
    refine (fmay_any (rdF s) _).mono ?_
    rintro e v2 ⟨rfl, o2⟩
    clear c0 c1 c2 c3 c4 c5 c6 c7 d0 d1 d2 d3 d4 d5 d6 d7 fr k0 k1
    have C2 := CC.out.off o2 (fun h => h)
    have Z2 := CR.out.off o2 (fun h => h)
    have R2 := HR'.out.off o2 (fun h => h) (fun _ _ _ h => h)
    have O2 : Off (fun c => c = b) w v2 := O.trans o2 (fun _ _ h => h.elim)
    obtain ⟨c0, c1, c2, c3, c4, c5, c6, c7⟩ := cel8 C2
    obtain ⟨d0, d1, d2, d3, d4, d5, d6, d7⟩ := cel8 Z2
    have fr := Z2.free
    have HZ2 : Hid _ := Z2
    have HR2 : Hid _ := R2
    clear C2 Z2 R2 o2 CC CR HR'
    by_cases hm : mayB (rdF s) = true
    ·have rb : Hid (readB s = true) := (show readB s = true by simp [readB, h9, hm])
     have rf : Hid (readF s = rdF s) := (show readF s = rdF s by simp [readF, rb.out])
     rw [hm]
     clear hm
     go_wp2_with fail
     refine bodyPost_ret (results_vecb rfl rfl rfl (HZ2.out.st8 (rdF s))) rfl ?_
     rw [rb.out, rf.out]
     refine ⟨rfl, ?_, O2.st8 (.inr (by omega)) _⟩
     exact HR2.out.off ((Off.refl (fun c => c = w.heap.size) v2).st8 (.inl rfl) (rdF s)) (by omega) (fun c _ hc => by have := HL.out c hc; omega)
    ·have hm : mayB (rdF s) = false := by simpa using hm
     have rb : Hid (readB s = false) := (show readB s = false by simp [readB, hm])
     have rf : Hid (readF s = zer) := (show readF s = zer by simp [readF, rb.out])
     rw [hm]
     clear hm
     go_wp2_with fail
     refine bodyPost_ret (results_vecb rfl rfl rfl (HZ2.out.st8 zer)) rfl ?_
     rw [rb.out, rf.out]
     refine ⟨rfl, ?_, O2.st8 (.inr (by omega)) zer⟩
     exact HR2.out.off ((Off.refl (fun c => c = w.heap.size) v2).st8 (.inl rfl) zer) (by omega) (fun c _ hc => by have := HL.out c hc; omega)
   ·have e9 : ((((rdV s 8).2 : Nat) : Int) != 0) = true := by simp [h9]
    have rb : Hid (readB s = false) := (show readB s = false by simp [readB, h9])
    have rf : Hid (readF s = zer) := (show readF s = zer by simp [readF, rb.out])
    go_wp2_with fail
    refine bodyPost_ret (results_vecb rfl rfl rfl (CR.out.st8 zer)) rfl ?_
    rw [rb.out, rf.out]
    refine ⟨rfl, ?_, O.st8 (.inr (by omega)) zer⟩
    exact HR'.out.off ((Off.refl (fun c => c = w.heap.size) wr).st8 (.inl rfl) zer) (by omega) (fun c _ hc => by have := HL.out c hc; omega)
end Go.Proofs.Ytpnnpdfmoldiiaa
