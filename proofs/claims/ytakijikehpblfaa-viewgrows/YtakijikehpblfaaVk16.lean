/- The program's Join. -/
import Derived.Test.YtakijikehpblfaaVj16
namespace Go.Proofs.Ytakijikehpblfaa
set_option maxRecDepth 100000
open Go.RowKit

def okB (d : VD) (i : Nat) (x : Mb) : Bool := decide (i < d.n) && mayB x.1 x.2
def joiS (d : VD) (i : Nat) (x : Mb) : VD := if okB d i x = true then holdD d i (joiD d i x) else d
def newB (d : VD) (i : Nat) (x : Mb) : Bool := okB d i x && !eqM (d.m i).1 (d.m i).2 (joiD d i x).1 (joiD d i x).2
/-- Behind the first k of l. -/
def joinK (d : VD) (l : List Mb) : Nat → VD
  | 0 => d
  | k + 1 => joiS (joinK d l k) k (l.getD k (0, 0))
def joinB (d : VD) (l : List Mb) : Nat → Bool
  | 0 => false
  | k + 1 => joinB d l k || newB (joinK d l k) k (l.getD k (0, 0))
theorem joiS_n (d : VD) (i : Nat) (x : Mb) : (joiS d i x).n = d.n ∧ (joiS d i x).self = d.self ∧ (joiS d i x).op = d.op := by
  unfold joiS
  split
  · exact holdD_n _ _ _
  · exact ⟨rfl, rfl, rfl⟩
theorem joinK_n (d : VD) (l : List Mb) (k : Nat) : (joinK d l k).n = d.n ∧ (joinK d l k).self = d.self ∧ (joinK d l k).op = d.op := by
  induction k with
  | zero => exact ⟨rfl, rfl, rfl⟩
  | succ k ih =>
    have h := joiS_n (joinK d l k) k (l.getD k (0, 0))
    exact ⟨h.1.trans ih.1, h.2.1.trans ih.2.1, h.2.2.trans ih.2.2⟩
set_option maxHeartbeats 1000000 in
theorem join_row {p : Nat} {d : VD} (t : Option Addr) (c : Nat) (l : List Mb) {w : World} (hl : Mls w t c l) (ht : 0 < l.length → blk t ≠ some p) (h : Vw p d w) :
    Calls Try.prog 19 #[.pointer (some ⟨p, 0, none⟩), .slice t l.length c] w fun e w' => e = .returned (.bool (joinB d l l.length)) ∧ Vw p (joinK d l l.length) w' ∧ Off (fun c => c = p) w w' := by
  have HV : Hid _ := h
  have HL : Hid _ := hl
  have HT : Hid (0 < l.length → blk t ≠ some p) := ht
  have hlen := hl.len
  have HP : Hid (p < w.heap.size) := h.lt
  clear h hl ht
  go_enter Try.func19, Try.ntmps19
  go_wp2_with fail
  go_loopw [5, 10] (fun s5 s10 wr => ∃ k : Nat, s5 = .bool (joinB d l k) ∧ s10 = .int .i64 (k : Int) ∧ k ≤ l.length ∧ Vw p (joinK d l k) wr ∧ Off (fun c => c = p) w wr) (fun _ i _ => ((l.length : Int) - intOf i).toNat)
  case atStart => exact ⟨0, rfl, rfl, by omega, HV.out, Off.refl _ w⟩
  case round =>
    obtain ⟨k, rfl, rfl, hk, v, o⟩ := hrel
    have HW : Hid _ := v
    have HO : Hid _ := o
    clear v o
    by_cases hlt : k < l.length
    · obtain ⟨x, hx⟩ : ∃ x, l[k]? = some x := ⟨_, List.getElem?_eq_getElem hlt⟩
      obtain ⟨g, of, rfl, x0, x1⟩ := (HL.out.offD HO.out (fun c _ hc e => HT.out (by omega) (by rw [hc, e]))).at_ k x hx
      have HX : Hid (l.getD k (0, 0) = x) := by show _ = _; rw [List.getD_eq_getElem?_getD, hx]; rfl
      have HN : Hid ((joinK d l k).n = d.n ∧ (joinK d l k).self = d.self) := ⟨(joinK_n d l k).1, (joinK_n d l k).2.1⟩
      have HBS : Hid (joinB d l (k + 1) = (joinB d l k || newB (joinK d l k) k x)) := by show joinB _ _ _ = _; rw [← HX.out]; rfl
      have HDS : Hid (joinK d l (k + 1) = joiS (joinK d l k) k x) := by show joinK _ _ _ = _; rw [← HX.out]; rfl
      clear hx
      obtain ⟨xs, xi⟩ := x
      simp only at x0 x1
      generalize joinK d l k = D at *
      generalize joinB d l k = B at *
      go_upto_region 5 with fail
      generalize hW : wr.alloc (.cells #[.int .i64 xs, .int .i64 xi] 46) = W
      have HOW : Hid (Off (fun c => c = p) w W) := by rw [← hW]; exact HO.out.alloc _
      have HB7 : Hid (Cel wr.heap.size 46 #[.int .i64 xs, .int .i64 xi] W) := by rw [← hW]; exact Cel.new wr _ _
      have HVW : Hid (Vw p D W) := by rw [← hW]; exact HW.out.alloc _
      have HNE : Hid (wr.heap.size ≠ p) := by show _ ≠ _; have := HW.out.lt; omega
      clear hW x0 x1 HW HO
      have b0 : W.cell? ⟨wr.heap.size, 0, none⟩ = some (.int .i64 xs) := HB7.out.cell 0
      have b1 : W.cell? ⟨wr.heap.size, 1, none⟩ = some (.int .i64 xi) := HB7.out.cell 1
      have H1 : Hid _ := has_any (k : Int) HVW.out
      cases h1 : hasB D.n (k : Int)
      · rw [h1] at H1
        have HOK : Hid (okB D k (xs, xi) = false) := by show _ = _; unfold okB; rw [← hasB_nat, h1]; rfl
        have HB : Hid (joinB d l (k + 1) = B) := by show _ = _; rw [HBS.out]; unfold newB; rw [HOK.out]; simp
        have HD : Hid (joinK d l (k + 1) = D) := by show _ = _; rw [HDS.out]; unfold joiS; rw [HOK.out]; rfl
        clear h1
        go_wp2_with fail
        refine Calls.mono H1.out ?_
        rintro e w2 ⟨rfl, hw⟩
        rw [hw]
        clear hw w2
        have HVE : Hid _ := HVW.out
        have HOE : Hid _ := HOW.out
        go_wp2_with fail
        go_roundw
        case rel => exact ⟨k + 1, by rw [HB.out], by go_num, by omega, by rw [HD.out]; exact HVE.out, HOE.out⟩
        case measure => simp [intOf]; omega
      · rw [h1] at H1
        have hkn : k < D.n := by rw [hasB_nat] at h1; exact of_decide_eq_true h1
        have HH : Hid (decide (k < D.n) = true) := by show _ = _; rw [← hasB_nat]; exact h1
        have H2 : Hid _ := may_any xs xi W
        cases h2 : mayB xs xi
        · rw [h2] at H2
          have HOK : Hid (okB D k (xs, xi) = false) := by show _ = _; unfold okB; rw [h2]; simp
          have HB : Hid (joinB d l (k + 1) = B) := by show _ = _; rw [HBS.out]; unfold newB; rw [HOK.out]; simp
          have HD : Hid (joinK d l (k + 1) = D) := by show _ = _; rw [HDS.out]; unfold joiS; rw [HOK.out]; rfl
          clear h1 h2 hkn
          go_wp2_with fail
          refine Calls.mono H1.out ?_
          rintro e w2 ⟨rfl, hw⟩
          rw [hw]
          clear hw w2
          go_wp2_with fail
          refine Calls.mono H2.out ?_
          rintro e w2 ⟨rfl, o2⟩
          have HVE : Hid _ := HVW.out.off o2 (fun h => h)
          have HOE : Hid _ := HOW.out.trans o2 (fun _ _ h => h.elim)
          clear o2 b0 b1
          go_wp2_with fail
          go_roundw
          case rel => exact ⟨k + 1, by rw [HB.out], by go_num, by omega, by rw [HD.out]; exact HVE.out, HOE.out⟩
          case measure => simp [intOf]; omega
        · rw [h2] at H2
          have HKN : Hid (k < D.n) := hkn
          have HOK : Hid (okB D k (xs, xi) = true) := by show _ = _; unfold okB; rw [h2, HH.out]; rfl
          have HB : Hid (joinB d l (k + 1) = (B || !eqM (D.m k).1 (D.m k).2 (joiD D k (xs, xi)).1 (joiD D k (xs, xi)).2)) := by show _ = _; rw [HBS.out]; unfold newB; rw [HOK.out]; simp
          have HD : Hid (joinK d l (k + 1) = holdD D k (joiD D k (xs, xi))) := by show _ = _; rw [HDS.out]; unfold joiS; rw [HOK.out]; rfl
          clear h1 h2 hkn
          go_wp2_with fail
          refine Calls.mono H1.out ?_
          rintro e w2 ⟨rfl, hw⟩
          rw [hw]
          clear hw w2
          go_wp2_with fail
          refine Calls.mono H2.out ?_
          rintro e w2 ⟨rfl, o2⟩
          have HV2 : Hid _ := HVW.out.off o2 (fun h => h)
          have HO2 : Hid _ := HOW.out.trans o2 (fun _ _ h => h.elim)
          have HB2 : Hid _ := HB7.out.off o2 (fun h => h)
          clear o2 b0 b1
          have b0 : w2.cell? ⟨wr.heap.size, 0, none⟩ = some (.int .i64 xs) := HB2.out.cell 0
          have b1 : w2.cell? ⟨wr.heap.size, 1, none⟩ = some (.int .i64 xi) := HB2.out.cell 1
          have H3 : Hid _ := joined_any HKN.out (xs, xi) HV2.out
          generalize joiD D k (xs, xi) = y at *
          go_wp2_with fail
          refine Calls.mono H3.out ?_
          rintro e w3 ⟨rfl, o3⟩
          have HV3 : Hid _ := HV2.out.off o3 (fun h => h)
          have HO3 : Hid _ := HO2.out.trans o3 (fun _ _ h => h.elim)
          have H4 : Hid _ := hold_any HKN.out y HV3.out
          clear o3 b0 b1
          generalize eqM (D.m k).1 (D.m k).2 y.1 y.2 = q at *
          go_wp2_with fail
          refine Calls.mono H4.out ?_
          rintro e w4 ⟨rfl, v4, o4⟩
          have HVE : Hid _ := v4
          have HOE : Hid _ := HO3.out.trans o4 (fun _ _ h => h)
          clear v4 o4
          cases q
          · go_wp2_with fail
            go_roundw
            case rel => exact ⟨k + 1, by rw [HB.out]; simp, by go_num, by omega, by rw [HD.out]; exact HVE.out, HOE.out⟩
            case measure => simp [intOf]; omega
          · go_wp2_with fail
            go_roundw
            case rel => exact ⟨k + 1, by rw [HB.out]; simp, by go_num, by omega, by rw [HD.out]; exact HVE.out, HOE.out⟩
            case measure => simp [intOf]; omega
    · obtain rfl : k = l.length := by omega
      go_wp2_with fail
      go_ret
      exact ⟨rfl, HW.out, HO.out⟩
theorem join_nilv (t : Option Addr) (c : Nat) (l : List Mb) {w : World} (hl : Mls w t c l) :
    Calls Try.prog 19 #[.pointer none, .slice t l.length c] w fun e w' => e = .returned (.bool false) ∧ Off (fun _ => False) w w' := by
  have HL : Hid _ := hl
  have hlen := hl.len
  clear hl
  go_enter Try.func19, Try.ntmps19
  go_wp2_with fail
  go_loopw [5, 10] (fun s5 s10 wr => ∃ k : Nat, s5 = .bool false ∧ s10 = .int .i64 (k : Int) ∧ k ≤ l.length ∧ Off (fun _ => False) w wr) (fun _ i _ => ((l.length : Int) - intOf i).toNat)
  case atStart => exact ⟨0, rfl, rfl, by omega, Off.refl _ w⟩
  case round =>
    obtain ⟨k, rfl, rfl, hk, o⟩ := hrel
    have HO : Hid _ := o
    clear o
    by_cases hlt : k < l.length
    · obtain ⟨x, hx⟩ : ∃ x, l[k]? = some x := ⟨_, List.getElem?_eq_getElem hlt⟩
      obtain ⟨g, of, rfl, x0, x1⟩ := (HL.out.offD HO.out (fun c _ hc e => e)).at_ k x hx
      clear hx
      obtain ⟨xs, xi⟩ := x
      simp only at x0 x1
      go_upto_region 5 with fail
      generalize hW : wr.alloc (.cells #[.int .i64 xs, .int .i64 xi] 46) = W
      have HOW : Hid (Off (fun _ => False) w W) := by rw [← hW]; exact HO.out.alloc _
      clear hW x0 x1 HO
      have H1 : Hid _ := has_nil (k : Int) W
      go_wp2_with fail
      refine Calls.mono H1.out ?_
      rintro e w2 ⟨rfl, hw⟩
      rw [hw]
      clear hw w2
      go_wp2_with fail
      go_roundw
      case rel => exact ⟨k + 1, rfl, by go_num, by omega, HOW.out⟩
      case measure => simp [intOf]; omega
    · obtain rfl : k = l.length := by omega
      go_wp2_with fail
      go_ret
      exact ⟨rfl, HO.out⟩
end Go.Proofs.Ytakijikehpblfaa
