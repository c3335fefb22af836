/- The walk of QueueAges. -/
import Derived.Test.YtmeclfgehpbjlabArg18
namespace Go.Proofs.Ytmeclfgehpbjlab
set_option maxRecDepth 100000
open Go.RowKit

theorem wgt_small {n : Nat} (h : n ≤ 3) : wgt (n : Int) = 4 * (n : Int) := by unfold wgt; omega
set_option maxHeartbeats 4000000 in
theorem ages_walk (q0 q1 q2 : Int) (w : World) (_ : -9223372036854775808 ≤ q0 ∧ q0 ≤ 9223372036854775807) (_ : -9223372036854775808 ≤ q1 ∧ q1 ≤ 9223372036854775807) (_ : -9223372036854775808 ≤ q2 ∧ q2 ≤ 9223372036854775807) :
    Calls Try.prog 3 #[.int .i64 q0, .int .i64 q1, .int .i64 q2] w fun e w' => e = .returned (.bool true) ∧ Off (fun _ => False) w w' := by
  have HN : Hid _ := nnew_any 5 w
  rw [show clq 5 = 5 by decide] at HN
  obtain ⟨A, ea, hA⟩ := rem_any q0 4 (by omega)
  obtain ⟨B, eb, hB⟩ := rem_any q1 4 (by omega)
  obtain ⟨T, et, hT⟩ := rem_any q2 16 (by omega)
  go_enter Try.func3, Try.ntmps3
  go_wp2_with fail
  refine Calls.mono HN.out ?_
  rintro e w1 ⟨p, rfl, h1⟩
  have H1 : Hid _ := h1
  clear h1 HN
  go_wp2_with fail
  refine (msg_any 1 _).mono ?_
  rintro e w2 ⟨rfl, o2⟩
  have H2 : Hid _ := H1.out.keep o2
  clear o2 H1
  go_wp2_with fail
  refine (nput_yes H2.out 1 (A : Int) (by decide) (by decide)).mono ?_
  rintro e w3 ⟨rfl, h3⟩
  rw [wgt_small (by omega), show insQ (4 * (A : Int) - 0) 1 [] = [(1, 4 * (A : Int))] by unfold insQ; rw [Int.sub_zero]] at h3
  have H3 : Hid _ := h3
  clear h3 H2
  go_wp2_with fail
  go_loopw [29] (fun s wr => ∃ i : Nat, s = .int .i64 (i : Int) ∧ i ≤ T ∧ Hid (QuN w p [(1, 4 * (A : Int))] 5 0 (i : Int) wr)) (fun s _ => ((T : Int) - intOf s).toNat)
  case atStart => exact ⟨0, rfl, by omega, H3.out⟩
  case round =>
    obtain ⟨i, rfl, hi, HQ⟩ := hrel
    clear H3
    by_cases h5 : i < T
    · go_wp2_with fail
      refine (ntick_any HQ.out (by omega)).mono ?_
      rintro e w4 ⟨rfl, h4⟩
      have H4 : Hid _ := h4
      clear h4 HQ
      go_wp2_with fail
      go_roundw
      case rel => exact ⟨i + 1, by go_num, by omega, H4.out⟩
      case measure => simp [intOf]; omega
    · obtain rfl : i = T := by omega
      clear hi h5
      go_wp2_with fail
      refine (msg_any 2 _).mono ?_
      rintro e w4 ⟨rfl, o4⟩
      have H4 : Hid _ := HQ.out.keep o4
      clear o4 HQ
      go_wp2_with fail
      refine (nput_yes H4.out 2 (B : Int) (by show ((1 : Nat) : Int) < 5; decide) (by omega)).mono ?_
      rintro e w5 ⟨rfl, h5⟩
      rw [wgt_small (by omega)] at h5
      have H5 : Hid _ := h5
      clear h5 H4
      go_wp2_with fail
      refine (ntick_any H5.out (by omega)).mono ?_
      rintro e w6 ⟨rfl, h6⟩
      obtain ⟨k, x, hl, hf⟩ : ∃ (k : Bool) (x : Int × Int), (∃ b, insQ (4 * (B : Int) - (i : Int)) 2 [(1, 4 * (A : Int))] = [x] ++ [(if k then 1 else 2, b)]) ∧ k = decide (4 * (B : Int) ≤ 4 * (A : Int) + (i : Int)) := by
        by_cases h : 4 * (A : Int) < 4 * (B : Int) - (i : Int)
        · exact ⟨false, (1, 4 * (A : Int)), ⟨4 * (B : Int) - (i : Int), by unfold insQ; rw [if_pos h]; rfl⟩, (decide_eq_false (by omega)).symm⟩
        · exact ⟨true, (2, 4 * (B : Int) - (i : Int)), ⟨4 * (A : Int), by unfold insQ; rw [if_neg h]; rfl⟩, (decide_eq_true (by omega)).symm⟩
      obtain ⟨b, hl⟩ := hl
      rw [hl] at h6
      have H6 : Hid _ := h6
      have HF : Hid (k = decide (4 * (B : Int) ≤ 4 * (A : Int) + (i : Int))) := hf
      clear h6 H5 hl hf
      go_wp2_with fail
      refine (ntake_some H6.out).mono ?_
      rintro e w8 ⟨rfl, h8⟩
      have H8 : Hid (QuN w p [x] 5 0 ((i : Int) + 1) w8) := h8
      clear h8 H6
      cases k
      · have hd : decide (4 * (B : Int) ≤ 4 * (A : Int) + (i : Int)) = false := HF.out.symm
        have hn : ¬ (4 * (B : Int) ≤ 4 * (A : Int) + (i : Int)) := of_decide_eq_false hd
        have hn2 : ¬ (4 * B ≤ 4 * A + i) := by omega
        have d2 : decide (4 * B ≤ 4 * A + i) = false := decide_eq_false hn2
        go_upto_region 11 with fail
        have O7 : Off (fun _ => False) w8 (w8.alloc (.cells #[.int .i64 (mm 2).k, .int .i64 (mm 2).fr, .int .i64 (mm 2).tn, .int .i64 (mm 2).op, .int .i64 (mm 2).fo, .string (mm 2).key, .int .i64 (mm 2).bk, .slice (mm 2).ea (mm 2).el (mm 2).ec, .slice (mm 2).da (mm 2).dl (mm 2).dc, .slice (mm 2).ma (mm 2).ml (mm 2).mc] 31)) := (Off.refl _ w8).alloc _
        have C7 : Cel w8.heap.size 31 #[.int .i64 (mm 2).k, .int .i64 (mm 2).fr, .int .i64 (mm 2).tn, .int .i64 (mm 2).op, .int .i64 (mm 2).fo, .string (mm 2).key, .int .i64 (mm 2).bk, .slice (mm 2).ea (mm 2).el (mm 2).ec, .slice (mm 2).da (mm 2).dl (mm 2).dc, .slice (mm 2).ma (mm 2).ml (mm 2).mc] (w8.alloc (.cells #[.int .i64 (mm 2).k, .int .i64 (mm 2).fr, .int .i64 (mm 2).tn, .int .i64 (mm 2).op, .int .i64 (mm 2).fo, .string (mm 2).key, .int .i64 (mm 2).bk, .slice (mm 2).ea (mm 2).el (mm 2).ec, .slice (mm 2).da (mm 2).dl (mm 2).dc, .slice (mm 2).ma (mm 2).ml (mm 2).mc] 31)) := Cel.new w8 _ _
        have hv : ∃ w7, (w8.alloc (.cells #[.int .i64 (mm 2).k, .int .i64 (mm 2).fr, .int .i64 (mm 2).tn, .int .i64 (mm 2).op, .int .i64 (mm 2).fo, .string (mm 2).key, .int .i64 (mm 2).bk, .slice (mm 2).ea (mm 2).el (mm 2).ec, .slice (mm 2).da (mm 2).dl (mm 2).dc, .slice (mm 2).ma (mm 2).ml (mm 2).mc] 31)) = w7 := ⟨_, rfl⟩
        obtain ⟨w7, hv⟩ := hv
        have c3 : w7.cell? ⟨w8.heap.size, 3, none⟩ = some (.int .i64 2) := by rw [← hv]; exact C7.cell 3
        have H7 : Hid (QuN w p [x] 5 0 ((i : Int) + 1) w7) := by rw [← hv]; exact H8.out.keep O7
        generalize hv2 : w8.alloc (.cells _ 31) = w9
        obtain rfl : w9 = w7 := by rw [← hv2, ← hv]
        clear hv hv2 O7 C7 H8
        generalize w8.heap.size = q at c3 ⊢
        go_wp2_with fail
        refine (nlen_any H7.out).mono ?_
        rintro e w8 ⟨rfl, hw⟩
        rw [hw]
        clear hw w8
        have dl : ((([x] : List (Int × Int)).length : Int) == 1) = true := rfl
        go_wp2_with fail
        refine (awake_any _).mono ?_
        rintro e w3 ⟨rfl, o3⟩
        have HO : Hid _ := H7.out.off.trans o3 (fun _ _ h => h)
        clear o3
        go_wp2_with fail
        go_ret
        exact ⟨rfl, HO.out⟩
      · have hd : decide (4 * (B : Int) ≤ 4 * (A : Int) + (i : Int)) = true := HF.out.symm
        have hn : 4 * (B : Int) ≤ 4 * (A : Int) + (i : Int) := of_decide_eq_true hd
        have hn2 : 4 * B ≤ 4 * A + i := by omega
        have d2 : decide (4 * B ≤ 4 * A + i) = true := decide_eq_true hn2
        go_upto_region 11 with fail
        have O7 : Off (fun _ => False) w8 (w8.alloc (.cells #[.int .i64 (mm 1).k, .int .i64 (mm 1).fr, .int .i64 (mm 1).tn, .int .i64 (mm 1).op, .int .i64 (mm 1).fo, .string (mm 1).key, .int .i64 (mm 1).bk, .slice (mm 1).ea (mm 1).el (mm 1).ec, .slice (mm 1).da (mm 1).dl (mm 1).dc, .slice (mm 1).ma (mm 1).ml (mm 1).mc] 31)) := (Off.refl _ w8).alloc _
        have C7 : Cel w8.heap.size 31 #[.int .i64 (mm 1).k, .int .i64 (mm 1).fr, .int .i64 (mm 1).tn, .int .i64 (mm 1).op, .int .i64 (mm 1).fo, .string (mm 1).key, .int .i64 (mm 1).bk, .slice (mm 1).ea (mm 1).el (mm 1).ec, .slice (mm 1).da (mm 1).dl (mm 1).dc, .slice (mm 1).ma (mm 1).ml (mm 1).mc] (w8.alloc (.cells #[.int .i64 (mm 1).k, .int .i64 (mm 1).fr, .int .i64 (mm 1).tn, .int .i64 (mm 1).op, .int .i64 (mm 1).fo, .string (mm 1).key, .int .i64 (mm 1).bk, .slice (mm 1).ea (mm 1).el (mm 1).ec, .slice (mm 1).da (mm 1).dl (mm 1).dc, .slice (mm 1).ma (mm 1).ml (mm 1).mc] 31)) := Cel.new w8 _ _
        have hv : ∃ w7, (w8.alloc (.cells #[.int .i64 (mm 1).k, .int .i64 (mm 1).fr, .int .i64 (mm 1).tn, .int .i64 (mm 1).op, .int .i64 (mm 1).fo, .string (mm 1).key, .int .i64 (mm 1).bk, .slice (mm 1).ea (mm 1).el (mm 1).ec, .slice (mm 1).da (mm 1).dl (mm 1).dc, .slice (mm 1).ma (mm 1).ml (mm 1).mc] 31)) = w7 := ⟨_, rfl⟩
        obtain ⟨w7, hv⟩ := hv
        have c3 : w7.cell? ⟨w8.heap.size, 3, none⟩ = some (.int .i64 1) := by rw [← hv]; exact C7.cell 3
        have H7 : Hid (QuN w p [x] 5 0 ((i : Int) + 1) w7) := by rw [← hv]; exact H8.out.keep O7
        generalize hv2 : w8.alloc (.cells _ 31) = w9
        obtain rfl : w9 = w7 := by rw [← hv2, ← hv]
        clear hv hv2 O7 C7 H8
        generalize w8.heap.size = q at c3 ⊢
        go_wp2_with fail
        refine (nlen_any H7.out).mono ?_
        rintro e w8 ⟨rfl, hw⟩
        rw [hw]
        clear hw w8
        have dl : ((([x] : List (Int × Int)).length : Int) == 1) = true := rfl
        go_wp2_with fail
        refine (awake_any _).mono ?_
        rintro e w3 ⟨rfl, o3⟩
        have HO : Hid _ := H7.out.off.trans o3 (fun _ _ h => h)
        clear o3
        go_wp2_with fail
        go_ret
        exact ⟨rfl, HO.out⟩
end Go.Proofs.Ytmeclfgehpbjlab
