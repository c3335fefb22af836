/- The walk of KeysMay. -/
import Derived.Test.YtdkmnnihgobmoaaAwk9
namespace Go.Proofs.Ytdkmnnihgobmoaa
open Go.RowKit

theorem u64_mod (p : Int) (n : Nat) (hn : 0 < n) : ∃ m : Nat, m < n ∧ (IntKind.u64.wrap p).tmod (n : Int) = (m : Int) := by
  refine ⟨(p % 18446744073709551616).toNat % n, Nat.mod_lt _ hn, ?_⟩
  have e : IntKind.u64.wrap p = (((p % 18446744073709551616).toNat : Nat) : Int) := by
    simp only [IntKind.wrap, IntKind.bits, IntKind.signed]
    go_num
  rw [e]
  rfl
theorem vl_set (bs : List Nat) (i y : Nat) : vl (bs.set i y) = (vl bs).set i (.int .u8 (y : Int)) := by simp [vl, List.map_set]
/-- A byte of a row of the call's own is written over. -/
theorem OwnR.set {w : World} {g cap : Nat} {bs : List Nat} (h : OwnR w (some ⟨g, 0, none⟩) cap bs) (i y : Nat) : OwnR (w.setCell ⟨g, i, none⟩ (.int .u8 (y : Int))) (some ⟨g, 0, none⟩) cap (bs.set i y) := by
  have := (World.ownsRow.stored h.row i (.int .u8 (y : Int))).1
  refine ⟨?_⟩
  rw [List.length_set, vl_set]
  exact this
theorem OwnR.cellAt {w : World} {g cap : Nat} {bs : List Nat} (h : OwnR w (some ⟨g, 0, none⟩) cap bs) {i : Nat} (hi : i < bs.length) : w.cell? ⟨g, i, none⟩ = some (.int .u8 ((bs.getD i 0 : Nat) : Int)) ∧ w.frozen? ⟨g, i, none⟩ = false := by
  refine ⟨?_, World.ownsRow.frozenAt h.row i⟩
  rw [World.ownsRow.cellAt h.row i (by simpa using hi)]
  exact vl_get bs i hi

/-- A row of m bytes, the first j of them written. -/
def rowC (m c j : Nat) : List Nat := List.replicate j c ++ List.replicate (m - j) 0
theorem rowC_len {m c j : Nat} (h : j ≤ m) : (rowC m c j).length = m := by
  simp [rowC]
  omega
theorem rowC_set {m c j : Nat} (h : j < m) : (rowC m c j).set j c = rowC m c (j + 1) := by
  unfold rowC
  have e : m - j = (m - (j + 1)) + 1 := by omega
  rw [e, List.replicate_succ, List.set_append_right _ _ (by simp)]
  simp [List.replicate_succ']
theorem made_row (m : Nat) : (madeCells (Value.int .u8 0).cells (m * 1)).toList = vl (rowC m 0 0) := by
  have := toList_madeCells_one (Value.int .u8 0) (m * 1)
  simp only [Value.cells] at this ⊢
  rw [this]
  simp [vl, rowC]
theorem bkt_rep (m c : Nat) : bkt (List.replicate m c) = m * c % 4 := by simp [bkt]
set_option maxRecDepth 100000 in
set_option maxHeartbeats 1000000 in
theorem keysmay_walk (p : Int) (c : Nat) (w : World) (_ : -9223372036854775808 ≤ p ∧ p ≤ 9223372036854775807) (hc : c < 256) :
    Calls Try.prog 8 #[.int .i64 p, .int .u8 (c : Int)] w fun e w' => e = .returned (.bool true) ∧ Off (fun _ => False) w w' := by
  obtain ⟨i0, hi, hz0, hz1, hz2⟩ := info_parts Try.infoB
  obtain ⟨m, hm, em⟩ := u64_mod p 40 (by omega)
  replace em : (IntKind.u64.wrap p).tmod 40 = (m : Int) := em
  have ew : wrap64 (m : Int) = (m : Int) := by simp only [wrap64]; omega
  go_enter Try.func8, Try.ntmps8
  go_wp2_with (at_make; refine wpList_make_full _ rfl _ _ 27 rfl 0 5 i0 (.int .u8 0) 1 Try.underlying27 hi hz0 hz1 _ _ _ _ m rfl rfl rfl rfl (by rw [hz2]; omega) (by unfold maxLen; omega) (Nat.zero_le _) ?_; intro w1 hown hgrow)
  have O1 : Off (fun _ => False) w w1 := (Off.refl _ w).grown hgrow (by simp)
  have R1 : OwnR w1 (some ⟨w.heap.size, 0, none⟩) m (rowC m c 0) := by
    rw [made_row] at hown
    refine ⟨?_⟩
    rw [rowC_len (Nat.zero_le m)]
    exact hown
  have HO1 : Hid _ := O1
  have HR1 : Hid _ := R1
  clear hown hgrow O1 R1
  obtain ⟨g, hg⟩ : ∃ g, g = w.heap.size := ⟨_, rfl⟩
  rw [← hg] at HR1 ⊢
  have hgw : w.heap.size ≤ g := by omega
  clear hg
  go_loopw [16] (fun i wr => ∃ (j : Nat), j ≤ m ∧ i = .int .i64 j ∧ OwnR wr (some ⟨g, 0, none⟩) m (rowC m c j) ∧ Off (fun _ => False) w wr) (fun i _ => (m - intOf i).toNat)
  case atStart => exact ⟨0, by omega, rfl, HR1.out, HO1.out⟩
  case round =>
    obtain ⟨j, hj, rfl, own, off⟩ := hrel
    by_cases hlt : j < m
    · have OWN : Hid _ := own
      have OFF : Hid _ := off
      obtain ⟨c0, f0⟩ := own.cellAt (i := j) (by rw [rowC_len hj]; exact hlt)
      clear own off
      go_wp2_with fail
      go_roundw
      case rel => exact ⟨j + 1, by omega, by go_num, by have := OWN.out.set j c; rw [rowC_set hlt] at this; exact this, OFF.out.setCell (.inr hgw) _⟩
      case measure => simp [intOf]; omega
    · obtain rfl : j = m := by omega
      have hcs := conv_src own.src
      rw [rowC_len (Nat.le_refl _)] at hcs
      have er : rowC j c j = List.replicate j c := by simp [rowC]
      rw [er] at hcs
      have OFF : Hid _ := off
      clear own off er
      obtain ⟨k, hk⟩ : ∃ k, k = strOf (List.replicate j c) := ⟨_, rfl⟩
      have hkt : tx k = List.replicate j c := by rw [hk]; exact tx_strOf (fun x hx => by rw [List.eq_of_mem_replicate hx]; exact hc)
      rw [← hk] at hcs
      have hks : k.size = j := by rw [← tx_len, hkt]; simp
      have hK := may_any k
      have hBK := bucket_any k (by rw [hks]; omega)
      rw [hkt, bkt_rep] at hBK
      obtain ⟨P, hP⟩ : ∃ P, P = j * c := ⟨_, rfl⟩
      have lP : P ≤ 39 * 255 := by rw [hP]; exact Nat.mul_le_mul (by omega) (by omega)
      have mP : (j : Int) * (c : Int) = (P : Int) := by rw [hP]; exact (Int.natCast_mul j c).symm
      rw [← hP] at hBK
      obtain ⟨z, hz⟩ : ∃ z, z = P % 4 := ⟨_, rfl⟩
      rw [← hz] at hBK
      have tP : (P : Int) % 4 = (z : Int) := by omega
      have HBK : Hid _ := hBK
      have hB1 := bucket_any (strOf [c]) (by rw [← tx_len, tx_strOf (by simp; exact hc)]; simp)
      rw [tx_strOf (by simp; exact hc)] at hB1
      obtain ⟨y, hy⟩ : ∃ y, y = c % 4 := ⟨_, rfl⟩
      have eb : bkt [c] = y := by rw [hy]; simp [bkt]
      rw [eb] at hB1
      have tc : (c : Int) % 4 = (y : Int) := by omega
      have HB1 : Hid _ := hB1
      have HKS : Hid _ := hks
      have hcs1 := conv_src (src_new wr c)
      have hcs1 : (convert 27 9 (.slice (some ⟨wr.heap.size, 0, none⟩) 1 1)).run Try.prog (wr.alloc (.cells #[.int .u8 (c : Int)] 5)) = .ok (.string (strOf [c])) (wr.alloc (.cells #[.int .u8 (c : Int)] 5)) := hcs1
      generalize strOf [c] = k1 at *
      clear hk hkt hks hBK hP hz hB1 hy eb
      by_cases h1 : 1 ≤ j
      · have HM1 : Hid _ := h1
        have d1 : decide ((1 : Int) ≤ (j : Int)) = true := decide_eq_true (by omega)
        by_cases h2 : j ≤ 32
        · have HM2 : Hid _ := h2
          have d2 : decide ((j : Int) ≤ 32) = true := decide_eq_true (by omega)
          have kb : keyB k = true := by simp [keyB, HKS.out, HM1.out, HM2.out]
          rw [kb] at hK
          have HK : Hid _ := hK
          clear hK kb
          go_wp2_with fail
          refine Calls.mono (HK.out _) ?_
          rintro e w9 ⟨rfl, hw⟩
          rw [hw]
          clear hw w9
          go_wp2_with fail
          refine Calls.mono (HBK.out _) ?_
          rintro e w9 ⟨rfl, hw⟩
          rw [hw]
          clear hw w9
          go_wp2_with fail
          refine Calls.mono (HB1.out _) ?_
          rintro e w9 ⟨rfl, hw⟩
          rw [hw]
          clear hw w9
          go_wp2_with fail
          refine (awake_any _).mono ?_
          rintro e va ⟨rfl, oa⟩
          go_wp2_with fail
          go_ret
          exact ⟨rfl, (OFF.out.alloc _).trans oa (fun _ _ h => h)⟩
        · have d2 : decide ((j : Int) ≤ 32) = false := decide_eq_false (by omega)
          have kb : keyB k = false := by rw [keyB, HKS.out, decide_eq_false h2, Bool.and_false]
          rw [kb] at hK
          have HK : Hid _ := hK
          clear hK kb
          go_wp2_with fail
          refine Calls.mono (HK.out _) ?_
          rintro e w9 ⟨rfl, hw⟩
          rw [hw]
          clear hw w9
          go_wp2_with fail
          refine Calls.mono (HBK.out _) ?_
          rintro e w9 ⟨rfl, hw⟩
          rw [hw]
          clear hw w9
          go_wp2_with fail
          refine Calls.mono (HB1.out _) ?_
          rintro e w9 ⟨rfl, hw⟩
          rw [hw]
          clear hw w9
          go_wp2_with fail
          refine (awake_any _).mono ?_
          rintro e va ⟨rfl, oa⟩
          go_wp2_with fail
          go_ret
          exact ⟨rfl, (OFF.out.alloc _).trans oa (fun _ _ h => h)⟩
      · have d1 : decide ((1 : Int) ≤ (j : Int)) = false := decide_eq_false (by omega)
        have kb : keyB k = false := by rw [keyB, HKS.out, decide_eq_false h1, Bool.false_and]
        rw [kb] at hK
        have HK : Hid _ := hK
        clear hK kb
        go_wp2_with fail
        refine Calls.mono (HK.out _) ?_
        rintro e w9 ⟨rfl, hw⟩
        rw [hw]
        clear hw w9
        go_wp2_with fail
        refine Calls.mono (HBK.out _) ?_
        rintro e w9 ⟨rfl, hw⟩
        rw [hw]
        clear hw w9
        go_wp2_with fail
        refine Calls.mono (HB1.out _) ?_
        rintro e w9 ⟨rfl, hw⟩
        rw [hw]
        clear hw w9
        go_wp2_with fail
        refine (awake_any _).mono ?_
        rintro e va ⟨rfl, oa⟩
        go_wp2_with fail
        go_ret
        exact ⟨rfl, (OFF.out.alloc _).trans oa (fun _ _ h => h)⟩
end Go.Proofs.Ytdkmnnihgobmoaa
