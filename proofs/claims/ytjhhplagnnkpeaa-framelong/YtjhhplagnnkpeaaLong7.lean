/- The walk of FrameLong. -/
import Derived.Test.YtjhhplagnnkpeaaTells7
import Derived.Test.YtjhhplagnnkpeaaRTake7
import Derived.Laws.OwnMore
namespace Go.Proofs.Ytjhhplagnnkpeaa
open Go.RowKit

/-- The row of a slice that was made: n bytes, each 0. -/
def madeB (n : Nat) : Array Value := madeCells (Value.int .u8 0).cells n
theorem madeB_at {n j : Nat} (h : j < n) : (madeB n)[j]? = some (.int .u8 0) := by
  simp [madeB, madeCells, h, Value.cells, Nat.mod_one]
theorem make_run (n : Nat) (hn : n ≤ 1000000) (W : World) : (Instr.makeSlice 22 (.int .i64 (n : Int)) (.int .i64 (n : Int))).run Try.prog W = .ok (.slice (some ⟨W.heap.size, 0, none⟩) n n) (W.alloc (.cells (madeB n) 5)) := by
  obtain ⟨i0, hi, hz0, hz1, hz2⟩ := info_parts Try.infoB
  have h := run_makeSlice (P := Try.prog) W 22 5 i0 (.int .u8 0) Try.underlying22 hi hz0 .i64 .i64 (n : Int) (n : Int) (by omega) (by omega) (by rw [hz1]; omega) (by rw [hz2]; omega) (by omega)
  rw [h]
  simp [madeB, hz1]
theorem src_made (w : World) (xs : List Nat) (hx : ∀ x ∈ xs, x = 0) : Src (w.alloc (.cells (madeB xs.length) 5)) (some ⟨w.heap.size, 0, none⟩) xs.length xs := by
  have h := heap_alloc_new w (.cells (madeB xs.length) 5)
  refine ⟨.inr ⟨_, rfl, fun j u hj => ?_⟩⟩
  have hj' := vl_lt hj
  rw [vl_get _ _ hj'] at hj
  rw [add_lit]
  simp only [World.cell?]
  rw [h]
  have e : xs.getD j 0 = 0 := by
    have : xs.getD j 0 = xs[j] := by simp [hj']
    rw [this]
    exact hx _ (List.getElem_mem hj')
  rw [e] at hj
  have := madeB_at hj'
  simp only [Nat.zero_add]
  rw [this]
  exact hj
theorem zeros (k : Nat) : ∃ xs : List Nat, xs.length = k ∧ ∀ x ∈ xs, x = 0 := ⟨List.replicate k 0, by simp, fun x hx => by simpa using (List.mem_replicate.1 hx).2⟩

theorem made_inp (w : World) (xs : List Nat) (hx : ∀ x ∈ xs, x = 0) : Inp (w.alloc (.cells (madeB xs.length) 5)) (some ⟨w.heap.size, 0, none⟩) xs.length xs :=
  ⟨src_made w xs hx, Nat.le_refl _, fun x h => by rw [hx x h]; decide⟩
theorem tkE_long {r : List Nat} (h1 : 60000 < r.length) (h2 : r.length ≤ 100000) : tkE (frm r) = 4 := by
  have hn : num4 (frm r) = r.length := by
    rw [frm]
    exact num_be4 (by omega) _
  rw [tkE, if_neg (by rw [frm_len]; omega), hn, if_pos h1]

set_option maxRecDepth 100000 in
set_option maxHeartbeats 1000000 in
theorem long_walk (p : Int) (sh : Bool) (w : World) (_ : -9223372036854775808 ≤ p ∧ p ≤ 9223372036854775807) :
    Calls Try.prog 5 #[.int .i64 p, .bool sh] w fun e w' => e = .returned (.bool true) ∧ Off (fun _ => False) w w' := by
  obtain ⟨m, hm, em⟩ := u64_mod p 5 (by omega)
  replace em : (IntKind.u64.wrap p).tmod 5 = (m : Int) := em
  obtain ⟨xs, hxl, hx⟩ := zeros (59998 + m)
  have ew1 : wrap64 (m : Int) = (m : Int) := by simp only [wrap64]; omega
  have ew2 : wrap64 (59998 + (m : Int)) = (xs.length : Int) := by simp only [wrap64]; omega
  have ew3 : (59998 : Int) + (m : Int) = (xs.length : Int) := by omega
  have l1 : 59998 ≤ xs.length := by omega
  have l2 : xs.length ≤ 60002 := by omega
  have HX : Hid (∀ x ∈ xs, x = 0) := hx
  have HXL : Hid (∀ x ∈ xs, x < 256) := fun x h => by rw [hx x h]; decide
  have mx := make_run xs.length (by omega)
  have I1 := made_inp w xs hx
  have O1 : Off (fun _ => False) w (w.alloc (.cells (madeB xs.length) 5)) := (Off.refl _ w).alloc _
  clear hx hxl hm
  by_cases hbig : 60000 < xs.length
  · have d1 : decide ((60000 : Int) < (xs.length : Int)) = true := decide_eq_true (by omega)
    have HTE : Hid (tkE (frm xs) = 4) := tkE_long hbig (by omega)
    have HNO : Hid (tkR (frm xs) = [] ∧ tkN (frm xs) = 0) := tkR_no (by rw [HTE.out]; decide)
    have HLT : Hid (∀ x ∈ frm xs, x < 256) := frm_lt HXL.out
    have HLN : Hid ((frm xs).length ≤ 70000) := by show (frm xs).length ≤ 70000; rw [frm_len]; omega
    go_enter Try.func5, Try.ntmps5
    go_wp2_with fail
    generalize w.alloc (.cells (madeB xs.length) 5) = v1 at *
    have HI1 : Hid _ := I1
    have F1 : Hid _ := O1
    clear I1 O1
    generalize w.heap.size = q1 at *
    refine (putLong_any none 0 0 (some ⟨q1, 0, none⟩) xs.length xs hbig).mono ?_
    rintro e v2 ⟨rfl, hv⟩
    rw [hv]
    clear hv v2
    go_wp2_with fail
    refine (rframe_any HI1.out (by omega)).mono ?_
    rintro e v3 ⟨t3, c3, rfl, R3, -, O3⟩
    have F3 : Hid _ := F1.out.trans O3 (fun _ _ h => h)
    have T3 : Hid _ := takeF_any (R3.inp HLT.out) (by have := HLN.out; omega)
    rw [HTE.out, HNO.out.1, HNO.out.2] at T3
    clear R3 O3
    have hln := HLN.out
    clear HTE HNO HLT HLN
    generalize frm xs = ys at *
    go_wp2_with fail
    refine Calls.mono T3.out ?_
    rintro e v4 ⟨t4, c4, rfl, -, -, O4⟩
    have F4 : Hid _ := F3.out.trans O4 (fun _ _ h => h)
    clear O4 T3
    go_wp2_with fail
    refine (awake_any _).mono ?_
    rintro e va ⟨rfl, oa⟩
    go_wp2_with fail
    go_ret
    exact ⟨rfl, F4.out.trans oa (fun _ _ h => h)⟩
  have d1 : decide ((60000 : Int) < (xs.length : Int)) = false := decide_eq_false (by omega)
  have HRec : Hid (Rec xs) := ⟨by omega, HXL.out⟩
  have HE0 : Hid (tkE (frm xs) = 0 ∧ tkN (frm xs) = xs.length + 8) := by
    have h1 := tkE_frm HRec.out []
    have h3 := tkN_frm HRec.out []
    rw [List.append_nil] at h1 h3
    exact ⟨h1, h3⟩
  have HE2 : Hid (∀ j, j < xs.length + 8 → tkE ((frm xs).take j) = 2) := fun j hj => by
    have := tkE_short HRec.out [] hj
    rwa [List.append_nil] at this
  have HLT : Hid (∀ x ∈ frm xs, x < 256) := frm_lt HXL.out
  have HLN : Hid ((frm xs).length = xs.length + 8) := frm_len xs
  have P1 : Hid _ := put_any (Inp.nil _) I1 (by simp) (by omega)
  rw [List.nil_append] at P1
  have F1 : Hid _ := O1
  clear I1 O1
  go_enter Try.func5, Try.ntmps5
  go_wp2_with fail
  generalize w.alloc (.cells (madeB xs.length) 5) = v1 at *
  generalize w.heap.size = q1 at *
  refine Calls.mono P1.out ?_
  rintro e v2 ⟨t, c, rfl, R2, fr2, O2⟩
  have F2 : Hid _ := F1.out.trans O2 (fun _ _ h => h)
  clear P1 O2 F1 fr2
  cases sh
  · have T3 : Hid _ := takeF_any (R2.inp HLT.out) (by have := HLN.out; omega)
    rw [HE0.out.1, HE0.out.2] at T3
    have hln : (frm xs).length ≤ 70000 := by have := HLN.out; omega
    have e8 : ((xs.length + 8 : Nat) : Int) = (xs.length : Int) + 8 := by omega
    rw [e8] at T3
    clear R2 HE0 HE2 HLT HLN e8
    generalize frm xs = ys at *
    go_wp2_with fail
    refine Calls.mono T3.out ?_
    rintro e v4 ⟨t4, c4, rfl, -, -, O4⟩
    have F4 : Hid _ := F2.out.trans O4 (fun _ _ h => h)
    clear O4 T3
    go_wp2_with fail
    refine (awake_any _).mono ?_
    rintro e va ⟨rfl, oa⟩
    go_wp2_with fail
    go_ret
    exact ⟨rfl, F4.out.trans oa (fun _ _ h => h)⟩
  · obtain ⟨s2, R3⟩ := R2.take (k := xs.length + 7) (by have := HLN.out; omega)
    obtain ⟨K, hK⟩ : ∃ K, K = xs.length + 7 := ⟨_, rfl⟩
    have TT := HE2.out (xs.length + 7) (by omega)
    have L3 : ((frm xs).take (xs.length + 7)).length = xs.length + 7 := by rw [List.length_take, HLN.out]; omega
    have T3 : Hid _ := takeF_any (R3.inp (fun x hx => HLT.out x (List.mem_of_mem_take hx))) (by rw [L3]; omega)
    obtain ⟨n1, n2⟩ := tkR_no (l := (frm xs).take (xs.length + 7)) (by rw [TT]; decide)
    rw [TT, n1, n2, L3, ← hK] at T3
    rw [← hK] at s2
    have mxx : ∀ (ts : Array TypeId) (ty : TypeId) (W : World), (Builtin.max_ ts ty #[.int .i64 0, .int .i64 (((frm xs).length : Int) - 1)]).run Try.prog W = .ok (.int .i64 (K : Int)) W := fun ts ty W => by
      rw [run_max_int2, HLN.out, hK]
      congr 2
      omega
    have hln : (frm xs).length ≤ 70000 := by have := HLN.out; omega
    have hK2 : K ≤ 70000 := by omega
    clear R2 R3 HE0 HE2 HLT HLN n1 n2 TT L3 hK
    generalize frm xs = ys at *
    go_wp2_with fail
    refine Calls.mono T3.out ?_
    rintro e v4 ⟨t4, c4, rfl, -, -, O4⟩
    have F4 : Hid _ := F2.out.trans O4 (fun _ _ h => h)
    clear O4 T3
    go_wp2_with fail
    refine (awake_any _).mono ?_
    rintro e va ⟨rfl, oa⟩
    go_wp2_with fail
    go_ret
    exact ⟨rfl, F4.out.trans oa (fun _ _ h => h)⟩
end Go.Proofs.Ytjhhplagnnkpeaa
