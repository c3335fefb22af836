/- The walk of FrameTells. -/
import Derived.Test.YtjhhplagnnkpeaaArg7
import Derived.Laws.BitsAllLaws
namespace Go.Proofs.Ytjhhplagnnkpeaa
open Go.RowKit

theorem vl_set (bs : List Nat) (i y : Nat) : vl (bs.set i y) = (vl bs).set i (.int .u8 (y : Int)) := by simp [vl, List.map_set]
/-- A byte of a row of the call's own is written over. -/
theorem OwnR.set {w : World} {g cap : Nat} {bs : List Nat} (h : OwnR w (some ⟨g, 0, none⟩) cap bs) (i y : Nat) : OwnR (w.setCell ⟨g, i, none⟩ (.int .u8 (y : Int))) (some ⟨g, 0, none⟩) cap (bs.set i y) := by
  have := (World.ownsRow.stored h.row i (.int .u8 (y : Int))).1
  refine ⟨?_⟩
  rw [List.length_set, vl_set]
  exact this
theorem OwnR.cellAt {w : World} {g cap : Nat} {bs : List Nat} (h : OwnR w (some ⟨g, 0, none⟩) cap bs) {i : Nat} (hi : i < bs.length) : w.cell? ⟨g, i, none⟩ = some (.int .u8 ((bs.getD i 0 : Nat) : Int)) ∧ w.frozen? ⟨g, i, none⟩ = false := by
  refine ⟨?_, World.ownsRow.frozenAt h.row i⟩
  rw [World.ownsRow.cellAt h.row i (by simpa using hi)]
  exact vl_get bs i hi
theorem u64_mod (p : Int) (k : Nat) (hk : 0 < k) : ∃ m : Nat, m < k ∧ (IntKind.u64.wrap p).tmod (k : Int) = (m : Int) := by
  have h0 : 0 ≤ IntKind.u64.wrap p := by rw [IntKind.wrap_u64]; omega
  obtain ⟨q, hq⟩ := Int.eq_ofNat_of_zero_le h0
  refine ⟨q % k, Nat.mod_lt _ hk, ?_⟩
  rw [hq, Int.tmod_eq_emod_of_nonneg (by omega)]
  rfl
theorem xor_ne {u x : Nat} (hu : u < 256) (hx : x < 256) (h0 : x ≠ 0) : ∃ y : Nat, bits .xor .u8 (u : Int) (x : Int) = (y : Int) ∧ y < 256 ∧ u ≠ y := by
  refine ⟨u ^^^ x, u8_xor_nat u x hu hx, Nat.xor_lt_two_pow (n := 8) hu hx, fun e => h0 ?_⟩
  have : u ^^^ u = u ^^^ (u ^^^ x) := congrArg (u ^^^ ·) e
  rw [Nat.xor_self, ← Nat.xor_assoc, Nat.xor_self, Nat.zero_xor] at this
  exact this.symm

set_option maxRecDepth 100000 in
set_option maxHeartbeats 1000000 in
theorem tells_walk (tr : Option Addr) (cr : Nat) (rs : List Nat) (p : Int) (x : Nat) (w : World) (hr : ArgB w tr rs.length cr rs) (_ : -9223372036854775808 ≤ p ∧ p ≤ 9223372036854775807) (hx : x < 256) :
    Calls Try.prog 7 #[.slice tr rs.length cr, .int .i64 p, .int .u8 (x : Int)] w fun e w' => e = .returned (.bool true) ∧ Off (fun _ => False) w w' := by
  have HIR : Hid _ := hr.inp
  have lr := hr.bound
  clear hr
  by_cases h5 : 500 < rs.length
  · have d1 : decide ((500 : Int) < (rs.length : Int)) = true := decide_eq_true (by omega)
    go_enter Try.func7, Try.ntmps7
    go_wp2_with fail
    refine (awake_any _).mono ?_
    rintro e va ⟨rfl, oa⟩
    go_wp2_with fail
    go_ret
    exact ⟨rfl, oa⟩
  have d1 : decide ((500 : Int) < (rs.length : Int)) = false := decide_eq_false (by omega)
  by_cases hx0 : x = 0
  · subst hx0
    go_enter Try.func7, Try.ntmps7
    go_wp2_with fail
    refine (awake_any _).mono ?_
    rintro e va ⟨rfl, oa⟩
    go_wp2_with fail
    go_ret
    exact ⟨rfl, oa⟩
  have d2 : ((x : Int) == 0) = false := by simp; omega
  have HRec : Hid (Rec rs) := ⟨by omega, HIR.out.lt⟩
  go_enter Try.func7, Try.ntmps7
  go_wp2_with fail
  refine (put_any (Inp.nil w) HIR.out (by simp) (by omega)).mono ?_
  rintro e v1 ⟨t, c, rfl, R1, fr1, O1⟩
  rw [List.nil_append] at R1 ⊢
  have HTL : Hid (∀ q y, 4 ≤ q → q < rs.length + 8 → y < 256 → (frm rs).getD q 0 ≠ y → tkE ((frm rs).set q y) = 3) := fun q y h4 hq hy hne => tkE_tells HRec.out h4 hq hy hne
  have HLT : Hid (∀ x ∈ frm rs, x < 256) := frm_lt HRec.out.lt
  have hl := frm_len rs
  generalize frm rs = ys at *
  obtain ⟨m, hm, em⟩ := u64_mod p (ys.length - 4) (by omega)
  have em2 : (IntKind.u64.wrap p).tmod ((ys.length : Int) - 4) = (m : Int) := by
    rw [← em]
    congr 1
    omega
  have l9 : ys.length ≤ 508 := by omega
  obtain ⟨q, hq⟩ : ∃ q, q = m + 4 := ⟨_, rfl⟩
  have hql : q < ys.length := by omega
  have HQ : Hid (4 ≤ q ∧ q < rs.length + 8) := by show 4 ≤ q ∧ q < rs.length + 8; omega
  have ew1 : wrap64 (m : Int) = (m : Int) := by simp only [wrap64]; omega
  have ew2 : wrap64 (4 + (m : Int)) = (q : Int) := by simp only [wrap64]; omega
  have d8 : decide ((ys.length : Int) < 8) = false := decide_eq_false (by omega)
  have l8 : 8 ≤ ys.length := by omega
  clear em hl hm hq
  obtain ⟨g, rfl⟩ : ∃ g, t = some ⟨g, 0, none⟩ := by
    rcases R1.shape with ⟨-, rfl, -⟩ | ⟨g, rfl, -⟩
    · simp at l8
    · exact ⟨g, rfl⟩
  obtain ⟨k1, k2⟩ := R1.cellAt hql
  have hu : ys.getD q 0 < 256 := getD_lt HLT.out _ hql
  obtain ⟨y, ey, hy, hne⟩ := xor_ne hu hx hx0
  have HT2 : Hid _ := HTL.out q y HQ.out.1 HQ.out.2 hy hne
  generalize ys.getD q 0 = u at *
  have R2 := R1.set q y
  have hg := fr1 g rfl
  have O2 : Off (fun _ => False) w (v1.setCell ⟨g, q, none⟩ (.int .u8 (y : Int))) := O1.setCell (.inr hg) _
  have lt2 : ∀ x ∈ ys.set q y, x < 256 := fun x hx => by
    rcases List.mem_or_eq_of_mem_set hx with h | rfl
    · exact HLT.out x h
    · exact hy
  have l2 : (ys.set q y).length = ys.length := List.length_set
  have TK : Hid _ := takeF_any (R2.inp lt2) (by rw [l2]; omega)
  rw [l2, HT2.out, (tkR_no (l := ys.set q y) (by rw [HT2.out]; decide)).1, (tkR_no (l := ys.set q y) (by rw [HT2.out]; decide)).2] at TK
  have HO2 : Hid _ := O2
  clear R2 R1 O1 O2 lt2 hne fr1 HTL HT2 l2 HQ HLT
  have i4 : (q : Int) < (ys.length : Int) := by omega
  go_wp2_with fail
  refine Calls.mono TK.out ?_
  rintro e v3 ⟨t3, c3, rfl, -, -, O3⟩
  have F3 : Hid _ := HO2.out.trans O3 (fun _ _ h => h)
  clear TK O3
  go_wp2_with fail
  refine (awake_any _).mono ?_
  rintro e va ⟨rfl, oa⟩
  go_wp2_with fail
  go_ret
  exact ⟨rfl, F3.out.trans oa (fun _ _ h => h)⟩
end Go.Proofs.Ytjhhplagnnkpeaa
