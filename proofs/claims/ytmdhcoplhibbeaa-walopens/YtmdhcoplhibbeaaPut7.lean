/- frame.Put. -/
import Derived.Test.YtmdhcoplhibbeaaTbl
namespace Go.Proofs.Ytmdhcoplhibbeaa
open Go.RowKit

theorem putLong_any (ta : Option Addr) (ca la : Nat) {w : World} (tr : Option Addr) (cr : Nat) (rs : List Nat) (hl : 60000 < rs.length) :
    Calls Try.prog 34 #[.slice ta la ca, .slice tr rs.length cr] w fun e w' => e = .returned (.tuple #[.slice none 0 0, .int .i64 4]) ∧ w' = w := by
  have d1 : decide ((60000 : Int) < (rs.length : Int)) = true := decide_eq_true (by omega)
  go_enter Try.func34, Try.ntmps34
  go_wp2_with fail
  go_ret2
  exact ⟨rfl, rfl⟩

set_option maxRecDepth 100000 in
set_option maxHeartbeats 1000000 in
theorem put_any {w : World} {ta : Option Addr} {ca : Nat} {bs : List Nat} (hb : Inp w ta ca bs) {tr : Option Addr} {cr : Nat} {rs : List Nat} (hr : Inp w tr cr rs) (hbl : bs.length ≤ 140737488351232) (hl : rs.length ≤ 60000) :
    Calls Try.prog 34 #[.slice ta bs.length ca, .slice tr rs.length cr] w fun e w' => ∃ t c, e = .returned (.tuple #[.slice t (bs ++ frm rs).length c, .int .i64 0]) ∧ OwnR w' t c (bs ++ frm rs) ∧ (∀ k, blk t = some k → w.heap.size ≤ k) ∧ Off (fun _ => False) w w' := by
  obtain ⟨i0, hi, hz0, hz1, hz2⟩ := info_parts Try.infoB
  have d1 : decide ((60000 : Int) < (rs.length : Int)) = false := decide_eq_false (by omega)
  have HB : Hid _ := hb
  have HR : Hid _ := hr
  have hcl : crcL rs < 4294967296 := crcL_lt hr.lt
  have HCL : Hid _ := hcl
  obtain ⟨N, hN⟩ : ∃ N, N = bs.length + 8 + rs.length := ⟨_, rfl⟩
  have HN : Hid _ := hN
  clear hb hr hcl hN
  go_enter Try.func34, Try.ntmps34
  go_wp2_with (first | (at_make; refine wpList_make_own _ rfl _ _ 23 rfl 0 5 i0 (.int .u8 0) 1 Try.underlying23 hi hz0 hz1 _ _ _ N rfl rfl (by have := HN.out; omega) (by have := HN.out; rw [hz2]; omega) (by have := HN.out; unfold maxLen; omega) (Nat.zero_le _) ?_; intro w1 hown hgrow; have R1 : OwnR w1 (some ⟨w.heap.size, 0, none⟩) N [] := ⟨hown⟩; have O1 : Off (fun _ => False) w w1 := ((Off.refl _ w).grown hgrow (by simp))) | (at_builtin; refine wpList_fit rfl (.tmp 17) (.tmp 18) rfl w.heap.size N [] rfl R1 ta ca bs rfl (HB.out.free O1).src (by have := HN.out; simp; omega) ?_; intro w2 y2 hy2 R2 O2; clear R1 hown hgrow))
  have hN := HN.out
  have hy2' : y2 = bs := by have := hy2.out; simpa using this
  have HY2 : Hid (y2 = bs) := hy2'
  have l2 : y2.length + 8 + rs.length ≤ N := by rw [hy2']; omega
  clear hy2 hy2' hN
  refine (addNumber_any R2 (by omega) (n := rs.length) (by omega)).mono ?_
  rintro e w3 ⟨rfl, R3, O3⟩
  generalize hy3 : y2 ++ be4 rs.length = y3 at R3 ⊢
  have l3 : y3.length + 4 + rs.length ≤ N := by rw [← hy3, List.length_append, be4_len]; omega
  have HY3 : Hid _ := hy3
  clear hy3 R2
  have O13 : Off (fun c => c = w.heap.size) w w3 := ((O1.mono (fun _ _ h => h.elim)).trans O2 (fun _ _ h => h)).trans O3 (fun _ _ h => h)
  have F3 : Off (fun _ => False) w w3 := O13.mono (fun i hi h => by omega)
  clear O1 O2 O3 O13 l2
  go_wp2_with fail
  refine (poly_tbl w3).mono ?_
  rintro e w4 ⟨rfl, T4, O4⟩
  have F4 : Off (fun _ => False) w w4 := F3.trans O4 (fun _ _ h => h)
  have s3 : w.heap.size < w3.heap.size := R3.lt _ rfl
  have R4 := R3.off O4 (fun _ _ _ h => h)
  clear O4 R3
  go_wp2_with fail
  refine (sum_tbl T4 (HR.out.free F4) (fun _ => ?_) (by omega)).mono ?_
  · rcases HR.out.old with h | h
    · exact .inr h
    · exact .inl (fun e => by have := h _ e; omega)
  rintro e w5 ⟨rfl, E5, T5, hE5, O5⟩
  have R5 := R4.off O5 (fun c hc e h => by simp [blk] at e; omega)
  have F5 : Off (fun _ => False) w w5 := ((F4.mono (fun _ _ h => h.elim)).trans O5 (fun _ _ h => h)).mono (fun i hi h => by omega)
  clear T4 O5 R4 T5 hE5
  go_wp2_with fail
  refine (addNumber_any R5 (by omega) (n := crcL rs) HCL.out).mono ?_
  rintro e w6 ⟨rfl, R6, O6⟩
  generalize hy6 : y3 ++ be4 (crcL rs) = y6 at R6 ⊢
  have l6 : y6.length + rs.length ≤ N := by rw [← hy6, List.length_append, be4_len]; omega
  have HY6 : Hid _ := hy6
  have F6 : Off (fun _ => False) w w6 := ((F5.mono (fun _ _ h => h.elim)).trans O6 (fun _ _ h => h)).mono (fun i hi h => by omega)
  clear hy6 R5 O6
  go_wp2_with (at_builtin; refine wpList_fit rfl (.tmp 30) (.tmp 31) rfl w.heap.size N y6 rfl R6 tr cr rs rfl (HR.out.free F6).src (by omega) ?_; intro w7 y7 hy7 R7 O7)
  go_ret2
  have e7 : y7 = bs ++ frm rs := by rw [hy7.out, ← HY6.out, ← HY3.out, HY2.out, frm]; simp
  rw [← e7]
  exact ⟨_, _, rfl, R7, fun k hk => by simp [blk] at hk; omega, ((F6.mono (fun _ _ h => h.elim)).trans O7 (fun _ _ h => h)).mono (fun i hi h => by omega)⟩
end Go.Proofs.Ytmdhcoplhibbeaa
