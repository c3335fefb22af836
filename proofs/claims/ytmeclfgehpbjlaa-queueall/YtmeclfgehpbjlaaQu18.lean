/- The walks of QueueUrgent and QueueMany. -/
import Derived.Test.YtmeclfgehpbjlaaArg18
namespace Go.Proofs.Ytmeclfgehpbjlaa
set_option maxRecDepth 100000
open Go.RowKit

theorem mem_ins {b k : Int} {x : Int × Int} : ∀ {l : List (Int × Int)}, x ∈ insQ b k l → x = (k, b) ∨ x ∈ l
  | [], h => .inl (List.mem_singleton.1 h)
  | y :: l, h => by
    unfold insQ at h
    split at h
    · rcases List.mem_cons.1 h with h | h
      · exact .inr (List.mem_cons.2 (.inl h))
      · rcases mem_ins h with h | h
        · exact .inl h
        · exact .inr (List.mem_cons.2 (.inr h))
    · exact List.mem_cons.1 h
/-- Rising by base: the last has the greatest. -/
theorem QuN.last {W : World} {p : Nat} {l : List (Int × Int)} {k b : Int} {most r t : Int} {w : World} (h : QuN W p (l ++ [(k, b)]) most r t w) : ∀ x ∈ l, x.2 ≤ b := by
  obtain ⟨D, hq, -⟩ := h.is
  have hs := hq.q.sor
  unfold Srd its at hs
  rw [List.map_append, List.pairwise_append] at hs
  exact fun x hx => hs.2.2 _ (List.mem_map.2 ⟨x, hx, rfl⟩) _ (List.mem_singleton.2 rfl)
theorem snoc_of {l : List (Int × Int)} (h : 0 < l.length) : ∃ (l' : List (Int × Int)) (k b : Int), l = l' ++ [(k, b)] ∧ l'.length + 1 = l.length := by
  have hn : l ≠ [] := fun e => by rw [e] at h; simp at h
  refine ⟨l.dropLast, (l.getLast hn).1, (l.getLast hn).2, (List.dropLast_concat_getLast hn).symm, ?_⟩
  rw [List.length_dropLast]
  omega

set_option maxHeartbeats 4000000 in
theorem urgent_walk (a : Option Addr) (len cap : Nat) (B : Nat → Int) (w : World) (hb : Inz w a len cap B) :
    Calls Try.prog 7 #[.slice a len cap] w fun e w' => e = .returned (.bool true) ∧ Off (fun _ => False) w w' := by
  have HB : Hid (∀ i, i < len → ∃ b off, a = some ⟨b, off, none⟩ ∧ w.cell? ⟨b, off + i, none⟩ = some (.int .i64 (B i))) := hb.at_
  have hlen : len ≤ 9223372036854775807 := hb.hlen
  clear hb
  have HN : Hid _ := nnew_any 100 w
  rw [show clq 100 = 100 by decide] at HN
  go_enter Try.func7, Try.ntmps7
  go_wp2_with fail
  refine Calls.mono HN.out ?_
  rintro e w1 ⟨p, rfl, h1⟩
  have H1 : Hid _ := h1
  clear h1 HN
  go_wp2_with fail
  go_loopw [4, 13] (fun s4 s13 wr => ∃ (n i : Nat) (l : List (Int × Int)), s4 = .int .i64 (n : Int) ∧ s13 = .int .i64 (i : Int) ∧ i ≤ len ∧ n ≤ i ∧ n ≤ 80 ∧ Hid (l.length = n) ∧ Hid (∀ x ∈ l, x.2 = 4 * x.1 ∧ 0 ≤ x.1 ∧ x.1 ≤ 3) ∧ Hid (QuN w p l 100 0 0 wr)) (fun _ i _ => ((len : Int) - intOf i).toNat)
  case atStart => exact ⟨0, 0, [], rfl, rfl, by omega, by omega, by omega, rfl, fun x hx => (by cases hx), H1.out⟩
  case round =>
    obtain ⟨n, i, l, rfl, rfl, hi, hn, hn8, HL, HP, HQ⟩ := hrel
    clear H1
    by_cases hlt : i < len
    · obtain ⟨g, off, rfl, c0⟩ := HB.out i hlt
      replace c0 := qn_cell HQ.out c0
      by_cases h80 : i < 80
      · have hmn := min_int (B i) 3
        have hmx := max_int 0 (min (B i) 3)
        have hk : wgt (B i) = 4 * max 0 (min (B i) 3) ∧ 0 ≤ max 0 (min (B i) 3) ∧ max 0 (min (B i) 3) ≤ 3 := by unfold wgt; omega
        have HK : Hid _ := hk
        clear hk
        generalize hkk : max 0 (min (B i) 3) = k at hmx HK
        generalize min (B i) 3 = k0 at hmn hmx hkk
        clear hkk
        go_wp2_with fail
        refine (msg_any k _).mono ?_
        rintro e w2 ⟨rfl, o2⟩
        have HQ2 : Hid _ := HQ.out.keep o2
        clear o2 HQ c0
        go_wp2_with fail
        refine (nput_yes HQ2.out k (B i) (by have := HL.out; omega) (by decide)).mono ?_
        rintro e w3 ⟨rfl, h3⟩
        have H3 : Hid _ := h3
        clear h3 HQ2
        go_wp2_with fail
        go_roundw
        case rel =>
          refine ⟨n + 1, i + 1, _, by go_num, by go_num, by omega, by omega, by omega, ?_, ?_, H3.out⟩
          · show _ = _
            rw [ins_len, HL.out]
          · intro x hx
            rcases mem_ins hx with rfl | h
            · have := HK.out
              show wgt (B i) - 0 = 4 * k ∧ 0 ≤ k ∧ k ≤ 3
              omega
            · exact HP.out x h
        case measure => simp [intOf]; omega
      · go_wp2_with fail
        go_roundw
        case rel => exact ⟨n, i + 1, l, rfl, by go_num, by omega, by omega, by omega, HL.out, HP.out, HQ.out⟩
        case measure => simp [intOf]; omega
    · go_wp2_with fail
      clear hlt hn hi
      go_loopw [34, 7] (fun s34 s7 wr => ∃ (j : Nat) (was : Int) (l : List (Int × Int)), s34 = .int .i64 (j : Int) ∧ s7 = .int .i64 was ∧ j ≤ n ∧ Hid (j + l.length = n) ∧ Hid (∀ x ∈ l, x.2 = 4 * x.1 ∧ x.1 ≤ was) ∧ Hid (QuN w p l 100 0 0 wr)) (fun s _ _ => ((n : Int) - intOf s).toNat)
      case atStart => exact ⟨0, 3, l, rfl, rfl, by omega, (by have := HL.out; show _ = _; omega), fun x hx => ⟨(HP.out x hx).1, (HP.out x hx).2.2⟩, HQ.out⟩
      case round =>
        obtain ⟨j, was, l, rfl, rfl, hj, HL, HP, HQ⟩ := hrel
        by_cases hjn : j < n
        · obtain ⟨l', k, b, rfl, hl'⟩ := snoc_of (l := l) (by have := HL.out; omega)
          have hk := HP.out (k, b) (List.mem_append.2 (.inr (List.mem_singleton.2 rfl)))
          have hkw : ¬ was < k := by have : k ≤ was := hk.2; omega
          have HB4 : Hid (b = 4 * k) := hk.1
          have HL' : Hid (j + 1 + l'.length = n) := by have := HL.out; show _ = _; omega
          clear hl' hk
          go_wp2_with fail
          refine (ntake_some HQ.out).mono ?_
          rintro e w4 ⟨rfl, h4⟩
          have H4 : Hid (QuN w p l' 100 0 0 w4) := h4
          have HLT : Hid (∀ x ∈ l', x.2 ≤ b) := HQ.out.last
          clear h4 HQ
          go_upto_region 13 with fail
          have O7 : Off (fun _ => False) w4 (w4.alloc (.cells #[.int .i64 (mm k).k, .int .i64 (mm k).fr, .int .i64 (mm k).tn, .int .i64 (mm k).op, .int .i64 (mm k).fo, .string (mm k).key, .int .i64 (mm k).bk, .slice (mm k).ea (mm k).el (mm k).ec, .slice (mm k).da (mm k).dl (mm k).dc, .slice (mm k).ma (mm k).ml (mm k).mc] 31)) := (Off.refl _ w4).alloc _
          have C7 : Cel w4.heap.size 31 #[.int .i64 (mm k).k, .int .i64 (mm k).fr, .int .i64 (mm k).tn, .int .i64 (mm k).op, .int .i64 (mm k).fo, .string (mm k).key, .int .i64 (mm k).bk, .slice (mm k).ea (mm k).el (mm k).ec, .slice (mm k).da (mm k).dl (mm k).dc, .slice (mm k).ma (mm k).ml (mm k).mc] (w4.alloc (.cells #[.int .i64 (mm k).k, .int .i64 (mm k).fr, .int .i64 (mm k).tn, .int .i64 (mm k).op, .int .i64 (mm k).fo, .string (mm k).key, .int .i64 (mm k).bk, .slice (mm k).ea (mm k).el (mm k).ec, .slice (mm k).da (mm k).dl (mm k).dc, .slice (mm k).ma (mm k).ml (mm k).mc] 31)) := Cel.new w4 _ _
          generalize hv : w4.alloc (.cells #[.int .i64 (mm k).k, .int .i64 (mm k).fr, .int .i64 (mm k).tn, .int .i64 (mm k).op, .int .i64 (mm k).fo, .string (mm k).key, .int .i64 (mm k).bk, .slice (mm k).ea (mm k).el (mm k).ec, .slice (mm k).da (mm k).dl (mm k).dc, .slice (mm k).ma (mm k).ml (mm k).mc] 31) = w7 at O7 C7 ⊢
          have c3 : w7.cell? ⟨w4.heap.size, 3, none⟩ = some (.int .i64 k) := C7.cell 3
          have H7 : Hid _ := H4.out.keep O7
          generalize w4.heap.size = q at c3 ⊢
          clear hv O7 C7 H4
          go_wp2_with fail
          go_roundw
          case rel =>
            refine ⟨j + 1, k, l', by go_num, rfl, by omega, HL'.out, fun x hx => ?_, H7.out⟩
            have h1 := HP.out x (List.mem_append.2 (.inl hx))
            have h2 := HLT.out x hx
            have h3 := HB4.out
            exact ⟨h1.1, by omega⟩
          case measure => simp [intOf]; omega
        · obtain rfl : l = [] := List.eq_nil_of_length_eq_zero (by have := HL.out; omega)
          go_wp2_with fail
          refine (nlen_any HQ.out).mono ?_
          rintro e w8 ⟨rfl, hw⟩
          rw [hw]
          clear hw w8
          have dl : ((([] : List (Int × Int)).length : Int) == 0) = true := by decide
          go_wp2_with fail
          refine (awake_any _).mono ?_
          rintro e w3 ⟨rfl, o3⟩
          have HO : Hid _ := HQ.out.off.trans o3 (fun _ _ h => h)
          clear o3
          go_wp2_with fail
          go_ret
          exact ⟨rfl, HO.out⟩

set_option maxHeartbeats 4000000 in
theorem many_walk (q0 q1 : Int) (w : World) (_ : -9223372036854775808 ≤ q0 ∧ q0 ≤ 9223372036854775807) (_ : -9223372036854775808 ≤ q1 ∧ q1 ≤ 9223372036854775807) :
    Calls Try.prog 4 #[.int .i64 q0, .int .i64 q1] w fun e w' => e = .returned (.bool true) ∧ Off (fun _ => False) w w' := by
  have HN : Hid _ := nnew_any q0 w
  obtain ⟨N, ek, hN⟩ := rem_any q1 1010 (by omega)
  have hmn := min_int q0 1000
  have hmx := max_int 0 (min q0 1000)
  have hr : max 0 (min q0 1000) = clq q0 := by unfold clq; omega
  have hr2 : 0 ≤ clq q0 ∧ clq q0 ≤ 1000 := by unfold clq; omega
  rw [hr] at hmx
  clear hr
  obtain ⟨R, hR⟩ : ∃ R : Nat, clq q0 = (R : Int) := Int.eq_ofNat_of_zero_le hr2.1
  rw [hR] at HN hmx hr2
  obtain ⟨-, hR1⟩ := hr2
  generalize min q0 1000 = mn at hmn hmx
  clear hR
  go_enter Try.func4, Try.ntmps4
  go_wp2_with fail
  refine Calls.mono HN.out ?_
  rintro e w1 ⟨p, rfl, h1⟩
  have H1 : Hid _ := h1
  clear h1 HN
  go_wp2_with fail
  go_loopw [19] (fun s19 wr => ∃ (i : Nat) (l : List (Int × Int)), s19 = .int .i64 (i : Int) ∧ i ≤ N ∧ Hid (l.length = min i R) ∧ Hid (QuN w p l (R : Int) ((i - R : Nat) : Int) 0 wr)) (fun i _ => ((N : Int) - intOf i).toNat)
  case atStart => exact ⟨0, [], rfl, by omega, (by show _ = _; simp), (by rw [Nat.zero_sub]; exact H1.out)⟩
  case round =>
    obtain ⟨i, l, rfl, hi, HL, HQ⟩ := hrel
    clear H1
    by_cases hlt : i < N
    · by_cases hroom : i < R
      · go_wp2_with fail
        refine (msg_any (i : Int) _).mono ?_
        rintro e w2 ⟨rfl, o2⟩
        have HQ2 : Hid _ := HQ.out.keep o2
        clear o2 HQ
        go_wp2_with fail
        refine (nput_yes HQ2.out (i : Int) _ (by have := HL.out; omega) (by decide)).mono ?_
        rintro e w3 ⟨rfl, h3⟩
        obtain ⟨l', hl', H3⟩ : ∃ l' : List (Int × Int), Hid (l'.length = l.length + 1) ∧ Hid (QuN w p l' (R : Int) ((i - R : Nat) : Int) 0 w3) := ⟨_, ins_len _ _ _, h3⟩
        clear h3 HQ2
        go_wp2_with fail
        go_roundw
        case rel =>
          refine ⟨i + 1, l', by go_num, by omega, ?_, ?_⟩
          · have := HL.out
            have := hl'.out
            show _ = _
            omega
          · rw [show i + 1 - R = i - R by omega]
            exact H3.out
        case measure => simp [intOf]; omega
      · go_wp2_with fail
        refine (msg_any (i : Int) _).mono ?_
        rintro e w2 ⟨rfl, o2⟩
        have HQ2 : Hid _ := HQ.out.keep o2
        clear o2 HQ
        go_wp2_with fail
        refine (nput_full HQ2.out (i : Int) _ (by have := HL.out; omega) (by omega)).mono ?_
        rintro e w3 ⟨rfl, h3⟩
        have H3 : Hid _ := h3
        clear h3 HQ2
        go_wp2_with fail
        go_roundw
        case rel =>
          refine ⟨i + 1, l, by go_num, by omega, ?_, ?_⟩
          · have := HL.out
            show _ = _
            omega
          · have e : ((i + 1 - R : Nat) : Int) = ((i - R : Nat) : Int) + 1 := by omega
            rw [e]
            exact H3.out
        case measure => simp [intOf]; omega
    · obtain rfl : i = N := by omega
      have hl := HL.out
      have h1 := min_int (i : Int) (R : Int)
      have h2 := max_int 0 ((i : Int) - (R : Int))
      have HL2 : Hid (min (i : Int) (R : Int) = (l.length : Int)) := by show _ = _; omega
      have e2 : max 0 ((i : Int) - (R : Int)) = ((i - R : Nat) : Int) := by omega
      rw [HL2.out] at h1
      rw [e2] at h2
      clear hl e2
      generalize hz : ((i - R : Nat) : Int) = z at *
      clear hz
      have HLL := nlen_any HQ.out
      have HLL : Hid _ := HLL
      generalize l.length = ll at HLL h1
      go_wp2_with fail
      refine Calls.mono HLL.out ?_
      rintro e w8 ⟨rfl, hw⟩
      rw [hw]
      clear hw w8
      go_wp2_with fail
      refine (nrefused_any HQ.out).mono ?_
      rintro e w8 ⟨rfl, hw⟩
      rw [hw]
      clear hw w8
      go_wp2_with fail
      refine (awake_any _).mono ?_
      rintro e w3 ⟨rfl, o3⟩
      have HO : Hid _ := HQ.out.off.trans o3 (fun _ _ h => h)
      clear o3
      go_wp2_with fail
      go_ret
      exact ⟨rfl, HO.out⟩
end Go.Proofs.Ytmeclfgehpbjlaa
