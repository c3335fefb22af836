/- The walk of BucketSlow. -/
import Derived.Test.YthmhkeiaodhefaaArg17
namespace Go.Proofs.Ythmhkeiaodhefaa
set_option maxRecDepth 100000
open Go.RowKit

/-- Of what there was in W none has turned, and the variable at block p holds the bucket at block b. -/
def Box (W : World) (p b : Nat) (w : World) : Prop := Sin W w ∧ Cel p 23 #[.pointer (some ⟨b, 0, none⟩)] w
theorem Bkt.box {W w w' : World} {p b : Nat} {r m n k : Int} (h : Bkt (Sin W) b r m n k w) (o : Off (fun _ => False) w w') (hp : w.heap.size ≤ p) (hc : Cel p 23 #[.pointer (some ⟨b, 0, none⟩)] w') : Bkt (Box W p b) b r m n k w' := by
  obtain ⟨⟨c, d, hb, hl, ht, bc, bd, cd, hx⟩, r0, r1, m1, h0⟩ := h
  have lc := hl.lt
  have ld := ht.lt
  exact ⟨⟨c, d, hb.off o (fun h => h), hl.off o (fun h => h), ht.off o (fun h => h), bc, bd, cd, fun u v hu ov => ⟨hx u v hu.1 ov, hu.2.off ov (fun e => by rcases e with e | e <;> omega)⟩⟩, r0, r1, m1,
    hx _ _ h0 (o.mono (fun _ _ h => h.elim)), hc⟩

set_option maxHeartbeats 1000000 in
/-- All that are there are taken. -/
theorem all_any {W : World} {p b : Nat} {r m n k : Int} {w : World} (h : Bkt (Box W p b) b r m n k w) (hm : m ≤ 30) (hk : k ≤ 1000) :
    Calls Try.prog 15 #[.pointer (some ⟨p, 0, none⟩)] w fun e w' => e = .returned (.int .i64 n) ∧ Bkt (Box W p b) b r m 0 (k + n) w' := by
  have l0 := h.low
  have HB : Hid _ := h
  clear h
  obtain ⟨z, rfl⟩ := Int.eq_ofNat_of_zero_le l0.1
  go_enter Try.func15, Try.ntmps15
  go_wp2_with fail
  go_loopw [2] (fun s2 wr => ∃ j : Nat, s2 = .int .i64 (j : Int) ∧ j ≤ z ∧ Bkt (Box W p b) b r m ((z : Int) - (j : Int)) (k + (j : Int)) wr) (fun i _ => ((z : Int) - intOf i).toNat)
  case atStart => exact ⟨0, rfl, by omega, by simpa using HB.out⟩
  case round =>
    obtain ⟨j, rfl, hj, h⟩ := hrel
    have HK : Hid _ := h
    clear h HB
    have c0 := HK.out.x.2.cell 0
    by_cases hlt : j < z
    · have HT : Hid _ := take_some HK.out (by omega) (by omega)
      go_wp2_with fail
      refine Calls.mono HT.out ?_
      rintro e w3 ⟨rfl, h3⟩
      have H3 : Hid _ := h3
      clear h3 HT c0
      go_wp2_with fail
      go_roundw
      case rel => exact ⟨j + 1, by go_num, by omega, by have := H3.out; rwa [show (z : Int) - ((j + 1 : Nat) : Int) = (z : Int) - (j : Int) - 1 by omega, show k + ((j + 1 : Nat) : Int) = k + (j : Int) + 1 by omega]⟩
      case measure => simp [intOf]; omega
    · obtain rfl : j = z := by omega
      rw [show (j : Int) - (j : Int) = 0 by omega] at HK
      have HT : Hid _ := take_none HK.out rfl
      go_wp2_with fail
      refine Calls.mono HT.out ?_
      rintro e w3 ⟨rfl, h3⟩
      have H3 : Hid _ := h3
      clear h3 HT c0
      go_wp2_with fail
      go_ret
      exact ⟨rfl, H3.out⟩

theorem few_mul {r t : Int} (h0 : 0 ≤ r) (h1 : r ≤ 30) (h2 : 0 ≤ t) (h3 : t ≤ 30) : 0 ≤ t * r ∧ t * r ≤ 900 := by
  constructor
  · exact Int.mul_nonneg h2 h0
  · have := Int.mul_le_mul h3 h1 h0 (by omega : (0 : Int) ≤ 30)
    omega

set_option maxHeartbeats 4000000 in
theorem slow_walk (q0 q1 q2 : Int) (w : World) (_ : -9223372036854775808 ≤ q0 ∧ q0 ≤ 9223372036854775807) (_ : -9223372036854775808 ≤ q1 ∧ q1 ≤ 9223372036854775807) (_ : -9223372036854775808 ≤ q2 ∧ q2 ≤ 9223372036854775807) :
    Calls Try.prog 7 #[.int .i64 q0, .int .i64 q1, .int .i64 q2] w fun e w' => e = .returned (.bool true) ∧ Off (fun _ => False) w w' := by
  obtain ⟨r, er, hr⟩ := rem_any q0 30 (by omega)
  obtain ⟨m, em, hm⟩ := rem_any q1 30 (by omega)
  obtain ⟨t, et, ht⟩ := rem_any q2 30 (by omega)
  have HN : Hid _ := bnew_any (r : Int) (m : Int) w
  rw [show cl (r : Int) = (r : Int) by unfold cl; omega, show cl (m : Int) = (m : Int) by unfold cl; omega] at HN
  obtain ⟨g, hg⟩ : ∃ g : Int, g = min (r : Int) (m : Int) := ⟨_, rfl⟩
  have hmn := min_int (r : Int) (m : Int)
  rw [← hg] at hmn
  have hmf : ∀ (fn : Fn) (first cap : Array Value) (w : World), (Instr.makeFunc fn first cap).run Try.prog w = .ok (.func fn first cap) w := fun _ _ _ _ => rfl
  go_enter Try.func7, Try.ntmps7
  go_wp2_with fail
  refine Calls.mono HN.out ?_
  rintro e w1 ⟨b, rfl, h1⟩
  have H1 : Hid _ := h1
  clear h1 HN
  go_upto_region 3 with fail
  generalize hW : w1.alloc (.cells #[.pointer (some ⟨b, 0, none⟩)] 23) = W2
  generalize hp : w1.heap.size = p
  have H2 : Hid (Bkt (Box w p b) b (r : Int) (m : Int) (m : Int) 0 W2) := by
    rw [← hW, ← hp]
    exact H1.out.box ((Off.refl _ w1).alloc _) (Nat.le_refl _) (Cel.new w1 _ _)
  clear hW hp H1
  have HA : Hid _ := all_any H2.out (by omega) (by omega)
  go_wp2_with fail
  refine Calls.mono HA.out ?_
  rintro e w3 ⟨rfl, h3⟩
  have H3 : Hid (Bkt (Box w p b) b (r : Int) (m : Int) 0 (m : Int) w3) := by
    rw [show (0 : Int) + (m : Int) = (m : Int) by omega] at h3
    exact h3
  clear h3 HA H2
  have hg0 : 0 ≤ g := by omega
  have hg1 : g ≤ 30 := by omega
  have HG : Hid (g = min (r : Int) (m : Int)) := hg
  clear hg
  go_wp2_with fail
  go_loopw [30] (fun s30 wr => ∃ (i : Nat) (k : Int), s30 = .int .i64 (i : Int) ∧ i ≤ t ∧ Hid (k = (m : Int) + (i : Int) * g) ∧ Bkt (Box w p b) b (r : Int) (m : Int) 0 k wr) (fun i _ => ((t : Int) - intOf i).toNat)
  case atStart => exact ⟨0, m, rfl, by omega, by show _ = _; simp, H3.out⟩
  case round =>
    obtain ⟨i, k, rfl, hi, hk, h⟩ := hrel
    have fm := few_mul (r := g) (t := (i : Int)) hg0 hg1 (by omega) (by omega)
    have hkm : k ≤ 1000 := by have := hk.out; omega
    have HK : Hid _ := h
    have c0 := h.x.2.cell 0
    clear h H3
    by_cases hlt : i < t
    · have HT : Hid _ := tick_any HK.out
      rw [show min (m : Int) (0 + (r : Int)) = g by have := HG.out; omega] at HT
      go_wp2_with fail
      refine Calls.mono HT.out ?_
      rintro e w4 ⟨rfl, h4⟩
      have HA : Hid _ := all_any h4 (by omega) (by omega)
      clear h4 HT c0
      go_wp2_with fail
      refine Calls.mono HA.out ?_
      rintro e w5 ⟨rfl, h5⟩
      have H5 : Hid _ := h5
      clear h5 HA
      go_wp2_with fail
      go_roundw
      case rel => exact ⟨i + 1, k + g, by go_num, by omega, by show _ = _; have h6 := hk.out; rw [show ((i + 1 : Nat) : Int) = (i : Int) + 1 by omega, Int.add_mul, Int.one_mul]; omega, H5.out⟩
      case measure => simp [intOf]; omega
    · obtain rfl : i = t := by omega
      have HT : Hid _ := taken_any HK.out
      rw [hk.out] at HT
      clear hk hkm
      go_wp2_with fail
      refine Calls.mono HT.out ?_
      rintro e w4 ⟨rfl, hw⟩
      rw [hw]
      clear hw w4
      go_wp2_with fail
      refine Calls.mono (awake_any _) ?_
      rintro e w4 ⟨rfl, o4⟩
      have HO : Hid _ := HK.out.x.1.trans o4 (fun _ _ h => h)
      clear o4
      go_wp2_with fail
      go_ret
      exact ⟨rfl, HO.out⟩
end Go.Proofs.Ythmhkeiaodhefaa
