/- The reference's MayKey, MayEntry, SameBytes, SameDots; MayEntry of sibs. -/
import Derived.Test.YtmeclfgehpbjlaaDot5
import Derived.Test.YtmeclfgehpbjlaaGMay
import Derived.Test.YtmeclfgehpbjlaaGSame
import Derived.Deep.Cut
namespace Go.Proofs.Ytmeclfgehpbjlaa
open Go.RowKit

def keyB (s : ByteArray) : Bool := decide (1 ≤ s.size) && decide (s.size ≤ 32)
theorem keep_cell5 {w w' : World} {b o : Nat} {v : Value} (hw : Off (fun _ => False) w w') (h : w.cell? ⟨b, o, none⟩ = some v) : w'.cell? ⟨b, o, none⟩ = some v := by
  rw [← h]
  exact World.cell?_of_block (a := ⟨b, o, none⟩) (hw.block b (cell_lt h) (fun h => h))

theorem str_eq {x y : B} (h : x.data = y.data) : strOf x.data = strOf y.data := by rw [h]
set_option maxRecDepth 100000 in
set_option maxHeartbeats 1000000 in
theorem samedots_any (ta tb : Option Addr) (ca cb : Nat) (xs ys : List (Int × Int)) (w : World) (h1 : OwnG 106 2 dcs w ta ca xs) (h2 : OwnG 106 2 dcs w tb cb ys) (he : xs = ys) (hl : xs.length ≤ 1000) :
    Calls Try.prog 48 #[.slice ta xs.length ca, .slice tb ys.length cb] w fun e w' => e = .returned (.bool true) ∧ Off (fun _ => False) w w' := by
  have hlen : ys.length = xs.length := by rw [he]
  have d0 : ((xs.length : Int) != (ys.length : Int)) = false := by rw [hlen]; simp
  have HLEN : Hid _ := hlen
  have H1 : Hid _ := h1
  have H2 : Hid _ := h2
  have HE : Hid _ := he
  clear h1 h2 he hlen
  go_enter Try.func48, Try.ntmps48
  go_wp2_with fail
  go_loopw [13] (fun y wr => ∃ i : Nat, y = .int .i64 (i : Int) ∧ i ≤ xs.length ∧ Off (fun _ => False) w wr) (fun y _ => (xs.length - intOf y).toNat)
  case atStart => exact ⟨0, rfl, by omega, Off.refl _ _⟩
  case round =>
    obtain ⟨i, rfl, hi, O⟩ := hrel
    have HO : Hid _ := O
    clear O
    by_cases hil : i < xs.length
    · have i1 : decide ((i : Int) < (xs.length : Int)) = true := decide_eq_true (by omega)
      have i2 : decide (i < xs.length) = true := decide_eq_true hil
      have hil2 : i < ys.length := by have := HLEN.out; omega
      have i3 : decide ((i : Int) < (ys.length : Int)) = true := decide_eq_true (by omega)
      have i4 : decide (i < ys.length) = true := decide_eq_true hil2
      have hyl : ys.length ≤ 1000 := by have := HLEN.out; omega
      obtain ⟨x, hx⟩ : ∃ x, xs[i]? = some x := ⟨_, List.getElem?_eq_getElem hil⟩
      obtain ⟨y, hy⟩ : ∃ y, ys[i]? = some y := ⟨_, List.getElem?_eq_getElem hil2⟩
      have hd : x = y := by
        have := congrArg (fun z => z[i]?) HE.out
        simpa [hx, hy] using this
      obtain ⟨ga, rfl, ka⟩ := H1.out.at_ dcs_len hx
      obtain ⟨gb, rfl, kb⟩ := H2.out.at_ dcs_len hy
      have ka0 := ka 0 _ rfl
      have ka1 := ka 1 _ rfl
      have kb0 := kb 0 _ rfl
      have kb1 := kb 1 _ rfl
      simp only [Nat.add_zero] at ka0 kb0
      have HKA : Hid _ := ka0
      have HKB : Hid _ := kb0
      have HLA : Hid _ := ka1
      have HLB : Hid _ := kb1
      subst hd
      clear ka kb ka0 kb0 ka1 kb1 hx hy
      go_upto_region 6 with fail
      refine wp_region_held_drew (S := fun w' => Off (fun _ => False) w w') (by kernel_rfl) HO.out.drew (fun hS => ?_)
      refine take_at (i := 0) 16 (v := .slice (some ⟨ga, 0, none⟩) xs.length ca) rfl rfl (by kernel_rfl) (by kernel_rfl) (by kernel_rfl) (fun _ _ _ h => h) (Or.inl ⟨by rfl, fun w' hw' => by go_simp⟩) hS ?_
      simp only [Act.put, List.setIfInBounds_toArray, List.set_cons_zero, List.set_cons_succ]
      refine take_at (i := 1) 17 (v := .int .i64 (i : Int)) rfl rfl (by kernel_rfl) (by kernel_rfl) (by kernel_rfl) (fun _ _ _ h => h) (Or.inl ⟨by rfl, fun w' hw' => by go_simp⟩) hS ?_
      simp only [Act.put, List.setIfInBounds_toArray, List.set_cons_zero, List.set_cons_succ]
      refine take_at (i := 2) 18 (v := .pointer (some ⟨ga, i * 2, none⟩)) rfl rfl (by kernel_rfl) (by kernel_rfl) (by kernel_rfl) (fun _ _ _ h => h) (Or.inl ⟨by rfl, fun w' hw' => by go_simp⟩) hS ?_
      simp only [Act.put, List.setIfInBounds_toArray, List.set_cons_zero, List.set_cons_succ]
      refine take_at (i := 3) 19 (v := .agg #[.int .i64 x.1, .int .i64 x.2]) rfl rfl (by kernel_rfl) (by kernel_rfl) (by kernel_rfl) (fun _ _ _ h => h) (Or.inl ⟨by rfl, fun w' hw' => by have e := keep_cell5 hw' HKA.out; have e2 := keep_cell5 hw' HLA.out; go_simp⟩) hS ?_
      simp only [Act.put, List.setIfInBounds_toArray, List.set_cons_zero, List.set_cons_succ]
      refine take_at (i := 4) 20 (v := .slice (some ⟨gb, 0, none⟩) ys.length cb) rfl rfl (by kernel_rfl) (by kernel_rfl) (by kernel_rfl) (fun _ _ _ h => h) (Or.inl ⟨by rfl, fun w' hw' => by go_simp⟩) hS ?_
      simp only [Act.put, List.setIfInBounds_toArray, List.set_cons_zero, List.set_cons_succ]
      refine take_at (i := 5) 21 (v := .int .i64 (i : Int)) rfl rfl (by kernel_rfl) (by kernel_rfl) (by kernel_rfl) (fun _ _ _ h => h) (Or.inl ⟨by rfl, fun w' hw' => by go_simp⟩) hS ?_
      simp only [Act.put, List.setIfInBounds_toArray, List.set_cons_zero, List.set_cons_succ]
      refine take_at (i := 6) 22 (v := .pointer (some ⟨gb, i * 2, none⟩)) rfl rfl (by kernel_rfl) (by kernel_rfl) (by kernel_rfl) (fun _ _ _ h => h) (Or.inl ⟨by rfl, fun w' hw' => by go_simp⟩) hS ?_
      simp only [Act.put, List.setIfInBounds_toArray, List.set_cons_zero, List.set_cons_succ]
      refine take_at (i := 7) 23 (v := .agg #[.int .i64 x.1, .int .i64 x.2]) rfl rfl (by kernel_rfl) (by kernel_rfl) (by kernel_rfl) (fun _ _ _ h => h) (Or.inl ⟨by rfl, fun w' hw' => by have e := keep_cell5 hw' HKB.out; have e2 := keep_cell5 hw' HLB.out; go_simp⟩) hS ?_
      simp only [Act.put, List.setIfInBounds_toArray, List.set_cons_zero, List.set_cons_succ]
      refine take_at (i := 8) 24 (v := .bool false) rfl rfl (by kernel_rfl) (by kernel_rfl) (by kernel_rfl) (fun _ _ _ h => h) (Or.inl ⟨by rfl, fun w' hw' => by have e := neq_dot5 x.1 x.2 x.1 x.2; simp at e; go_simp⟩) hS ?_
      simp only [Act.put, List.setIfInBounds_toArray, List.set_cons_zero, List.set_cons_succ]
      refine wpAnyH_done (by kernel_rfl) ?_ _
      go_wp2_with fail
      go_roundw
      case rel => exact ⟨i + 1, by go_num, by omega, hS⟩
      case measure => simp [intOf]; omega
    · have i1 : decide ((i : Int) < (xs.length : Int)) = false := decide_eq_false (by omega)
      have i2 : decide (i < xs.length) = false := decide_eq_false hil
      go_wp2_with fail
      go_ret
      exact ⟨rfl, HO.out⟩
end Go.Proofs.Ytmeclfgehpbjlaa
