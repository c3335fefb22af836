/- How far the next point of a node is; the order of nodes is that of these ways. -/
import Derived.Test.YtpiknkgnmjcjjaaWho14
namespace Go.Proofs.Ytpiknkgnmjcjjaa
set_option maxRecDepth 100000
open Go.RowKit

/-- The way from a place to a point. -/
def dst (M a : Nat) : Nat := (a + 4294967296 - M) % 4294967296
theorem dst_lt (M a : Nat) : dst M a < 4294967296 := Nat.mod_lt _ (by decide)
theorem dst_ge {M a : Nat} (h : M ≤ a) (ha : a < 4294967296) : dst M a = a - M := by unfold dst; omega
theorem dst_below {M a : Nat} (h : a < M) (hM : M < 4294967296) : dst M a = a + 4294967296 - M := by unfold dst; omega
theorem dst_wrap {M a : Nat} (ha : a < 4294967296) (hM : M < 4294967296) : IntKind.u32.wrap ((a : Int) - (M : Int)) = (dst M a : Int) := by
  rw [IntKind.wrap_u32]
  unfold dst
  omega
theorem xor_lt {a b : Nat} (ha : a < 4294967296) (hb : b < 4294967296) : a ^^^ b < 4294967296 := Nat.xor_lt_two_pow (n := 32) ha hb
theorem mixL_lt (l : List Nat) : mixL l < 4294967296 := by
  unfold mixL mixend
  exact xor_lt (Nat.mod_lt _ (by decide)) (Nat.lt_of_le_of_lt (Nat.div_le_self _ _) (Nat.mod_lt _ (by decide)))
/-- The way to the next of a node's first j points. -/
def frP (M y : Nat) : Nat → Nat
  | 0 => 4294967295
  | j + 1 => min (frP M y j) (dst M (pt y j).1)
theorem fr_lt (M y j : Nat) : frP M y j < 4294967296 := by
  cases j with
  | zero => simp [frP]
  | succ j => simp only [frP]; have := dst_lt M (pt y j).1; omega
theorem fr_le (M y : Nat) {j k : Nat} (h : k < j) : frP M y j ≤ dst M (pt y k).1 := by
  induction j with
  | zero => omega
  | succ j ih =>
    simp only [frP]
    rcases Nat.lt_or_ge k j with h1 | h1
    · have := ih h1
      omega
    · obtain rfl : k = j := by omega
      omega
theorem fr_ge (M y : Nat) {B : Nat} (hB : B < 4294967296) : ∀ j, (∀ k, k < j → B ≤ dst M (pt y k).1) → B ≤ frP M y j
  | 0, _ => by simp only [frP]; omega
  | j + 1, h => by
    have h1 := fr_ge M y hB j (fun k hk => h k (by omega))
    have h2 := h j (by omega)
    simp only [frP]
    omega
/-- The row of points as it is gone through from a place on. -/
def rotP (M : Nat) (l : List Pn) : List Pn := l.filter (fun p => decide (M ≤ p.1)) ++ l.filter (fun p => !decide (M ≤ p.1))
theorem ord_rot (M : Nat) (l : List Pn) : ordP M l = addN [] (rotP M l) := (addN_app [] _ _).symm
theorem rot_mem (M : Nat) (l : List Pn) (x : Pn) : x ∈ rotP M l ↔ x ∈ l := by
  unfold rotP
  rw [List.mem_append, List.mem_filter, List.mem_filter]
  constructor
  · rintro (h | h)
    · exact h.1
    · exact h.1
  · intro h
    by_cases hm : M ≤ x.1
    · exact .inl ⟨h, by simpa using hm⟩
    · exact .inr ⟨h, by simpa using hm⟩
theorem rot_ord {M : Nat} {l : List Pn} (hl : Sp l) (hM : M < 4294967296) (hb : ∀ x ∈ l, x.1 < 4294967296) : (rotP M l).Pairwise fun x y => dst M x.1 ≤ dst M y.1 := by
  have hle : l.Pairwise fun x y => x.1 ≤ y.1 := hl.imp (fun {a b} h => by rw [ltP_iff] at h; omega)
  unfold rotP
  refine List.pairwise_append.2 ⟨?_, ?_, fun x hx y hy => ?_⟩
  · refine (List.Pairwise.and_mem.1 (hle.filter _)).imp (fun {a b} h => ?_)
    obtain ⟨ha, hb', hab⟩ := h
    rw [List.mem_filter] at ha hb'
    have h1 : M ≤ a.1 := by simpa using ha.2
    have h2 : M ≤ b.1 := by simpa using hb'.2
    rw [dst_ge h1 (hb a ha.1), dst_ge h2 (hb b hb'.1)]
    omega
  · refine (List.Pairwise.and_mem.1 (hle.filter _)).imp (fun {a b} h => ?_)
    obtain ⟨ha, hb', hab⟩ := h
    rw [List.mem_filter] at ha hb'
    have h1 : a.1 < M := by simpa using ha.2
    have h2 : b.1 < M := by simpa using hb'.2
    rw [dst_below h1 hM, dst_below h2 hM]
    omega
  · rw [List.mem_filter] at hx hy
    have h1 : M ≤ x.1 := by simpa using hx.2
    have h2 : y.1 < M := by simpa using hy.2
    have h3 := hb x hx.1
    rw [dst_ge h1 h3, dst_below h2 hM]
    omega
theorem pt_node (a b : Nat) : (pt a b).2.1 = a := rfl
/-- Nodes in the order of their ways. -/
theorem add_far {n : Nat} (d : Pn → Nat) (F : Nat → Nat) (f1 : ∀ a b, b < 4 → F a ≤ d (pt a b)) (f2 : ∀ a q, (∀ k, k < 4 → d q ≤ d (pt a k)) → d q ≤ F a) (post : List Pn) : ∀ (pre : List Pn) (o : List Nat), (pre ++ post).Pairwise (fun x y => d x ≤ d y) → (∀ a b, a < n → b < 4 → pt a b ∈ pre ++ post) → (∀ x ∈ pre ++ post, ∃ b, b < 4 ∧ x = pt x.2.1 b ∧ x.2.1 < n) →
    (∀ a, a ∈ o ↔ ∃ p ∈ pre, p.2.1 = a) → o.Pairwise (fun a b => F a ≤ F b) → (addN o post).Pairwise (fun a b => F a ≤ F b) := by
  induction post with
  | nil => intro pre o _ _ _ _ h; exact h
  | cons p post ih =>
    intro pre o hs hall hpt ho h
    have e : pre ++ p :: post = (pre ++ [p]) ++ post := by simp
    have hp := hpt p (by simp)
    have hq2 : ∀ q ∈ pre, F q.2.1 ≤ d q := fun q hq => by
      obtain ⟨b, hb, e1, -⟩ := hpt q (by simp [hq])
      have := f1 q.2.1 b hb
      rw [← e1] at this
      exact this
    have hq3 : ∀ q ∈ pre, p.2.1 ∉ o → d q ≤ F p.2.1 := fun q hq hn => by
      refine f2 _ q (fun k hk => ?_)
      obtain ⟨b, hb, e1, hl⟩ := hp
      have hm : pt p.2.1 k ∈ pre ++ p :: post := hall _ _ hl hk
      rcases List.mem_append.1 hm with hm | hm
      · exact absurd ((ho _).2 ⟨_, hm, pt_node _ _⟩) hn
      · exact (List.pairwise_append.1 hs).2.2 q hq _ hm
    have step : addN o (p :: post) = addN (addO o p.2.1) post := rfl
    rw [step]
    rw [e] at hs hall hpt
    refine ih (pre ++ [p]) (addO o p.2.1) hs hall hpt (fun a => ?_) ?_
    · rw [addO_mem, ho]
      constructor
      · rintro (⟨q, hq, e1⟩ | e1)
        · exact ⟨q, List.mem_append_left _ hq, e1⟩
        · exact ⟨p, List.mem_append_right _ (List.mem_singleton.2 rfl), e1.symm⟩
      · rintro ⟨q, hq, e1⟩
        rcases List.mem_append.1 hq with hq | hq
        · exact .inl ⟨q, hq, e1⟩
        · rw [List.mem_singleton.1 hq] at e1
          exact .inr e1.symm
    · unfold addO
      split
      · exact h
      · rename_i hn
        refine List.pairwise_append.2 ⟨h, List.pairwise_singleton _ _, fun a ha b hb => ?_⟩
        rw [List.mem_singleton.1 hb]
        obtain ⟨q, hq, e1⟩ := (ho a).1 ha
        rw [← e1]
        exact Nat.le_trans (hq2 q hq) (hq3 q hq hn)
theorem ord_far (M n : Nat) (hM : M < 4294967296) : (ordP M (ptsP n)).Pairwise (fun a b => frP M a 4 ≤ frP M b 4) := by
  have hpt : ∀ x ∈ ptsP n, x.1 < 4294967296 := fun x hx => by
    obtain ⟨a, b, rfl, -⟩ := (pts_mem n x).1 hx
    exact mixL_lt _
  rw [ord_rot]
  refine add_far (n := n) (fun p => dst M p.1) (fun a => frP M a 4) (fun a b hb => fr_le M a hb) (fun a q h => fr_ge M a (dst_lt _ _) 4 h) (rotP M (ptsP n)) [] [] (rot_ord (pts_sp n) hM hpt) (fun a b ha hb => ?_) (fun x hx => ?_) (by simp) List.Pairwise.nil
  · rw [List.nil_append, rot_mem]
    exact (pts_mem n _).2 ⟨a, b, rfl, ha, hb⟩
  · rw [List.nil_append, rot_mem] at hx
    obtain ⟨a, b, e, ha, hb⟩ := (pts_mem n x).1 hx
    have e2 : x.2.1 = a := by rw [e, pt_node]
    rw [e2]
    exact ⟨b, hb, e, ha⟩
theorem min_u32 (x y : Int) (ts : Array TypeId) (t : TypeId) (W : World) : (Builtin.min_ ts t #[.int .u32 x, .int .u32 y]).run Try.prog W = .ok (.int .u32 (min x y)) W := by
  rw [run_min_int2]
  congr 2
  split <;> omega
theorem far_any (q M y : Nat) (hy : y < 256) (hM : M < 4294967296) (w : World) (h : Cel q 40 #[.int .u32 (M : Nat)] w) :
    Calls Try.prog 20 #[.int .i64 (y : Int), .pointer (some ⟨q, 0, none⟩)] w fun e w' => e = .returned (.int .u32 (frP M y 4 : Nat)) ∧ Off (fun _ => False) w w' := by
  have HH : Hid _ := h
  clear h
  go_enter Try.func20, Try.ntmps20
  go_wp2_with fail
  go_loopw [4, 6] (fun b z wr => ∃ j : Nat, b = .int .u32 (frP M y j : Nat) ∧ z = .int .i64 (j : Int) ∧ j ≤ 4 ∧ Off (fun _ => False) w wr) (fun _ z _ => (4 - intOf z).toNat)
  case atStart => exact ⟨0, rfl, rfl, by omega, Off.refl _ _⟩
  case round =>
    obtain ⟨j, rfl, rfl, hj, o⟩ := hrel
    have HO : Hid _ := o
    clear o
    by_cases hlt : j < 4
    · have HC : Hid _ := HH.out.off HO.out (fun h => h)
      have HP : Hid (∀ W, Calls Try.prog 21 #[.int .i64 (y : Int), .int .i64 (j : Int)] W fun e w' => e = .returned (.int .u32 ((pt y j).1 : Nat)) ∧ Off (fun _ => False) W w') := fun W => rpoint_any (y : Int) (j : Int) y j hy (by omega) (wrap_small y hy) (wrap_small j (by omega)) W
      have hdw := dst_wrap (M := M) (mixL_lt [110, y, 112, j]) hM
      have HST : Hid (frP M y (j + 1) = min (frP M y j) (dst M (pt y j).1)) := rfl
      have hmn := min_u32 (frP M y j : Int) (dst M (pt y j).1 : Int)
      have hE : (mixL [110, y, 112, j]) = (pt y j).1 := rfl
      have hg := fr_lt M y (j + 1)
      have hmi : min (frP M y j : Int) (dst M (pt y j).1 : Int) = (frP M y (j + 1) : Int) := by rw [HST.out]; omega
      rw [hmi] at hmn
      rw [hE] at hdw
      clear hE hmi HST
      have hf := fr_lt M y j
      have hd := dst_lt M (pt y j).1
      have hp := mixL_lt [110, y, 112, j]
      have HE9 : Hid (mixL [110, y, 112, j] = (pt y j).1) := rfl
      rw [HE9.out] at hp
      clear HE9
      generalize hG : frP M y (j + 1) = G at hmn hg
      have HG : Hid (frP M y (j + 1) = G) := hG
      clear hG
      generalize frP M y j = F at hmn hf ⊢
      generalize dst M (pt y j).1 = d at hmn hdw hd
      generalize (pt y j).1 = P at HP hdw hp
      go_upto_region 5 with fail
      refine wp_region_held_drew (S := Off (fun _ => False) wr) (by kernel_rfl) ((Off.refl _ wr).drew) (fun hS => ?_)
      refine take_at (i := 0) 9 (v := .int .u32 (F : Nat)) rfl rfl (by kernel_rfl) (by kernel_rfl) (by kernel_rfl) (fun _ _ _ h => h) (Or.inl ⟨by rfl, fun w' hw' => by go_simp⟩) hS ?_
      simp only [Act.put, List.setIfInBounds_toArray, List.set_cons_zero, List.set_cons_succ]
      refine take_at (i := 1) 10 (v := .int .i64 (y : Int)) rfl rfl (by kernel_rfl) (by kernel_rfl) (by kernel_rfl) (fun _ _ _ h => h) (Or.inl ⟨by rfl, fun w' hw' => by go_simp⟩) hS ?_
      simp only [Act.put, List.setIfInBounds_toArray, List.set_cons_zero, List.set_cons_succ]
      refine take_at (i := 2) 11 (v := .int .i64 (j : Int)) rfl rfl (by kernel_rfl) (by kernel_rfl) (by kernel_rfl) (fun _ _ _ h => h) (Or.inl ⟨by rfl, fun w' hw' => by go_simp⟩) hS ?_
      simp only [Act.put, List.setIfInBounds_toArray, List.set_cons_zero, List.set_cons_succ]
      refine take_at (i := 4) 13 (v := .int .u32 (M : Nat)) rfl rfl (by kernel_rfl) (by kernel_rfl) (by kernel_rfl) (fun _ _ _ h => h) (Or.inl ⟨by rfl, fun w' hw' => by have x0 := (HC.out.off hw' (fun h => h)).cell 0; simp only [List.getElem?_toArray, List.getElem?_cons_zero] at x0; go_simp⟩) hS ?_
      simp only [Act.put, List.setIfInBounds_toArray, List.set_cons_zero, List.set_cons_succ]
      refine wpAnyH_ready (rs := [3]) (by kernel_rfl) (by simp) ?_
      refine AllReadyH.cons rfl (fun K' hK' => ?_) AllReadyH.nil
      go_simp
      refine (HP.out _).mono ?_
      rintro e v ⟨rfl, o1⟩
      have hS1 := hS.trans o1 (fun _ _ h => h)
      refine hK'.out _ _ hS1 (fun hS => ?_)
      clear hK' K' hS1 o1
      refine take_at (i := 5) 14 (v := .int .u32 (d : Nat)) rfl rfl (by kernel_rfl) (by kernel_rfl) (by kernel_rfl) (fun _ _ _ h => h) (Or.inl ⟨by rfl, fun w' hw' => by go_simp⟩) hS ?_
      simp only [Act.put, List.setIfInBounds_toArray, List.set_cons_zero, List.set_cons_succ]
      refine wpAnyH_ready (rs := [6]) (by kernel_rfl) (by simp) ?_
      refine AllReadyH.cons rfl (fun K' hK' => ?_) AllReadyH.nil
      go_simp
      refine hK'.out _ _ hS (fun hS => ?_)
      clear hK' K'
      refine take_at (i := 7) 4 (v := .int .u32 (G : Nat)) rfl rfl (by kernel_rfl) (by kernel_rfl) (by kernel_rfl) (fun _ _ _ h => h) (Or.inl ⟨by rfl, fun w' hw' => by go_simp⟩) hS ?_
      simp only [Act.put, List.setIfInBounds_toArray, List.set_cons_zero, List.set_cons_succ]
      refine wpAnyH_done (by kernel_rfl) ?_ _
      go_wp2_with fail
      go_roundw
      case rel => exact ⟨j + 1, by rw [HG.out], by go_num, by omega, HO.out.trans hS (fun _ _ h => h)⟩
      case measure => simp [intOf]; omega
    · obtain rfl : j = 4 := by omega
      go_wp2
      go_ret
      exact ⟨rfl, HO.out⟩
end Go.Proofs.Ytpiknkgnmjcjjaa
