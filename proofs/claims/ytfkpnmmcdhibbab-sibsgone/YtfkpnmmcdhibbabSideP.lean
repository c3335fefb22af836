/- What one who has seen all puts, and what two put side by side: as data. -/
import Derived.Test.YtfkpnmmcdhibbabLivesP
namespace Go.Proofs.Ytfkpnmmcdhibbab

theorem max_self (f : Nat → Int) : maxV f f = f := by funext j; simp [maxV]
/-- Put by one who has seen all that stands. -/
theorem put_all {f g : Nat → Int} {l : List A} {node n N : Int} {data : List Nat} {dead : Bool} (h1 : MayP f l) (hg : ∀ x ∈ l, coversB g x.node x.num = true) (h4 : nextV (maxV f g) node = (n, N, 0)) :
    mergeA (nc g) (nc (maxV f g)) l [⟨n, N, data, dead⟩] = [⟨n, N, data, dead⟩] := by
  have hnew := not_cov_next h4
  have hs : Srt [(⟨n, N, data, dead⟩ : A)] := by simp [Srt]
  have hne : ∀ x ∈ l, ¬ EQ x (⟨n, N, data, dead⟩ : A) := fun x hx e => by
    have := cov_dot e (cov_max.2 (.inl (h1.cov x hx).1) : coversB (maxV f g) x.node x.num = true)
    simp only [hnew] at this
    cases this
  refine srt_ext (srt_merge _ _ _ _ (may_srt h1) hs) hs (fun z => ?_)
  rw [mem_merge _ _ _ _ (may_srt h1) hs]
  constructor
  · rintro (⟨x, hx, y, hy, e, -⟩ | ⟨hz, hp, -⟩ | ⟨hz, -, -⟩)
    · simp only [List.mem_singleton] at hy
      subst hy
      exact (hne x hx e).elim
    · rw [nc_iff] at hp
      exact (hp (hg z hz)).elim
    · exact hz
  · intro hz
    simp only [List.mem_singleton] at hz
    subst hz
    exact .inr (.inr ⟨by simp, by simp [nc, hnew], hne⟩)
theorem put_seen {f : Nat → Int} {l : List A} {i : Nat} {data : List Nat} (h1 : MayP f l) (hi : i < 8) (hs : f i < 1099511627776) (hd : data.length ≤ 200) :
    putE f f l (i : Int) data false = 0 ∧ putL f f l (i : Int) data false = [⟨(i : Int), f i + 1, data, false⟩] ∧ putV f f l (i : Int) data false = withV f (i : Int) (f i + 1) ∧ MayP (withV f (i : Int) (f i + 1)) [⟨(i : Int), f i + 1, data, false⟩] := by
  have hn : nodeB (i : Int) = true := by simp only [nodeB, decide_eq_true_eq]; omega
  have hx : nextV (maxV f f) (i : Int) = ((i : Int), f i + 1, 0) := by
    rw [max_self]
    have : ¬ 1099511627776 ≤ f i := by omega
    simp [nextV, hn, this]
  have ha := put_all (data := data) (dead := false) h1 (fun x hx => (h1.cov x hx).1) hx
  have hok : okData data.length false = true := by simp [okData, hd]
  have hb : mayB f = true := by simp only [mayB, decide_eq_true_eq]; exact h1.seen
  have hr : putR f f l (i : Int) data false = [⟨(i : Int), f i + 1, data, false⟩] := by
    simp only [putR, putN, hx]
    exact ha
  have he : putE f f l (i : Int) data false = 0 := by simp [putE, may_yes h1, hb, hok, hx, hr]
  have hm := may_put (p := nc f) (q := nc (maxV f f)) (dead := false) h1 h1.seen hx hok (by rw [ha]; simp)
  rw [ha, max_self] at hm
  exact ⟨he, by simp [putL, he, hr], by simp only [putV, he, if_true, hx]; rw [max_self], hm⟩
theorem with_at {f : Nat → Int} {i : Nat} (hi : i < 8) (N : Int) (j : Nat) : withV f (i : Int) N j = if j = i then max (f i) N else f j := by
  have hn : nodeB (i : Int) = true := by simp only [nodeB, decide_eq_true_eq]; omega
  rw [with_apply hn]
  simp
/-- Two put side by side, joined. -/
theorem side_join {f : Nat → Int} {i j : Nat} {x y : List Nat} (hi : i < 4) (hj : 4 ≤ j ∧ j < 8) (m1 : MayP (withV f (i : Int) (f i + 1)) [⟨(i : Int), f i + 1, x, false⟩]) (m2 : MayP (withV f (j : Int) (f j + 1)) [⟨(j : Int), f j + 1, y, false⟩]) :
    joinL (withV f (i : Int) (f i + 1)) (withV f (j : Int) (f j + 1)) [⟨(i : Int), f i + 1, x, false⟩] [⟨(j : Int), f j + 1, y, false⟩] = [⟨(i : Int), f i + 1, x, false⟩, ⟨(j : Int), f j + 1, y, false⟩] ∧
    joinV (withV f (i : Int) (f i + 1)) (withV f (j : Int) (f j + 1)) [⟨(i : Int), f i + 1, x, false⟩] [⟨(j : Int), f j + 1, y, false⟩] = maxV (withV f (i : Int) (f i + 1)) (withV f (j : Int) (f j + 1)) := by
  refine ⟨?_, by simp [joinV, may_yes m1, may_yes m2]⟩
  simp only [joinL, may_yes m1, may_yes m2, and_self, if_true]
  have hl : lessA (⟨(i : Int), f i + 1, x, false⟩ : A) ⟨(j : Int), f j + 1, y, false⟩ = true := less_iff.2 (.inl (by simp only; omega))
  have c1 : nc (withV f (j : Int) (f j + 1)) (⟨(i : Int), f i + 1, x, false⟩ : A) = true := by
    rw [nc_iff, cov_iff]
    simp only [Int.toNat_natCast, with_at hj.2]
    rw [if_neg (by omega)]
    omega
  have c2 : nc (withV f (i : Int) (f i + 1)) (⟨(j : Int), f j + 1, y, false⟩ : A) = true := by
    rw [nc_iff, cov_iff]
    simp only [Int.toNat_natCast, with_at (show i < 8 by omega)]
    rw [if_neg (by omega)]
    omega
  rw [mergeA_lt _ _ _ _ hl, mergeA_nil _ _ _ _ (.inl rfl)]
  simp [keep, c1, c2]
theorem side_val {f : Nat → Int} {i j : Nat} (hi : i < 4) (hj : 4 ≤ j ∧ j < 8) : maxV (withV f (i : Int) (f i + 1)) (withV f (j : Int) (f j + 1)) i = f i + 1 := by
  simp only [maxV, with_at (show i < 8 by omega), with_at hj.2]
  rw [if_neg (show ¬ i = j by omega)]
  simp
  omega
/-- What is put by one who has seen all, joined with what was there: it alone stands. -/
theorem over_join {f : Nat → Int} {l : List A} {i : Nat} {z : List Nat} (hi : i < 8) (h : MayP f l) (m : MayP (withV f (i : Int) (f i + 1)) [⟨(i : Int), f i + 1, z, false⟩]) :
    joinL (withV f (i : Int) (f i + 1)) f [⟨(i : Int), f i + 1, z, false⟩] l = [⟨(i : Int), f i + 1, z, false⟩] := by
  have hn : nodeB (i : Int) = true := by simp only [nodeB, decide_eq_true_eq]; omega
  have hs : Srt [(⟨(i : Int), f i + 1, z, false⟩ : A)] := by simp [Srt]
  have hnew : coversB f (i : Int) (f i + 1) = false := by
    simp only [coversB, decide_eq_false_iff_not, Int.toNat_natCast]
    omega
  have hne : ∀ x ∈ l, ¬ EQ (⟨(i : Int), f i + 1, z, false⟩ : A) x := fun x hx e => by
    have := cov_dot e.symm (h.cov x hx).1
    simp only [hnew] at this
    cases this
  have e : mergeA (nc f) (nc (withV f (i : Int) (f i + 1))) [(⟨(i : Int), f i + 1, z, false⟩ : A)] l = [⟨(i : Int), f i + 1, z, false⟩] := by
    refine srt_ext (srt_merge _ _ _ _ hs (may_srt h)) hs (fun y => ?_)
    rw [mem_merge _ _ _ _ hs (may_srt h)]
    constructor
    · rintro (⟨x, hx, y', hy, e, -⟩ | ⟨hz, -, -⟩ | ⟨hz, hq, -⟩)
      · simp only [List.mem_singleton] at hx
        subst hx
        exact (hne y' hy e).elim
      · exact hz
      · rw [nc_iff] at hq
        exact (hq (cov_mono with_le (h.cov y hz).1)).elim
    · intro hz
      simp only [List.mem_singleton] at hz
      subst hz
      exact .inr (.inl ⟨by simp, by simp [nc, hnew], hne⟩)
  simp only [joinL, may_yes m, may_yes h, and_self, if_true]
  rw [e]
  rfl
end Go.Proofs.Ytfkpnmmcdhibbab
