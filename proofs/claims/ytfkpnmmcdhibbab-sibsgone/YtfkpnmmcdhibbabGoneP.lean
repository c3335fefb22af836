/- What stands in neither, what was replaced or reaped: as data. -/
import Derived.Test.YtfkpnmmcdhibbabSideP
import Derived.Test.YtfkpnmmcdhibbabOrdQ
import Derived.Test.YtfkpnmmcdhibbabLgt
namespace Go.Proofs.Ytfkpnmmcdhibbab

theorem join_dots {f g : Nat → Int} {l k : List A} (h1 : MayP f l) (h2 : MayP g k) {z : A} (hz : z ∈ joinL f g l k) : (∃ x ∈ l, EQ x z) ∨ ∃ x ∈ k, EQ x z := by
  simp only [joinL, may_yes h1, may_yes h2, and_self, if_true] at hz
  have hm := (mem_merge _ _ _ _ (may_srt h1) (may_srt h2) z).1 (List.mem_of_mem_take hz)
  rcases hm with ⟨x, hx, y, hy, e, he⟩ | ⟨hz, -, -⟩ | ⟨hz, -, -⟩
  · by_cases hb : firstB x.dead y.dead x.data y.data = true
    · have : z = x := by rw [he]; simp [firstA, hb]
      exact .inl ⟨x, hx, by rw [this]; exact ⟨rfl, rfl⟩⟩
    · have : z = y := by rw [he]; simp [firstA, hb]
      exact .inr ⟨y, hy, by rw [this]; exact ⟨rfl, rfl⟩⟩
  · exact .inl ⟨z, hz, rfl, rfl⟩
  · exact .inr ⟨z, hz, rfl, rfl⟩
theorem gone_put {f g : Nat → Int} {l : List A} {node : Int} (h1 : MayP f l) (hg : ∀ j, j < 8 → f j ≤ g j) (h : putE f g l node [] true = 0) :
    ∃ x : A, x.dead = true ∧ putL f g l node [] true = [x] ∧ MayP (putV f g l node [] true) [x] ∧ (∀ j, j < 8 → f j ≤ putV f g l node [] true j) ∧ coversB f x.node x.num = false := by
  have hE := h
  have hok : okData ([] : List Nat).length true = true := by simp [okData]
  cases hb : mayB g
  · simp [putE, may_yes h1, hb] at h
  have hs : ∀ j, j < 8 → 0 ≤ g j ∧ g j ≤ 1099511627776 := by simpa only [mayB, decide_eq_true_eq] using hb
  rcases hx : nextV (maxV f g) node with ⟨n, N, er⟩
  by_cases her : er = 0
  · subst her
    have ha := put_all (data := []) (dead := true) h1 (fun x hx => cov_mono hg (h1.cov x hx).1) hx
    have hr : putR f g l node [] true = [⟨n, N, [], true⟩] := by
      simp only [putR, putN, hx]
      exact ha
    have hm := may_put (p := nc g) (q := nc (maxV f g)) (dead := true) h1 hs hx hok (by rw [ha]; simp)
    rw [ha] at hm
    have hv : putV f g l node [] true = withV (maxV f g) n N := by simp only [putV, hE, if_true, hx]
    refine ⟨⟨n, N, [], true⟩, rfl, by simp [putL, hE, hr], by rw [hv]; exact hm, fun j hj => ?_, ?_⟩
    · rw [hv]
      have := with_le (f := maxV f g) (n := n) (N := N) j hj
      have h3 : f j ≤ maxV f g j := by simp only [maxV]; omega
      omega
    · have hnew := not_cov_next hx
      cases hc : coversB f n N
      · rfl
      · have : coversB (maxV f g) n N = true := cov_max.2 (.inl hc)
        rw [hnew] at this
        cases this
  · exfalso
    simp [putE, may_yes h1, hb, hx, her, okData] at h
theorem gone_back {f u : Nat → Int} {l : List A} {x : A} (h1 : MayP f l) (hu : MayP u [x]) (hd : x.dead = true) (hle : ∀ j, j < 8 → f j ≤ u j) : joinL (reapV u [x]) f (reapL u [x]) l = [] := by
  have e1 : reapV u [x] = u := by simp [reapV, may_yes hu]
  have e2 : reapL u [x] = [] := by simp [reapL, anyA, hd]
  rw [e1, e2]
  simp only [joinL, may_yes (may_none hu.seen), may_yes h1, and_self, if_true]
  rw [mergeA_nil _ _ _ _ (.inl rfl)]
  have : l.filter (nc u) = [] := by
    rw [List.filter_eq_nil_iff]
    intro y hy hn
    rw [nc_iff] at hn
    exact hn (cov_mono hle (h1.cov y hy).1)
  rw [this]
  rfl
theorem gone_live {f u : Nat → Int} {l : List A} {x : A} (h1 : MayP f l) (hu : MayP u [x]) (hd : x.dead = true) (hle : ∀ j, j < 8 → f j ≤ u j) (hn : coversB f x.node x.num = false) : liveA (joinL u f [x] l) = [] := by
  have hs : Srt [x] := by simp [Srt]
  have key : ∀ z ∈ joinL u f [x] l, z.dead = true := fun z hz => by
    simp only [joinL, may_yes hu, may_yes h1, and_self, if_true] at hz
    rcases (mem_merge _ _ _ _ hs (may_srt h1) z).1 (List.mem_of_mem_take hz) with ⟨x', hx, y, hy, e, -⟩ | ⟨hz, -, -⟩ | ⟨hz, hq, -⟩
    · simp only [List.mem_singleton] at hx
      subst hx
      have := cov_dot e.symm (h1.cov y hy).1
      rw [hn] at this
      cases this
    · simp only [List.mem_singleton] at hz
      subst hz
      exact hd
    · rw [nc_iff] at hq
      exact (hq (cov_mono hle (h1.cov z hz).1)).elim
  simp only [liveA, List.map_eq_nil_iff, List.filter_eq_nil_iff]
  intro z hz
  simp [key z hz]
/-- A value of this dot stands there. -/
def InL (l : List V) (v : V) : Prop := ∃ (m : Nat) (x : V), l[m]? = some x ∧ x.node = v.node ∧ x.num = v.num
theorem inL_of {l : List V} {v : V} (h : ∃ x ∈ cont l, EQ x v.abs) : InL l v := by
  obtain ⟨x, hx, he⟩ := h
  simp only [cont, List.mem_map] at hx
  obtain ⟨y, hy, rfl⟩ := hx
  obtain ⟨i, hi⟩ := List.getElem?_of_mem hy
  exact ⟨i, y, hi, he.1, he.2⟩
theorem in_join {f g : Nat → Int} {l k lj : List V} (h1 : MayP f (cont l)) (h2 : MayP g (cont k)) (h : cont lj = joinL f g (cont l) (cont k)) : ∀ v ∈ lj, InL l v ∨ InL k v := fun v hv => by
  have : v.abs ∈ cont lj := List.mem_map.2 ⟨v, hv, rfl⟩
  rw [h] at this
  rcases join_dots h1 h2 this with h | h
  · exact .inl (inL_of h)
  · exact .inr (inL_of h)
theorem ninth {f : Nat → Int} {s u : Value} {j : Nat} (h : (#[.int .i64 (f 0), .int .i64 (f 1), .int .i64 (f 2), .int .i64 (f 3), .int .i64 (f 4), .int .i64 (f 5), .int .i64 (f 6), .int .i64 (f 7), s] : Array Value)[j]? = some u) : j < 9 := by
  obtain ⟨h, -⟩ := Array.getElem?_eq_some_iff.1 h
  exact h
set_option maxRecDepth 100000 in
theorem sl2 {w : World} {B : Nat} {t : TypeId} {f g : Nat → Int} {a b : Option Addr} {ca cb : Nat} {l k : List V} (hc : Cel B t #[.int .i64 (f 0), .int .i64 (f 1), .int .i64 (f 2), .int .i64 (f 3), .int .i64 (f 4), .int .i64 (f 5), .int .i64 (f 6), .int .i64 (f 7), .slice a l.length ca, .int .i64 (g 0), .int .i64 (g 1), .int .i64 (g 2), .int .i64 (g 3), .int .i64 (g 4), .int .i64 (g 5), .int .i64 (g 6), .int .i64 (g 7), .slice b k.length cb] w) (ra : Row w a ca l) (rb : Row w b cb k) : Sl w B [⟨f, a, ca, l⟩, ⟨g, b, cb, k⟩] := by
  refine ⟨fun i u hi j s hs => ?_, fun u hu => ?_⟩
  · have hj := ninth hs
    match i, hi with
    | 0, hi =>
      simp only [List.getElem?_cons_zero, Option.some.injEq] at hi
      subst hi
      rw [hc.cell]
      obtain rfl | rfl | rfl | rfl | rfl | rfl | rfl | rfl | rfl : j = 0 ∨ j = 1 ∨ j = 2 ∨ j = 3 ∨ j = 4 ∨ j = 5 ∨ j = 6 ∨ j = 7 ∨ j = 8 := by omega
      all_goals exact hs
    | 1, hi =>
      simp only [List.getElem?_cons_succ, List.getElem?_cons_zero, Option.some.injEq] at hi
      subst hi
      rw [hc.cell]
      obtain rfl | rfl | rfl | rfl | rfl | rfl | rfl | rfl | rfl : j = 0 ∨ j = 1 ∨ j = 2 ∨ j = 3 ∨ j = 4 ∨ j = 5 ∨ j = 6 ∨ j = 7 ∨ j = 8 := by omega
      all_goals exact hs
    | i + 2, hi => simp at hi
  · simp only [List.mem_cons, List.not_mem_nil, or_false] at hu
    rcases hu with rfl | rfl
    · exact ra
    · exact rb
end Go.Proofs.Ytfkpnmmcdhibbab
