/- What is written is read as it was; what is read, written again, is the same bytes: plain facts. -/
import Derived.Test.YtfkpnmmcdhibbabSRe
import Derived.Test.YtfkpnmmcdhibbabSWe
import Derived.Test.YtfkpnmmcdhibbabLessP
namespace Go.Proofs.Ytfkpnmmcdhibbab

/-! What is written, told as one row of bytes. -/
theorem put_put (most : Nat) (st : Option (List Nat)) (x y : List Nat) : putS most (putS most st x) y = putS most st (x ++ y) := by
  cases st with
  | none => rfl
  | some b =>
    simp only [putS]
    by_cases h : b.length + x.length ≤ most
    · rw [if_pos h]
      simp only [List.length_append, List.append_assoc, Nat.add_assoc]
    · rw [if_neg h]
      simp only [List.length_append]
      rw [if_neg (by omega)]
theorem put_none {most : Nat} {st : Option (List Nat)} (h : (st.getD []).length ≤ most) : putS most st [] = st := by
  cases st with
  | none => rfl
  | some b =>
    simp only [Option.getD_some] at h
    simp [putS, h]
def encV (f : Nat → Int) : Nat → List Nat
  | 0 => []
  | n + 1 => encV f n ++ numB (zig (f n))
def encA (x : A) : List Nat := numB (u64N x.node) ++ (numB (zig x.num) ++ ((if x.dead then 1 else 0) :: (numB x.data.length ++ x.data)))
def encL : List A → List Nat
  | [] => []
  | x :: l => encA x ++ encL l
def encE (t : List Nat) (f : Nat → Int) (l : List A) : List Nat := (numB t.length ++ t) ++ (encV f 8 ++ (numB l.length ++ encL l))
theorem wrV_enc {most : Nat} {st : Option (List Nat)} (h : (st.getD []).length ≤ most) (f : Nat → Int) : ∀ n, wrV most st f n = putS most st (encV f n)
  | 0 => (put_none h).symm
  | n + 1 => by
    show putS most (wrV most st f n) _ = _
    rw [wrV_enc h f n, put_put]
    rfl
theorem wrVal_enc (most : Nat) (st : Option (List Nat)) (x : A) : wrVal most st x = putS most st (encA x) := by
  unfold wrVal encA
  rw [put_put, put_put, put_put]
  simp only [List.cons_append, List.nil_append]
theorem wrL_enc {most : Nat} : ∀ {st : Option (List Nat)}, (st.getD []).length ≤ most → ∀ l, wrL most st l = putS most st (encL l)
  | _, h, [] => (put_none h).symm
  | st, h, x :: l => by
    have e : wrL most st (x :: l) = wrL most (wrVal most st x) l := rfl
    rw [e, wrL_enc (wrVal_le h x) l, wrVal_enc, put_put]
    rfl
theorem wrE_enc (most : Nat) (key : ByteArray) (f : Nat → Int) (l : List A) : wrE most (some []) key f l = putS most (some []) (encE (keyL key) f l) := by
  have h0 : (((some [] : Option (List Nat))).getD []).length ≤ most := by simp
  unfold wrE wrS
  rw [wrL_enc (put_le (wrV_le (put_le h0 _) f 8) _), wrV_enc (put_le h0 _), put_put, put_put, put_put]
  unfold encE
  simp only [List.append_assoc]
theorem wrE_fit {most : Nat} {key : ByteArray} {f : Nat → Int} {l : List A} (h : (encE (keyL key) f l).length ≤ most) : wrE most (some []) key f l = some (encE (keyL key) f l) := by
  rw [wrE_enc]
  simp [putS, h]
theorem wrE_cases (most : Nat) (key : ByteArray) (f : Nat → Int) (l : List A) : wrE most (some []) key f l = none ∨ wrE most (some []) key f l = some (encE (keyL key) f l) := by
  rw [wrE_enc]
  simp only [putS]
  split
  · right; rfl
  · left; rfl

/-! Reading it. -/
theorem bk_num {n : Nat} (h : n < 18446744073709551616) (l : List Nat) : numS (numB n ++ l, 0) = (n, (l, 0)) := by
  simp only [numS, ne_eq, not_true_eq_false, if_false]
  rw [rd_back l n 0 0 (by omega) (by omega) (by omega)]
  simp
theorem bk_int {i : Int} (h0 : -9223372036854775808 ≤ i) (h1 : i ≤ 9223372036854775807) (l : List Nat) : intS (numB (zig i) ++ l, 0) = (i, (l, 0)) := by
  simp only [intS]
  rw [bk_num (zig_lt h0 h1), unzig_zig]
theorem bk_count {n : Nat} (h : n < 18446744073709551616) (l : List Nat) {most : Nat} (hm : n ≤ most) : countS most (numB n ++ l, 0) = (n, (l, 0)) := by
  unfold countS
  rw [bk_num h, if_neg (by simp only; omega)]
theorem bk_over {n : Nat} (h : n < 18446744073709551616) (l : List Nat) {most : Nat} (hm : most < n) : countS most (numB n ++ l, 0) = (0, ([], 4)) := by
  unfold countS
  rw [bk_num h, if_pos (by simp only; omega)]
theorem bk_text (t l : List Nat) (h : t.length < 18446744073709551616) {most : Nat} (hm : t.length ≤ most) : textS most (numB t.length ++ (t ++ l), 0) = (t, (l, 0)) := by
  unfold textS
  rw [bk_count h _ hm]
  simp
theorem bk_long (t l : List Nat) (h : t.length < 18446744073709551616) {most : Nat} (hm : most < t.length) : textS most (numB t.length ++ (t ++ l), 0) = ([], ([], 4)) := by
  unfold textS
  rw [bk_over h _ hm]
  simp
theorem bk_flag (f : Bool) (l : List Nat) : flagS ((if f then 1 else 0) :: l, 0) = (f, (l, 0)) := by
  cases f <;> simp [flagS]
/-- Behind an error a reader stands still. -/
theorem er_num {s : RS} (h : s.2 ≠ 0) : numS s = (0, s) := by simp [numS, h]
theorem er_flag {s : RS} (h : s.2 ≠ 0) : flagS s = (false, s) := by simp [flagS, h]
theorem er_count {s : RS} (h : s.2 ≠ 0) (m : Nat) : countS m s = (0, s) := by
  unfold countS
  rw [er_num h, if_neg (by simp)]
theorem er_text {s : RS} (h : s.2 ≠ 0) (m : Nat) : textS m s = ([], s) := by
  unfold textS
  rw [er_count h, if_pos (by simpa using h)]
theorem er_int {s : RS} (h : s.2 ≠ 0) : (intS s).2 = s := by simp [intS, er_num h]
theorem er_val {s : RS} (h : s.2 ≠ 0) : valS s = s := by
  have e1 : (numS s).2 = s := by rw [er_num h]
  unfold valS
  rw [e1, er_int h, er_flag h, er_text h]
theorem er_st {s : RS} (h : s.2 ≠ 0) : ∀ n, rdSt s n = s
  | 0 => rfl
  | n + 1 => by show valS (rdSt s n) = s; rw [er_st h n, er_val h]
theorem er_vec {s : RS} (h : s.2 ≠ 0) : ∀ n, rdV s n = s
  | 0 => rfl
  | n + 1 => by show (intS (rdV s n)).2 = s; rw [er_vec h n, er_int h]
theorem er_sr {s : RS} (h : s.2 ≠ 0) : srS s = s := by
  have e : countS 16 (rdV s 8) = (0, s) := by rw [er_vec h 8, er_count h]
  unfold srS
  rw [e]
  simp only [rdSt]

theorem rdSt_in (s : RS) : ∀ n, rdSt s (n + 1) = rdSt (valS s) n
  | 0 => rfl
  | n + 1 => by show valS (rdSt s (n + 1)) = valS (rdSt (valS s) n); rw [rdSt_in s n]
theorem rdL_in (nd : Nat → Int) (s : RS) (n : Nat) : rdL nd (n + 1) s = rdA nd s :: rdL nd n (valS s) := by
  unfold rdL
  rw [List.range_succ_eq_map, List.map_cons, List.map_map]
  have e : List.map ((fun i => rdA nd (rdSt s i)) ∘ Nat.succ) (List.range n) = List.map (fun i => rdA nd (rdSt (valS s) i)) (List.range n) :=
    List.map_congr_left fun i _ => by
      simp only [Function.comp_apply, Nat.succ_eq_add_one]
      rw [rdSt_in]
  rw [e]
  simp only [rdSt]
/-- A value that lies in memory: its numbers are numbers. -/
structure Rng (x : A) : Prop where
  n0 : -9223372036854775808 ≤ x.node
  n1 : x.node ≤ 9223372036854775807
  m0 : -9223372036854775808 ≤ x.num
  m1 : x.num ≤ 9223372036854775807
  len : x.data.length ≤ 140737488351232
  lt : ∀ y ∈ x.data, y < 256
theorem Row.rng {w : World} {a : Option Addr} {c : Nat} {l : List V} (h : Row w a c l) : ∀ x ∈ cont l, Rng x := by
  intro x hx
  simp only [cont, List.mem_map] at hx
  obtain ⟨v, hv, rfl⟩ := hx
  have k := h.ok v hv
  exact ⟨k.n0, k.n1, k.m0, k.m1, k.len, k.lt⟩
theorem node_back {n : Int} (h0 : -9223372036854775808 ≤ n) (h1 : n ≤ 9223372036854775807) : nodeP (u64N n) = n := by
  unfold nodeP u64N RowKit.wrap64
  omega
theorem node_fwd {m : Nat} (h : m < 18446744073709551616) : u64N (nodeP m) = m := by
  unfold nodeP u64N RowKit.wrap64
  omega
theorem bk_val {x : A} (hx : Rng x) (h : x.data.length ≤ 200) (r : List Nat) : valS (encA x ++ r, 0) = (r, 0) ∧ rdA nodeP (encA x ++ r, 0) = x := by
  have e : encA x ++ r = numB (u64N x.node) ++ (numB (zig x.num) ++ ((if x.dead then 1 else 0) :: (numB x.data.length ++ (x.data ++ r)))) := by simp [encA, List.append_assoc]
  have t1 := bk_num (u64N_lt x.node) (numB (zig x.num) ++ ((if x.dead then 1 else 0) :: (numB x.data.length ++ (x.data ++ r))))
  have t2 := bk_int hx.m0 hx.m1 ((if x.dead then 1 else 0) :: (numB x.data.length ++ (x.data ++ r)))
  have t3 := bk_flag x.dead (numB x.data.length ++ (x.data ++ r))
  have t4 := bk_text x.data r (by omega) h
  rw [e]
  refine ⟨by unfold valS; rw [t1, t2, t3, t4], ?_⟩
  unfold rdA valN valI valG valT
  rw [t1, t2, t3, t4, node_back hx.n0 hx.n1]
theorem bk_valong {x : A} (hx : Rng x) (h : 200 < x.data.length) (r : List Nat) : valS (encA x ++ r, 0) = ([], 4) := by
  have e : encA x ++ r = numB (u64N x.node) ++ (numB (zig x.num) ++ ((if x.dead then 1 else 0) :: (numB x.data.length ++ (x.data ++ r)))) := by simp [encA, List.append_assoc]
  have t1 := bk_num (u64N_lt x.node) (numB (zig x.num) ++ ((if x.dead then 1 else 0) :: (numB x.data.length ++ (x.data ++ r))))
  have t2 := bk_int hx.m0 hx.m1 ((if x.dead then 1 else 0) :: (numB x.data.length ++ (x.data ++ r)))
  have t3 := bk_flag x.dead (numB x.data.length ++ (x.data ++ r))
  have t4 := bk_long x.data r (by have := hx.len; omega) h
  rw [e]
  unfold valS
  rw [t1, t2, t3, t4]
theorem bk_list : ∀ {l : List A}, (∀ x ∈ l, Rng x) → (∀ x ∈ l, x.data.length ≤ 200) → ∀ r, rdSt (encL l ++ r, 0) l.length = (r, 0) ∧ rdL nodeP l.length (encL l ++ r, 0) = l
  | [], _, _, r => ⟨rfl, rfl⟩
  | x :: l, h1, h2, r => by
    have e : encL (x :: l) ++ r = encA x ++ (encL l ++ r) := by simp [encL, List.append_assoc]
    obtain ⟨v1, v2⟩ := bk_val (h1 x (by simp)) (h2 x (by simp)) (encL l ++ r)
    obtain ⟨l1, l2⟩ := bk_list (l := l) (fun y hy => h1 y (by simp [hy])) (fun y hy => h2 y (by simp [hy])) r
    rw [e, List.length_cons, rdSt_in, rdL_in, v1, v2]
    exact ⟨l1, by rw [l2]⟩
theorem bk_listlong : ∀ {l : List A}, (∀ x ∈ l, Rng x) → ¬ (∀ x ∈ l, x.data.length ≤ 200) → ∀ r, (rdSt (encL l ++ r, 0) l.length).2 ≠ 0
  | [], _, h, _ => absurd (fun x hx => by simp at hx) h
  | x :: l, h1, h2, r => by
    have e : encL (x :: l) ++ r = encA x ++ (encL l ++ r) := by simp [encL, List.append_assoc]
    rw [e, List.length_cons, rdSt_in]
    by_cases hx : x.data.length ≤ 200
    · rw [(bk_val (h1 x (by simp)) hx _).1]
      refine bk_listlong (fun y hy => h1 y (by simp [hy])) (fun h => h2 fun y hy => ?_) r
      rcases List.mem_cons.1 hy with rfl | hy
      · exact hx
      · exact h y hy
    · rw [bk_valong (h1 x (by simp)) (by omega), er_st (by simp)]
      simp
theorem bk_vec {f : Nat → Int} (hr : ∀ j, j < 8 → -9223372036854775808 ≤ f j ∧ f j ≤ 9223372036854775807) : ∀ n, n ≤ 8 → ∀ r, rdV (encV f n ++ r, 0) n = (r, 0)
  | 0, _, _ => rfl
  | n + 1, hn, r => by
    show (intS (rdV (encV f n ++ numB (zig (f n)) ++ r, 0) n)).2 = _
    rw [List.append_assoc, bk_vec hr n (by omega), bk_int (hr n (by omega)).1 (hr n (by omega)).2]
theorem bk_vecF {f : Nat → Int} (hr : ∀ j, j < 8 → -9223372036854775808 ≤ f j ∧ f j ≤ 9223372036854775807) {j : Nat} (hj : j < 8) (r : List Nat) : rdF (encV f 8 ++ r, 0) j = f j := by
  have key : ∀ d r, j + 1 + d ≤ 8 → rdF (encV f (j + 1 + d) ++ r, 0) j = f j := by
    intro d
    induction d with
    | zero =>
      intro r _
      unfold rdF
      show (intS (rdV (encV f j ++ numB (zig (f j)) ++ r, 0) j)).1 = _
      rw [List.append_assoc, bk_vec hr j (by omega), bk_int (hr j hj).1 (hr j hj).2]
    | succ d ih =>
      intro r h
      show rdF (encV f (j + 1 + d) ++ numB (zig (f (j + 1 + d))) ++ r, 0) j = _
      rw [List.append_assoc]
      exact ih _ (by omega)
  have := key (7 - j) r (by omega)
  rwa [show j + 1 + (7 - j) = 8 by omega] at this
theorem mayB_congr {f g : Nat → Int} (h : ∀ j, j < 8 → f j = g j) : mayB f = mayB g := by
  unfold mayB
  exact decide_eq_decide.2 ⟨fun k j hj => by rw [← h j hj]; exact k j hj, fun k j hj => by rw [h j hj]; exact k j hj⟩
theorem may_cov {f g : Nat → Int} {l : List A} (h : ∀ j, j < 8 → f j = g j) (m : MayP f l) : MayP g l := by
  refine ⟨fun j hj => by rw [← h j hj]; exact m.seen j hj, m.few, m.less, fun x hx => ⟨?_, (m.cov x hx).2⟩⟩
  have := (m.cov x hx).1
  rw [cov_iff] at this ⊢
  rw [← h _ (by omega)]
  exact this
theorem mayS_congr {f g : Nat → Int} {l : List A} (h : ∀ j, j < 8 → f j = g j) : mayS f l = mayS g l := by
  by_cases m : MayP f l
  · rw [may_yes m, may_yes (may_cov h m)]
  · rw [may_no m, may_no (fun k => m (may_cov (fun j hj => (h j hj).symm) k))]
/-- What Read takes of what Write wrote. -/
theorem bk_sr {f : Nat → Int} {l : List A} (hr : ∀ j, j < 8 → -9223372036854775808 ≤ f j ∧ f j ≤ 9223372036854775807) (hl : ∀ x ∈ l, Rng x) (hn : l.length ≤ 140737488355328) (s : RS) (hs : s = (encV f 8 ++ (numB l.length ++ encL l), 0)) :
    srB nodeP s = mayS f l ∧ (mayS f l = true → (∀ j, j < 8 → srF nodeP s j = f j) ∧ srL nodeP s = l ∧ srS s = ([], 0)) := by
  have hv : rdV s 8 = (numB l.length ++ encL l, 0) := by rw [hs]; exact bk_vec hr 8 (by omega) _
  have hF : ∀ j, j < 8 → rdF s j = f j := fun j hj => by rw [hs]; exact bk_vecF hr hj _
  have hB : readB s = mayB f := by
    unfold readB
    rw [hv, mayB_congr hF]
    simp
  by_cases hm : MayP f l
  · have hB' : readB s = true := by
      rw [hB]
      simpa [mayB] using hm.seen
    have hR : readF s = rdF s := by unfold readF; rw [if_pos hB']
    have hc : countS 16 (rdV s 8) = (l.length, (encL l, 0)) := by rw [hv]; exact bk_count (by omega) _ hm.few
    have hd : ∀ x ∈ l, x.data.length ≤ 200 := fun x hx => by
      have := (hm.cov x hx).2
      unfold okData at this
      split at this <;> (have := of_decide_eq_true this; omega)
    obtain ⟨l1, l2⟩ := bk_list hl hd []
    rw [List.append_nil] at l1 l2
    have hV : srV nodeP s = l := by unfold srV; rw [hc]; exact l2
    have hS : srS s = ([], 0) := by unfold srS; rw [hc]; exact l1
    have h3 : mayS (readF s) (srV nodeP s) = true := by rw [hR, hV, mayS_congr hF]; exact may_yes hm
    obtain ⟨y1, y2, y3⟩ := sr_yes (nd := nodeP) hB' (by rw [hS]; rfl) h3
    rw [may_yes hm]
    refine ⟨y1, fun _ => ⟨fun j hj => by rw [← y2, hR]; exact hF j hj, by rw [← y3]; exact hV, hS⟩⟩
  · rw [may_no hm]
    refine ⟨?_, fun h => by cases h⟩
    by_cases hs1 : mayB f = true
    · have hB' : readB s = true := by rw [hB]; exact hs1
      have hR : readF s = rdF s := by unfold readF; rw [if_pos hB']
      by_cases h16 : l.length ≤ 16
      · have hc : countS 16 (rdV s 8) = (l.length, (encL l, 0)) := by rw [hv]; exact bk_count (by omega) _ h16
        by_cases hd : ∀ x ∈ l, x.data.length ≤ 200
        · obtain ⟨l1, l2⟩ := bk_list hl hd []
          rw [List.append_nil] at l1 l2
          have hV : srV nodeP s = l := by unfold srV; rw [hc]; exact l2
          exact (sr_no (.inr (.inr (by rw [hR, hV, mayS_congr hF]; exact may_no hm)))).1
        · have l1 := bk_listlong hl hd []
          rw [List.append_nil] at l1
          refine (sr_no (.inr (.inl ?_))).1
          unfold srS
          rw [hc]
          simpa using l1
      · have hc : countS 16 (rdV s 8) = (0, ([], 4)) := by rw [hv]; exact bk_over (by omega) _ (by omega)
        refine (sr_no (.inr (.inl ?_))).1
        unfold srS
        rw [hc]
        rfl
    · refine (sr_no (.inl ?_)).1
      rw [hB]
      simpa using hs1
theorem strOf_key (key : ByteArray) : strOf (keyL key) = key := by
  have h : (strOf (keyL key)).data = key.data := by
    apply Array.toList_inj.1
    simp [strOf, strOfNums, keyL, Function.comp_def]
  cases hk : strOf (keyL key)
  cases key
  rw [hk] at h
  simp only at h
  rw [h]
theorem strOf_size (t : List Nat) : (strOf t).size = t.length := by simp [strOf, strOfNums, ByteArray.size]
theorem keyL_str {t : List Nat} (h : ∀ x ∈ t, x < 256) : keyL (strOf t) = t := by
  simp only [keyL, strOf, strOfNums, List.map_map]
  refine (List.map_congr_left (g := fun x => x) fun x hx => ?_).trans (by simp)
  simp [Nat.mod_eq_of_lt (h x hx)]
/-- What ReadEntry takes of what WriteEntry wrote. -/
theorem bk_re {key : ByteArray} {f : Nat → Int} {l : List A} (hks : key.size ≤ 140737488351232) (hr : ∀ j, j < 8 → -9223372036854775808 ≤ f j ∧ f j ≤ 9223372036854775807) (hl : ∀ x ∈ l, Rng x) (hn : l.length ≤ 140737488355328) :
    reB nodeP (encE (keyL key) f l, 0) = (keyB key && mayS f l) ∧ (reB nodeP (encE (keyL key) f l, 0) = true → reKey nodeP (encE (keyL key) f l, 0) = key ∧ sameS (reF nodeP (encE (keyL key) f l, 0)) f (reL nodeP (encE (keyL key) f l, 0)) l = true ∧ endS (reS (encE (keyL key) f l, 0)) = 0) := by
  obtain ⟨s, hs⟩ : ∃ s : RS, s = (encE (keyL key) f l, 0) := ⟨_, rfl⟩
  rw [← hs]
  have hk := keyL_len key
  have es : s = (numB (keyL key).length ++ (keyL key ++ (encV f 8 ++ (numB l.length ++ encL l))), 0) := by rw [hs]; simp [encE, List.append_assoc]
  by_cases h32 : key.size ≤ 32
  · have ht : textS 32 s = (keyL key, (encV f 8 ++ (numB l.length ++ encL l), 0)) := by rw [es]; exact bk_text _ _ (by omega) (by omega)
    have hK : reK s = key := by unfold reK; rw [ht]; exact strOf_key key
    have hT : reT s = (encV f 8 ++ (numB l.length ++ encL l), 0) := by unfold reT; rw [ht]
    obtain ⟨b1, b2⟩ := bk_sr hr hl hn (reT s) hT
    have e : reB nodeP s = (keyB key && mayS f l) := by
      unfold reB
      rw [b1, hK]
      cases hm : mayS f l
      · simp
      · obtain ⟨c1, c2, c3⟩ := b2 hm
        rw [c2, mayS_congr c1, hm]
        simp
    refine ⟨e, fun h => ?_⟩
    have hm : mayS f l = true := by rw [e] at h; simp only [Bool.and_eq_true] at h; exact h.2
    obtain ⟨c1, c2, c3⟩ := b2 hm
    obtain ⟨y1, y2, y3⟩ := re_yes h
    refine ⟨by rw [← y1]; exact hK, ?_, ?_⟩
    · rw [← y2, ← y3, c2]
      exact same_iff.2 ⟨c1, rfl⟩
    · unfold reS
      rw [c3]
      rfl
  · have ht : textS 32 s = ([], ([], 4)) := by rw [es]; exact bk_long _ _ (by omega) (by omega)
    have hT : reT s = ([], 4) := by unfold reT; rw [ht]
    have e : srB nodeP (reT s) = false := by
      refine (sr_no (.inr (.inl ?_))).1
      rw [hT, er_sr (by simp)]
      rfl
    have e2 : reB nodeP s = false := by unfold reB; rw [e]; rfl
    rw [e2]
    refine ⟨?_, fun h => by cases h⟩
    have : keyB key = false := by unfold keyB; simp [h32]
    rw [this]; rfl
theorem bk_none : reB nodeP ([], 0) = false := by
  have ht : textS 32 ([], 0) = ([], ([], 2)) := by simp [textS, countS, numS, rdNum]
  have hT : reT ([], 0) = ([], 2) := by unfold reT; rw [ht]
  have e : srB nodeP (reT ([], 0)) = false := by
    refine (sr_no (.inr (.inl ?_))).1
    rw [hT, er_sr (by simp)]
    rfl
  unfold reB
  rw [e]
  rfl

/-! What is read, written again. -/
theorem fw_num {s : RS} (hs : Ok s) (h : (numS s).2.2 = 0) : s.2 = 0 ∧ s.1 = numB (numS s).1 ++ (numS s).2.1 ∧ (numS s).1 < 18446744073709551616 := by
  have h0 : s.2 = 0 := by
    rcases Nat.eq_zero_or_pos s.2 with e | e
    · exact e
    · rw [er_num (by omega)] at h
      exact h
  refine ⟨h0, ?_, (num_ok hs).2.1⟩
  simp only [numS, h0, ne_eq, not_true_eq_false, if_false] at h ⊢
  cases hr : rdNum 0 0 s.1 with
  | inl e =>
    rw [hr] at h
    have := rd_err _ _ _ _ hr
    simp only at h
    omega
  | inr v =>
    obtain ⟨n, l⟩ := v
    obtain ⟨m, h1, h2, -, -⟩ := rd_inv _ _ _ _ _ hs.1 (by omega) hr
    simp at h2
    subst h2
    exact h1
theorem fw_int {s : RS} (hs : Ok s) (h : (intS s).2.2 = 0) : s.2 = 0 ∧ s.1 = numB (zig (intS s).1) ++ (intS s).2.1 := by
  obtain ⟨a, b, -⟩ := fw_num hs h
  refine ⟨a, ?_⟩
  simp only [intS]
  rw [zig_unzig]
  exact b
theorem fw_flag {s : RS} (h : (flagS s).2.2 = 0) : s.2 = 0 ∧ s.1 = (if (flagS s).1 then 1 else 0) :: (flagS s).2.1 := by
  obtain ⟨bs, er⟩ := s
  by_cases h0 : er = 0
  · subst h0
    refine ⟨rfl, ?_⟩
    match bs with
    | [] => simp [flagS] at h
    | b :: l =>
      simp only [flagS, ne_eq, not_true_eq_false, if_false] at h ⊢
      split at h
      · simp at h
      · rename_i h1
        rw [if_neg h1]
        have : b = 0 ∨ b = 1 := by omega
        rcases this with rfl | rfl <;> rfl
  · rw [er_flag h0] at h
    exact absurd h h0
theorem fw_count {m : Nat} {s : RS} (hs : Ok s) (h : (countS m s).2.2 = 0) : s.2 = 0 ∧ s.1 = numB (countS m s).1 ++ (countS m s).2.1 := by
  unfold countS at h ⊢
  split at h
  · simp at h
  · rename_i h1
    rw [if_neg h1]
    obtain ⟨a, b, -⟩ := fw_num hs h
    exact ⟨a, b⟩
theorem fw_text {m : Nat} {s : RS} (hs : Ok s) (h : (textS m s).2.2 = 0) : s.2 = 0 ∧ s.1 = numB (textS m s).1.length ++ ((textS m s).1 ++ (textS m s).2.1) := by
  unfold textS at h ⊢
  split at h
  · rename_i h1
    exact absurd h h1
  · rename_i h1
    rw [if_neg h1]
    split at h
    · simp at h
    · rename_i h2
      rw [if_neg h2]
      obtain ⟨a, b⟩ := fw_count hs (Decidable.not_not.1 h1)
      refine ⟨a, ?_⟩
      simp only [List.take_append_drop]
      rw [List.length_take, Nat.min_eq_left (by omega)]
      exact b
theorem fw_val {s : RS} (hs : Ok s) (h : (valS s).2 = 0) : s.2 = 0 ∧ s.1 = encA (rdA nodeP s) ++ (valS s).1 := by
  have k1 := (num_ok hs).1
  have k2 : Ok (intS (numS s).2).2 := (num_ok k1).1
  have k3 := flag_ok k2
  obtain ⟨d1, d2⟩ := fw_text k3 h
  obtain ⟨c1, c2⟩ := fw_flag d1
  obtain ⟨b1, b2⟩ := fw_int k1 c1
  obtain ⟨a1, a2, a3⟩ := fw_num hs b1
  refine ⟨a1, ?_⟩
  have e : encA (rdA nodeP s) = numB (numS s).1 ++ (numB (zig (intS (numS s).2).1) ++ ((if (flagS (intS (numS s).2).2).1 then 1 else 0) :: (numB (textS 200 (flagS (intS (numS s).2).2).2).1.length ++ (textS 200 (flagS (intS (numS s).2).2).2).1))) := by
    unfold encA rdA valN valI valG valT
    simp only
    rw [node_fwd a3]
  rw [e]
  have e2 : (valS s).1 = (textS 200 (flagS (intS (numS s).2).2).2).2.1 := rfl
  rw [e2]
  simp only [List.append_assoc, List.cons_append]
  rw [← d2, ← c2, ← b2, ← a2]
theorem val_ok {s : RS} (h : Ok s) : Ok (valS s) := text_ok 200 (flag_ok (num_ok (num_ok h).1).1)
theorem fw_list : ∀ (n : Nat) {s : RS}, Ok s → (rdSt s n).2 = 0 → s.2 = 0 ∧ s.1 = encL (rdL nodeP n s) ++ (rdSt s n).1
  | 0, s, _, h => ⟨h, rfl⟩
  | n + 1, s, hs, h => by
    rw [rdSt_in] at h
    obtain ⟨a, b⟩ := fw_list n (val_ok hs) h
    obtain ⟨c, d⟩ := fw_val hs a
    refine ⟨c, ?_⟩
    rw [rdL_in, rdSt_in]
    show s.1 = encA (rdA nodeP s) ++ encL (rdL nodeP n (valS s)) ++ (rdSt (valS s) n).1
    rw [List.append_assoc, ← b]
    exact d
theorem fw_vec : ∀ (n : Nat) {s : RS}, Ok s → (rdV s n).2 = 0 → s.2 = 0 ∧ s.1 = encV (rdF s) n ++ (rdV s n).1
  | 0, s, _, h => ⟨h, rfl⟩
  | n + 1, s, hs, h => by
    obtain ⟨a, b⟩ := fw_int (rdV_ok hs n) h
    obtain ⟨c, d⟩ := fw_vec n hs a
    refine ⟨c, ?_⟩
    show s.1 = encV (rdF s) n ++ numB (zig (rdF s n)) ++ (intS (rdV s n)).2.1
    rw [List.append_assoc]
    have : numB (zig (rdF s n)) ++ (intS (rdV s n)).2.1 = (rdV s n).1 := b.symm
    rw [this]
    exact d
theorem fw_end {s : RS} (h : endS s = 0) : s = ([], 0) := by
  obtain ⟨l, er⟩ := s
  unfold endS at h
  split at h
  · omega
  · rename_i h1
    simp only at h h1
    subst h
    simp only [true_and, ne_eq, Decidable.not_not] at h1
    rw [h1]
theorem rdL_len (nd : Nat → Int) (n : Nat) (s : RS) : (rdL nd n s).length = n := by simp [rdL]
theorem fw_re {bs : List Nat} (hb : ∀ b ∈ bs, b < 256) (h : reB nodeP (bs, 0) = true) (he : endS (reS (bs, 0)) = 0) : wrE bs.length (some []) (reKey nodeP (bs, 0)) (reF nodeP (bs, 0)) (reL nodeP (bs, 0)) = some bs := by
  have hok : Ok (bs, 0) := ⟨hb, by simp, by simp⟩
  obtain ⟨y1, y2, y3⟩ := re_yes h
  have hsr : srB nodeP (reT (bs, 0)) = true := by
    unfold reB at h
    simp only [Bool.and_eq_true] at h
    exact h.1
  have hT : Ok (reT (bs, 0)) := text_ok 32 hok
  have hS : srS (reT (bs, 0)) = ([], 0) := fw_end he
  have hF : srF nodeP (reT (bs, 0)) = rdF (reT (bs, 0)) := by
    unfold srF
    rw [if_pos hsr]
    unfold srB at hsr
    simp only [Bool.and_eq_true] at hsr
    unfold readF
    rw [if_pos hsr.1.1]
  have hL : srL nodeP (reT (bs, 0)) = srV nodeP (reT (bs, 0)) := by
    unfold srL
    rw [if_pos hsr]
  obtain ⟨c, hc⟩ : ∃ c, c = countS 16 (rdV (reT (bs, 0)) 8) := ⟨_, rfl⟩
  have kv := rdV_ok hT 8
  have kc : Ok c.2 := by rw [hc]; exact (count_ok 16 kv).1
  have hS' : rdSt c.2 c.1 = ([], 0) := by rw [hc]; exact hS
  obtain ⟨l1, l2⟩ := fw_list c.1 kc (by rw [hS'])
  rw [hS'] at l2
  obtain ⟨n1, n2⟩ := fw_count (m := 16) kv (by rw [← hc]; exact l1)
  obtain ⟨v1, v2⟩ := fw_vec 8 hT n1
  obtain ⟨t1, t2⟩ := fw_text (m := 32) hok v1
  have hlt : ∀ x ∈ (textS 32 (bs, 0)).1, x < 256 := (text_take 32 hok).1
  have hV : srV nodeP (reT (bs, 0)) = rdL nodeP c.1 c.2 := by unfold srV; rw [← hc]
  have e : encE (keyL (reKey nodeP (bs, 0))) (reF nodeP (bs, 0)) (reL nodeP (bs, 0)) = bs := by
    rw [← y1, ← y2, ← y3, hF, hL, hV]
    have hk : keyL (reK (bs, 0)) = (textS 32 (bs, 0)).1 := keyL_str hlt
    rw [hk]
    unfold encE
    rw [rdL_len]
    simp only [List.append_nil] at l2
    rw [← l2]
    rw [← hc] at n2
    rw [← n2, List.append_assoc]
    have : encV (rdF (reT (bs, 0))) 8 ++ (rdV (reT (bs, 0)) 8).1 = (textS 32 (bs, 0)).2.1 := v2.symm
    rw [this]
    exact t2.symm
  have := wrE_fit (most := bs.length) (key := reKey nodeP (bs, 0)) (f := reF nodeP (bs, 0)) (l := reL nodeP (bs, 0)) (by rw [e]; exact Nat.le_refl _)
  rw [this, e]
/-! What the law asks. -/
theorem encV_lt (f : Nat → Int) : ∀ n, ∀ x ∈ encV f n, x < 256
  | 0, x, hx => by simp [encV] at hx
  | n + 1, x, hx => by
    rcases List.mem_append.1 hx with h | h
    · exact encV_lt f n x h
    · exact numB_lt _ _ h
theorem encA_lt {x : A} (hx : Rng x) : ∀ y ∈ encA x, y < 256 := by
  intro y hy
  unfold encA at hy
  simp only [List.mem_append, List.mem_cons] at hy
  rcases hy with h | h | h | h | h
  · exact numB_lt _ _ h
  · exact numB_lt _ _ h
  · subst h; split <;> omega
  · exact numB_lt _ _ h
  · exact hx.lt y h
theorem encL_lt : ∀ {l : List A}, (∀ x ∈ l, Rng x) → ∀ y ∈ encL l, y < 256
  | [], _, y, hy => by simp [encL] at hy
  | x :: l, h, y, hy => by
    rcases List.mem_append.1 hy with k | k
    · exact encA_lt (h x (by simp)) y k
    · exact encL_lt (fun z hz => h z (by simp [hz])) y k
theorem keyL_lt (key : ByteArray) : ∀ x ∈ keyL key, x < 256 := by
  intro x hx
  simp only [keyL, List.mem_map] at hx
  obtain ⟨u, -, rfl⟩ := hx
  exact u.toNat_lt
theorem encE_lt {key : ByteArray} {f : Nat → Int} {l : List A} (hl : ∀ x ∈ l, Rng x) : ∀ y ∈ encE (keyL key) f l, y < 256 := by
  intro y hy
  unfold encE at hy
  simp only [List.mem_append] at hy
  rcases hy with (h | h) | h | h | h
  · exact numB_lt _ _ h
  · exact keyL_lt key y h
  · exact encV_lt f 8 y h
  · exact numB_lt _ _ h
  · exact encL_lt hl y h
theorem wrE_lt {key : ByteArray} {f : Nat → Int} {l : List A} (hl : ∀ x ∈ l, Rng x) (most : Nat) : ∀ y ∈ (wrE most (some []) key f l).getD [], y < 256 := by
  rcases wrE_cases most key f l with h | h <;> rw [h]
  · simp
  · exact encE_lt hl
/-- The three ways of the first half. -/
theorem three {key : ByteArray} {f : Nat → Int} {l : List A} (hks : key.size ≤ 140737488351232) (hr : ∀ j, j < 8 → -9223372036854775808 ≤ f j ∧ f j ≤ 9223372036854775807) (hl : ∀ x ∈ l, Rng x) (hn : l.length ≤ 140737488355328) (st : Option (List Nat)) (hst : st = wrE 100000 (some []) key f l) (X : List Nat) (hX : X = st.getD []) :
    (reB nodeP (X, 0) = false ∧ (keyB key && mayS f l) = false) ∨ (reB nodeP (X, 0) = false ∧ (keyB key && mayS f l) = true ∧ ((errW st : Nat) : Int) = 4) ∨ (reB nodeP (X, 0) = true ∧ (keyB key && mayS f l) = true ∧ reKey nodeP (X, 0) = key ∧ sameS (reF nodeP (X, 0)) f (reL nodeP (X, 0)) l = true ∧ endS (reS (X, 0)) = 0) := by
  subst hst hX
  rcases wrE_cases 100000 key f l with h | h <;> rw [h]
  · have e : reB nodeP ((none : Option (List Nat)).getD [], 0) = false := bk_none
    rw [e]
    cases hm : (keyB key && mayS f l)
    · exact .inl ⟨rfl, rfl⟩
    · exact .inr (.inl ⟨rfl, rfl, rfl⟩)
  · obtain ⟨b1, b2⟩ := bk_re hks hr hl hn
    simp only [Option.getD_some]
    cases hm : (keyB key && mayS f l)
    · rw [hm] at b1
      exact .inl ⟨b1, rfl⟩
    · rw [hm] at b1
      exact .inr (.inr ⟨b1, rfl, b2 b1⟩)
theorem re_rng {s : RS} (h : reB nodeP s = true) : (∀ j, j < 8 → -9223372036854775808 ≤ reF nodeP s j ∧ reF nodeP s j ≤ 9223372036854775807) ∧ (reKey nodeP s).size ≤ 140737488351232 := by
  obtain ⟨y1, y2, y3⟩ := re_yes h
  unfold reB at h
  simp only [Bool.and_eq_true] at h
  obtain ⟨-, h1, h2⟩ := h
  have m := may_iff.1 h2
  rw [← y1, ← y2]
  refine ⟨fun j hj => by have := m.seen j hj; omega, ?_⟩
  unfold keyB at h1
  simp only [Bool.and_eq_true, decide_eq_true_eq] at h1
  omega
theorem cel10 {b : Nat} {t : TypeId} {x0 x1 x2 x3 x4 x5 x6 x7 x8 x9 : Value} {w : World} (h : Cel b t #[x0, x1, x2, x3, x4, x5, x6, x7, x8, x9] w) : w.cell? ⟨b, 0, none⟩ = some x0 ∧ w.cell? ⟨b, 1, none⟩ = some x1 ∧ w.cell? ⟨b, 2, none⟩ = some x2 ∧ w.cell? ⟨b, 3, none⟩ = some x3 ∧ w.cell? ⟨b, 4, none⟩ = some x4 ∧ w.cell? ⟨b, 5, none⟩ = some x5 ∧ w.cell? ⟨b, 6, none⟩ = some x6 ∧ w.cell? ⟨b, 7, none⟩ = some x7 ∧ w.cell? ⟨b, 8, none⟩ = some x8 ∧ w.cell? ⟨b, 9, none⟩ = some x9 := by
  refine ⟨?_, ?_, ?_, ?_, ?_, ?_, ?_, ?_, ?_, ?_⟩ <;> (rw [h.cell]; rfl)
end Go.Proofs.Ytfkpnmmcdhibbab
