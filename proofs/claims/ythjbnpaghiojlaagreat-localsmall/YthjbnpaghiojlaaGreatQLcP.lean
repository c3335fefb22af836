/- Items of several texts. -/
import Derived.Test.YthjbnpaghiojlaaGreatQLessP
import Derived.Test.YthjbnpaghiojlaaGreatQSRe
import Derived.Test.YthjbnpaghiojlaaGreatQSWe
import Derived.Test.YthjbnpaghiojlaaGreatQOrdQ
import Derived.Test.YthjbnpaghiojlaaGreatQJns
import Derived.Test.YthjbnpaghiojlaaGreatQHP
import Derived.Test.YthjbnpaghiojlaaGreatQFTh
namespace Go.Proofs.YthjbnpaghiojlaaGreat
theorem put_put (most : Nat) (st : Option (List Nat)) (x y : List Nat) : putS most (putS most st x) y = putS most st (x ++ y) := by
 cases st with
 | none => rfl
 | some b =>
  simp only [putS]
  by_cases h : b.length + x.length ≤ most
  ·rw [if_pos h]
   simp only [List.length_append, List.append_assoc, Nat.add_assoc]
  ·rw [if_neg h]
   simp only [List.length_append]
   rw [if_neg (by omega)]
theorem put_none {most : Nat} {st : Option (List Nat)} (h : (st.getD []).length ≤ most) : putS most st [] = st := by
 cases st with
 | none => rfl
 | some b =>
  simp only [Option.getD_some] at h
  simp [putS, h]
def encV (f : Nat → Int) : Nat → List Nat
 | 0 => []
 | n + 1 => encV f n ++ numB (zig (f n))
def encA (x : A) : List Nat := numB (u64N x.node) ++ (numB (zig x.num) ++ ((if x.dead then 1 else 0) :: (numB x.data.length ++ x.data)))
def encL : List A → List Nat
 | [] => []
 | x :: l => encA x ++ encL l
def encE (t : List Nat) (f : Nat → Int) (l : List A) : List Nat := (numB t.length ++ t) ++ (encV f 8 ++ (numB l.length ++ encL l))
theorem wrV_enc {most : Nat} {st : Option (List Nat)} (h : (st.getD []).length ≤ most) (f : Nat → Int) : ∀ n, wrV most st f n = putS most st (encV f n)
 | 0 => (put_none h).symm
 | n + 1 => by
  show putS most (wrV most st f n) _ = _
  rw [wrV_enc h f n, put_put]
  rfl
theorem wrVal_enc (most : Nat) (st : Option (List Nat)) (x : A) : wrVal most st x = putS most st (encA x) := by
 unfold wrVal encA
 rw [put_put, put_put, put_put]
 simp only [List.cons_append, List.nil_append]
theorem wrL_enc {most : Nat} : ∀ {st : Option (List Nat)}, (st.getD []).length ≤ most → ∀ l, wrL most st l = putS most st (encL l)
 | _, h, [] => (put_none h).symm
 | st, h, x :: l => by
  have e : wrL most st (x :: l) = wrL most (wrVal most st x) l := rfl
  rw [e, wrL_enc (wrVal_le h x) l, wrVal_enc, put_put]
  rfl
theorem bk_num {n : Nat} (h : n < 18446744073709551616) (l : List Nat) : numS (numB n ++ l, 0) = (n, (l, 0)) := by
 simp only [numS, ne_eq, not_true_eq_false, if_false]
 rw [rd_back l n 0 0 (by omega) (by omega) (by omega)]
 simp
theorem bk_int {i : Int} (h0 : -9223372036854775808 ≤ i) (h1 : i ≤ 9223372036854775807) (l : List Nat) : intS (numB (zig i) ++ l, 0) = (i, (l, 0)) := by
 simp only [intS]
 rw [bk_num (zig_lt h0 h1), unzig_zig]
theorem bk_count {n : Nat} (h : n < 18446744073709551616) (l : List Nat) {most : Nat} (hm : n ≤ most) : countS most (numB n ++ l, 0) = (n, (l, 0)) := by
 unfold countS
 rw [bk_num h, if_neg (by simp only; omega)]
theorem bk_over {n : Nat} (h : n < 18446744073709551616) (l : List Nat) {most : Nat} (hm : most < n) : countS most (numB n ++ l, 0) = (0, ([], 4)) := by
 unfold countS
 rw [bk_num h, if_pos (by simp only; omega)]
theorem bk_text (t l : List Nat) (h : t.length < 18446744073709551616) {most : Nat} (hm : t.length ≤ most) : textS most (numB t.length ++ (t ++ l), 0) = (t, (l, 0)) := by
 unfold textS
 rw [bk_count h _ hm]
 simp
theorem bk_long (t l : List Nat) (h : t.length < 18446744073709551616) {most : Nat} (hm : most < t.length) : textS most (numB t.length ++ (t ++ l), 0) = ([], ([], 4)) := by
 unfold textS
 rw [bk_over h _ hm]
 simp
theorem bk_flag (f : Bool) (l : List Nat) : flagS ((if f then 1 else 0) :: l, 0) = (f, (l, 0)) := by
 cases f <;> simp [flagS]
theorem er_num {s : RS} (h : s.2 ≠ 0) : numS s = (0, s) := by simp [numS, h]
theorem er_flag {s : RS} (h : s.2 ≠ 0) : flagS s = (false, s) := by simp [flagS, h]
theorem er_count {s : RS} (h : s.2 ≠ 0) (m : Nat) : countS m s = (0, s) := by
 unfold countS
 rw [er_num h, if_neg (by simp)]
theorem er_text {s : RS} (h : s.2 ≠ 0) (m : Nat) : textS m s = ([], s) := by
 unfold textS
 rw [er_count h, if_pos (by simpa using h)]
theorem er_int {s : RS} (h : s.2 ≠ 0) : (intS s).2 = s := by simp [intS, er_num h]
theorem er_val {s : RS} (h : s.2 ≠ 0) : valS s = s := by
 have e1 : (numS s).2 = s := by rw [er_num h]
 unfold valS
 rw [e1, er_int h, er_flag h, er_text h]
theorem er_st {s : RS} (h : s.2 ≠ 0) : ∀ n, rdSt s n = s
 | 0 => rfl
 | n + 1 => by show valS (rdSt s n) = s; rw [er_st h n, er_val h]
theorem er_vec {s : RS} (h : s.2 ≠ 0) : ∀ n, rdV s n = s
 | 0 => rfl
 | n + 1 => by show (intS (rdV s n)).2 = s; rw [er_vec h n, er_int h]
theorem er_sr {s : RS} (h : s.2 ≠ 0) : srS s = s := by
 have e : countS 16 (rdV s 8) = (0, s) := by rw [er_vec h 8, er_count h]
 unfold srS
 rw [e]
 simp only [rdSt]
theorem rdSt_in (s : RS) : ∀ n, rdSt s (n + 1) = rdSt (valS s) n
 | 0 => rfl
 | n + 1 => by show valS (rdSt s (n + 1)) = valS (rdSt (valS s) n); rw [rdSt_in s n]
theorem rdL_in (nd : Nat → Int) (s : RS) (n : Nat) : rdL nd (n + 1) s = rdA nd s :: rdL nd n (valS s) := by
 unfold rdL
 rw [List.range_succ_eq_map, List.map_cons, List.map_map]
 have e : List.map ((fun i => rdA nd (rdSt s i)) ∘ Nat.succ) (List.range n) = List.map (fun i => rdA nd (rdSt (valS s) i)) (List.range n) :=
  List.map_congr_left fun i _ => by
   simp only [Function.comp_apply, Nat.succ_eq_add_one]
   rw [rdSt_in]
 rw [e]
 simp only [rdSt]
structure Rng (x : A) : Prop where
 n0 : -9223372036854775808 ≤ x.node
 n1 : x.node ≤ 9223372036854775807
 m0 : -9223372036854775808 ≤ x.num
 m1 : x.num ≤ 9223372036854775807
 len : x.data.length ≤ 140737488351232
 lt : ∀ y ∈ x.data, y < 256
theorem Row.rng {w : World} {a : Option Addr} {c : Nat} {l : List V} (h : Row w a c l) : ∀ x ∈ cont l, Rng x := by
 intro x hx
 simp only [cont, List.mem_map] at hx
 obtain ⟨v, hv, rfl⟩ := hx
 have k := h.ok v hv
 exact ⟨k.n0, k.n1, k.m0, k.m1, k.len, k.lt⟩
theorem node_back {n : Int} (h0 : -9223372036854775808 ≤ n) (h1 : n ≤ 9223372036854775807) : nodeP (u64N n) = n := by
 unfold nodeP u64N RowKit.wrap64
 omega
theorem bk_val {x : A} (hx : Rng x) (h : x.data.length ≤ 200) (r : List Nat) : valS (encA x ++ r, 0) = (r, 0) ∧ rdA nodeP (encA x ++ r, 0) = x := by
 have e : encA x ++ r = numB (u64N x.node) ++ (numB (zig x.num) ++ ((if x.dead then 1 else 0) :: (numB x.data.length ++ (x.data ++ r)))) := by simp [encA, List.append_assoc]
 have t1 := bk_num (u64N_lt x.node) (numB (zig x.num) ++ ((if x.dead then 1 else 0) :: (numB x.data.length ++ (x.data ++ r))))
 have t2 := bk_int hx.m0 hx.m1 ((if x.dead then 1 else 0) :: (numB x.data.length ++ (x.data ++ r)))
 have t3 := bk_flag x.dead (numB x.data.length ++ (x.data ++ r))
 have t4 := bk_text x.data r (by omega) h
 rw [e]
 refine ⟨by unfold valS; rw [t1, t2, t3, t4], ?_⟩
 unfold rdA valN valI valG valT
 rw [t1, t2, t3, t4, node_back hx.n0 hx.n1]
theorem bk_valong {x : A} (hx : Rng x) (h : 200 < x.data.length) (r : List Nat) : valS (encA x ++ r, 0) = ([], 4) := by
 have e : encA x ++ r = numB (u64N x.node) ++ (numB (zig x.num) ++ ((if x.dead then 1 else 0) :: (numB x.data.length ++ (x.data ++ r)))) := by simp [encA, List.append_assoc]
 have t1 := bk_num (u64N_lt x.node) (numB (zig x.num) ++ ((if x.dead then 1 else 0) :: (numB x.data.length ++ (x.data ++ r))))
 have t2 := bk_int hx.m0 hx.m1 ((if x.dead then 1 else 0) :: (numB x.data.length ++ (x.data ++ r)))
 have t3 := bk_flag x.dead (numB x.data.length ++ (x.data ++ r))
 have t4 := bk_long x.data r (by have := hx.len; omega) h
 rw [e]
 unfold valS
 rw [t1, t2, t3, t4]
theorem bk_list : ∀ {l : List A}, (∀ x ∈ l, Rng x) → (∀ x ∈ l, x.data.length ≤ 200) → ∀ r, rdSt (encL l ++ r, 0) l.length = (r, 0) ∧ rdL nodeP l.length (encL l ++ r, 0) = l
 | [], _, _, r => ⟨rfl, rfl⟩
 | x :: l, h1, h2, r => by
  have e : encL (x :: l) ++ r = encA x ++ (encL l ++ r) := by simp [encL, List.append_assoc]
  obtain ⟨v1, v2⟩ := bk_val (h1 x (by simp)) (h2 x (by simp)) (encL l ++ r)
  obtain ⟨l1, l2⟩ := bk_list (l := l) (fun y hy => h1 y (by simp [hy])) (fun y hy => h2 y (by simp [hy])) r
  rw [e, List.length_cons, rdSt_in, rdL_in, v1, v2]
  exact ⟨l1, by rw [l2]⟩
theorem bk_listlong : ∀ {l : List A}, (∀ x ∈ l, Rng x) → ¬ (∀ x ∈ l, x.data.length ≤ 200) → ∀ r, (rdSt (encL l ++ r, 0) l.length).2 ≠ 0
 | [], _, h, _ => absurd (fun x hx => by simp at hx) h
 | x :: l, h1, h2, r => by
  have e : encL (x :: l) ++ r = encA x ++ (encL l ++ r) := by simp [encL, List.append_assoc]
  rw [e, List.length_cons, rdSt_in]
  by_cases hx : x.data.length ≤ 200
  ·rw [(bk_val (h1 x (by simp)) hx _).1]
   refine bk_listlong (fun y hy => h1 y (by simp [hy])) (fun h => h2 fun y hy => ?_) r
   rcases List.mem_cons.1 hy with rfl | hy
   ·exact hx
   ·exact h y hy
  ·rw [bk_valong (h1 x (by simp)) (by omega), er_st (by simp)]
   simp
theorem bk_vec {f : Nat → Int} (hr : ∀ j, j < 8 → -9223372036854775808 ≤ f j ∧ f j ≤ 9223372036854775807) : ∀ n, n ≤ 8 → ∀ r, rdV (encV f n ++ r, 0) n = (r, 0)
 | 0, _, _ => rfl
 | n + 1, hn, r => by
  show (intS (rdV (encV f n ++ numB (zig (f n)) ++ r, 0) n)).2 = _
  rw [List.append_assoc, bk_vec hr n (by omega), bk_int (hr n (by omega)).1 (hr n (by omega)).2]
theorem bk_vecF {f : Nat → Int} (hr : ∀ j, j < 8 → -9223372036854775808 ≤ f j ∧ f j ≤ 9223372036854775807) {j : Nat} (hj : j < 8) (r : List Nat) : rdF (encV f 8 ++ r, 0) j = f j := by
 have key : ∀ d r, j + 1 + d ≤ 8 → rdF (encV f (j + 1 + d) ++ r, 0) j = f j := by
  intro d
  induction d with
  | zero =>
   intro r _
   unfold rdF
   show (intS (rdV (encV f j ++ numB (zig (f j)) ++ r, 0) j)).1 = _
   rw [List.append_assoc, bk_vec hr j (by omega), bk_int (hr j hj).1 (hr j hj).2]
  | succ d ih =>
   intro r h
   show rdF (encV f (j + 1 + d) ++ numB (zig (f (j + 1 + d))) ++ r, 0) j = _
   rw [List.append_assoc]
   exact ih _ (by omega)
 have := key (7 - j) r (by omega)
 rwa [show j + 1 + (7 - j) = 8 by omega] at this
theorem mayB_congr {f g : Nat → Int} (h : ∀ j, j < 8 → f j = g j) : mayB f = mayB g := by
 unfold mayB
 exact decide_eq_decide.2 ⟨fun k j hj => by rw [← h j hj]; exact k j hj, fun k j hj => by rw [h j hj]; exact k j hj⟩
theorem may_cov {f g : Nat → Int} {l : List A} (h : ∀ j, j < 8 → f j = g j) (m : MayP f l) : MayP g l := by
 refine ⟨fun j hj => by rw [← h j hj]; exact m.seen j hj, m.few, m.less, fun x hx => ⟨?_, (m.cov x hx).2⟩⟩
 have := (m.cov x hx).1
 rw [cov_iff] at this ⊢
 rw [← h _ (by omega)]
 exact this
theorem mayS_congr {f g : Nat → Int} {l : List A} (h : ∀ j, j < 8 → f j = g j) : mayS f l = mayS g l := by
 by_cases m : MayP f l
 ·rw [may_yes m, may_yes (may_cov h m)]
 ·rw [may_no m, may_no (fun k => m (may_cov (fun j hj => (h j hj).symm) k))]
theorem bk_sr {f : Nat → Int} {l : List A} (hr : ∀ j, j < 8 → -9223372036854775808 ≤ f j ∧ f j ≤ 9223372036854775807) (hl : ∀ x ∈ l, Rng x) (hn : l.length ≤ 140737488355328) (s : RS) (hs : s = (encV f 8 ++ (numB l.length ++ encL l), 0)) :
  srB nodeP s = mayS f l ∧ (mayS f l = true → (∀ j, j < 8 → srF nodeP s j = f j) ∧ srL nodeP s = l ∧ srS s = ([], 0)) := by
 have hv : rdV s 8 = (numB l.length ++ encL l, 0) := by rw [hs]; exact bk_vec hr 8 (by omega) _
 have hF : ∀ j, j < 8 → rdF s j = f j := fun j hj => by rw [hs]; exact bk_vecF hr hj _
 have hB : readB s = mayB f := by
  unfold readB
  rw [hv, mayB_congr hF]
  simp
 by_cases hm : MayP f l
 ·have hB' : readB s = true := by
   rw [hB]
   simpa [mayB] using hm.seen
  have hR : readF s = rdF s := by unfold readF; rw [if_pos hB']
  have hc : countS 16 (rdV s 8) = (l.length, (encL l, 0)) := by rw [hv]; exact bk_count (by omega) _ hm.few
  have hd : ∀ x ∈ l, x.data.length ≤ 200 := fun x hx => by
   have := (hm.cov x hx).2
   unfold okData at this
   split at this <;> (have := of_decide_eq_true this; omega)
  obtain ⟨l1, l2⟩ := bk_list hl hd []
  rw [List.append_nil] at l1 l2
  have hV : srV nodeP s = l := by unfold srV; rw [hc]; exact l2
  have hS : srS s = ([], 0) := by unfold srS; rw [hc]; exact l1
  have h3 : mayS (readF s) (srV nodeP s) = true := by rw [hR, hV, mayS_congr hF]; exact may_yes hm
  obtain ⟨y1, y2, y3⟩ := sr_yes (nd := nodeP) hB' (by rw [hS]; rfl) h3
  rw [may_yes hm]
  refine ⟨y1, fun _ => ⟨fun j hj => by rw [← y2, hR]; exact hF j hj, by rw [← y3]; exact hV, hS⟩⟩
 ·rw [may_no hm]
  refine ⟨?_, fun h => by cases h⟩
  by_cases hs1 : mayB f = true
  ·have hB' : readB s = true := by rw [hB]; exact hs1
   have hR : readF s = rdF s := by unfold readF; rw [if_pos hB']
   by_cases h16 : l.length ≤ 16
   ·have hc : countS 16 (rdV s 8) = (l.length, (encL l, 0)) := by rw [hv]; exact bk_count (by omega) _ h16
    by_cases hd : ∀ x ∈ l, x.data.length ≤ 200
    ·obtain ⟨l1, l2⟩ := bk_list hl hd []
     rw [List.append_nil] at l1 l2
     have hV : srV nodeP s = l := by unfold srV; rw [hc]; exact l2
     exact (sr_no (.inr (.inr (by rw [hR, hV, mayS_congr hF]; exact may_no hm)))).1
    ·have l1 := bk_listlong hl hd []
     rw [List.append_nil] at l1
     refine (sr_no (.inr (.inl ?_))).1
     unfold srS
     rw [hc]
     simpa using l1
   ·have hc : countS 16 (rdV s 8) = (0, ([], 4)) := by rw [hv]; exact bk_over (by omega) _ (by omega)
    refine (sr_no (.inr (.inl ?_))).1
    unfold srS
    rw [hc]
    rfl
  ·refine (sr_no (.inl ?_)).1
   rw [hB]
   simpa using hs1
theorem strOf_key (key : ByteArray) : strOf (keyL key) = key := by
 have h : (strOf (keyL key)).data = key.data := by
  apply Array.toList_inj.1
  simp [strOf, strOfNums, keyL, Function.comp_def]
 cases hk : strOf (keyL key)
 cases key
 rw [hk] at h
 simp only at h
 rw [h]
theorem bk_re {key : ByteArray} {f : Nat → Int} {l : List A} (hks : key.size ≤ 140737488351232) (hr : ∀ j, j < 8 → -9223372036854775808 ≤ f j ∧ f j ≤ 9223372036854775807) (hl : ∀ x ∈ l, Rng x) (hn : l.length ≤ 140737488355328) :
  reB nodeP (encE (keyL key) f l, 0) = (keyB key && mayS f l) ∧ (reB nodeP (encE (keyL key) f l, 0) = true → reKey nodeP (encE (keyL key) f l, 0) = key ∧ sameS (reF nodeP (encE (keyL key) f l, 0)) f (reL nodeP (encE (keyL key) f l, 0)) l = true ∧ endS (reS (encE (keyL key) f l, 0)) = 0) := by
 obtain ⟨s, hs⟩ : ∃ s : RS, s = (encE (keyL key) f l, 0) := ⟨_, rfl⟩
 rw [← hs]
 have hk := keyL_len key
 have es : s = (numB (keyL key).length ++ (keyL key ++ (encV f 8 ++ (numB l.length ++ encL l))), 0) := by rw [hs]; simp [encE, List.append_assoc]
 by_cases h32 : key.size ≤ 32
 ·have ht : textS 32 s = (keyL key, (encV f 8 ++ (numB l.length ++ encL l), 0)) := by rw [es]; exact bk_text _ _ (by omega) (by omega)
  have hK : reK s = key := by unfold reK; rw [ht]; exact strOf_key key
  have hT : reT s = (encV f 8 ++ (numB l.length ++ encL l), 0) := by unfold reT; rw [ht]
  obtain ⟨b1, b2⟩ := bk_sr hr hl hn (reT s) hT
  have e : reB nodeP s = (keyB key && mayS f l) := by
   unfold reB
   rw [b1, hK]
   cases hm : mayS f l
   ·simp
   ·obtain ⟨c1, c2, c3⟩ := b2 hm
    rw [c2, mayS_congr c1, hm]
    simp
  refine ⟨e, fun h => ?_⟩
  have hm : mayS f l = true := by rw [e] at h; simp only [Bool.and_eq_true] at h; exact h.2
  obtain ⟨c1, c2, c3⟩ := b2 hm
  obtain ⟨y1, y2, y3⟩ := re_yes h
  refine ⟨by rw [← y1]; exact hK, ?_, ?_⟩
  ·rw [← y2, ← y3, c2]
   exact same_iff.2 ⟨c1, rfl⟩
  ·unfold reS
   rw [c3]
   rfl
 ·have ht : textS 32 s = ([], ([], 4)) := by rw [es]; exact bk_long _ _ (by omega) (by omega)
  have hT : reT s = ([], 4) := by unfold reT; rw [ht]
  have e : srB nodeP (reT s) = false := by
   refine (sr_no (.inr (.inl ?_))).1
   rw [hT, er_sr (by simp)]
   rfl
  have e2 : reB nodeP s = false := by unfold reB; rw [e]; rfl
  rw [e2]
  refine ⟨?_, fun h => by cases h⟩
  have : keyB key = false := by unfold keyB; simp [h32]
  rw [this]; rfl
theorem encV_lt (f : Nat → Int) : ∀ n, ∀ x ∈ encV f n, x < 256
 | 0, x, hx => by simp [encV] at hx
 | n + 1, x, hx => by
  rcases List.mem_append.1 hx with h | h
  ·exact encV_lt f n x h
  ·exact numB_lt _ _ h
theorem encA_lt {x : A} (hx : Rng x) : ∀ y ∈ encA x, y < 256 := by
 intro y hy
 unfold encA at hy
 simp only [List.mem_append, List.mem_cons] at hy
 rcases hy with h | h | h | h | h
 ·exact numB_lt _ _ h
 ·exact numB_lt _ _ h
 ·subst h; split <;> omega
 ·exact numB_lt _ _ h
 ·exact hx.lt y h
theorem encL_lt : ∀ {l : List A}, (∀ x ∈ l, Rng x) → ∀ y ∈ encL l, y < 256
 | [], _, y, hy => by simp [encL] at hy
 | x :: l, h, y, hy => by
  rcases List.mem_append.1 hy with k | k
  ·exact encA_lt (h x (by simp)) y k
  ·exact encL_lt (fun z hz => h z (by simp [hz])) y k
theorem keyL_lt (key : ByteArray) : ∀ x ∈ keyL key, x < 256 := by
 intro x hx
 simp only [keyL, List.mem_map] at hx
 obtain ⟨u, -, rfl⟩ := hx
 exact u.toNat_lt
theorem encE_lt {key : ByteArray} {f : Nat → Int} {l : List A} (hl : ∀ x ∈ l, Rng x) : ∀ y ∈ encE (keyL key) f l, y < 256 := by
 intro y hy
 unfold encE at hy
 simp only [List.mem_append] at hy
 rcases hy with (h | h) | h | h | h
 ·exact numB_lt _ _ h
 ·exact keyL_lt key y h
 ·exact encV_lt f 8 y h
 ·exact numB_lt _ _ h
 ·exact encL_lt hl y h
end Go.Proofs.YthjbnpaghiojlaaGreat

namespace Go.Proofs.YthjbnpaghiojlaaGreat
theorem len_aside (p q : A → Bool) (xs ys : List A) (hne : ∀ x ∈ xs, ∀ y ∈ ys, ¬ EQ x y) : (mergeA p q xs ys).length = (xs.filter p).length + (ys.filter q).length := by
 induction xs, ys using mergeA_ind with
 | case1 ys =>
  rw [mergeA_nil _ _ _ _ (.inl rfl)]
  simp
 | case2 x xs =>
  rw [mergeA_nil _ _ _ _ (.inr rfl)]
  simp
 | case3 x xs y ys h ih =>
  rw [mergeA_lt _ _ _ _ h, List.length_append, ih (fun x' hx' => hne x' (by simp [hx']))]
  unfold keep
  cases hp : p x <;> simp [hp] <;> omega
 | case4 x xs y ys h h' ih =>
  rw [mergeA_gt _ _ _ _ (by simpa using h) h', List.length_append, ih (fun x' hx' y' hy' => hne x' hx' y' (by simp [hy']))]
  unfold keep
  cases hq : q y <;> simp [hq] <;> omega
 | case5 x xs y ys h h' ih =>
  exfalso
  have h1 := not_less.1 (by simpa using h)
  have h2 := not_less.1 (by simpa using h')
  refine hne x (by simp) y (by simp) ?_
  unfold LT at h1 h2
  unfold EQ
  omega
theorem put_tells {f g : Nat → Int} {l : List A} {node : Int} {data : List Nat} {dead : Bool} (h1 : MayP f l) (h : putE f g l node data dead = 0) :
  ∃ n : A, n.node = node ∧ n.data = data ∧ n.dead = dead ∧ coversB f n.node n.num = false ∧ coversB g n.node n.num = false ∧ (∀ x ∈ l, ¬ EQ x n) ∧ MayP (putV f g l node data dead) (putL f g l node data dead) ∧ (∀ j, j < 8 → f j ≤ putV f g l node data dead j) ∧ (∀ j, j < 8 → g j ≤ putV f g l node data dead j) ∧
   (∀ z, z ∈ putL f g l node data dead ↔ z = n ∨ z ∈ l ∧ coversB g z.node z.num = false) ∧ (putL f g l node data dead).length = (l.filter (nc g)).length + 1 := by
 have hE := h
 cases hb : mayB g
 ·simp [putE, may_yes h1, hb] at h
 have hs : ∀ j, j < 8 → 0 ≤ g j ∧ g j ≤ 1099511627776 := by simpa only [mayB, decide_eq_true_eq] using hb
 cases hok : okData data.length dead
 ·simp [putE, may_yes h1, hb, hok] at h
 rcases hx : nextV (maxV f g) node with ⟨n, N, er⟩
 by_cases her : er = 0
 ·subst her
  have hr : putR f g l node data dead = mergeA (nc g) (nc (maxV f g)) l [⟨n, N, data, dead⟩] := by simp only [putR, putN, hx]
  have hlen : (mergeA (nc g) (nc (maxV f g)) l [⟨n, N, data, dead⟩]).length ≤ 16 := by
   rw [← hr]
   by_cases hl : 16 < (putR f g l node data dead).length
   ·simp [putE, may_yes h1, hb, hok, hx, hl] at h
   ·omega
  have hnew := not_cov_next hx
  have hnf : coversB f n N = false := by
   cases hc : coversB f n N
   ·rfl
   ·have : coversB (maxV f g) n N = true := cov_max.2 (.inl hc)
    rw [hnew] at this
    cases this
  have hng : coversB g n N = false := by
   cases hc : coversB g n N
   ·rfl
   ·have : coversB (maxV f g) n N = true := cov_max.2 (.inr hc)
    rw [hnew] at this
    cases this
  have hne : ∀ x ∈ l, ¬ EQ x (⟨n, N, data, dead⟩ : A) := fun x hx e => by
   have := cov_dot e (h1.cov x hx).1
   simp only [hnf] at this
   cases this
  have hm := may_put (p := nc g) (q := nc (maxV f g)) (dead := dead) h1 hs hx hok hlen
  have hv : putV f g l node data dead = withV (maxV f g) n N := by simp only [putV, hE, if_true, hx]
  have hl : putL f g l node data dead = mergeA (nc g) (nc (maxV f g)) l [⟨n, N, data, dead⟩] := by simp only [putL, hE, if_true, hr]
  have hq : nc (maxV f g) (⟨n, N, data, dead⟩ : A) = true := by simp [nc, hnew]
  refine ⟨⟨n, N, data, dead⟩, (next_ok hx).2.1, rfl, rfl, hnf, hng, hne, by rw [hv, hl]; exact hm, fun j hj => ?_, fun j hj => ?_, fun z => ?_, ?_⟩
  ·rw [hv]
   have := with_le (f := maxV f g) (n := n) (N := N) j hj
   have h3 : f j ≤ maxV f g j := by simp only [maxV]; omega
   omega
  ·rw [hv]
   have := with_le (f := maxV f g) (n := n) (N := N) j hj
   have h3 : g j ≤ maxV f g j := by simp only [maxV]; omega
   omega
  ·have hs1 : Srt [(⟨n, N, data, dead⟩ : A)] := by simp [Srt]
   rw [hl, mem_merge _ _ _ _ (may_srt h1) hs1]
   constructor
   ·rintro (⟨x, hx, y, hy, e, -⟩ | ⟨hz, hp, -⟩ | ⟨hz, -, -⟩)
    ·simp only [List.mem_singleton] at hy
     subst hy
     exact (hne x hx e).elim
    ·exact .inr ⟨hz, by simpa [nc] using hp⟩
    ·exact .inl (by simpa using hz)
   ·rintro (rfl | ⟨hz, hc⟩)
    ·exact .inr (.inr ⟨by simp, hq, hne⟩)
    ·exact .inr (.inl ⟨hz, by simp [nc, hc], fun y hy => by
      simp only [List.mem_singleton] at hy
      subst hy
      exact hne z hz⟩)
  ·rw [hl, len_aside _ _ _ _ (fun x hx y hy => by
    simp only [List.mem_singleton] at hy
    subst hy
    exact hne x hx)]
   simp [hq]
 ·exfalso
  simp [putE, may_yes h1, hb, hok, hx, her] at h
theorem put_leq {f u : Nat → Int} {l k : List A} {n : A} {g : Nat → Int} (h1 : MayP f l) (hu : MayP u k) (hle : ∀ j, j < 8 → f j ≤ u j) (hn : coversB f n.node n.num = false) (hne : ∀ x ∈ l, ¬ EQ x n) (hk : ∀ z, z ∈ k ↔ z = n ∨ z ∈ l ∧ coversB g z.node z.num = false) : leqS f u l k = true := by
 have hs := may_srt h1
 have uniq : ∀ x ∈ l, ∀ y ∈ l, EQ x y → x = y := by
  intro x hx y hy e
  obtain ⟨i, hi, rfl⟩ := List.getElem_of_mem hx
  obtain ⟨j, hj, rfl⟩ := List.getElem_of_mem hy
  unfold Srt at hs
  rw [List.pairwise_iff_getElem] at hs
  rcases Nat.lt_trichotomy i j with h | h | h
  ·exact ((hs i j hi hj h).ne e).elim
  ·subst h
   rfl
  ·exact ((hs j i hj hi h).ne' e).elim
 refine leq_iff.2 ⟨h1, hu, hle, ?_⟩
 have e : mergeA (nc u) (nc f) l k = k := by
  refine srt_ext (srt_merge _ _ _ _ hs (may_srt hu)) (may_srt hu) (fun z => ?_)
  rw [mem_merge _ _ _ _ hs (may_srt hu)]
  constructor
  ·rintro (⟨x, hx, y, hy, e, he⟩ | ⟨hz, hp, -⟩ | ⟨hz, -, -⟩)
   ·rcases (hk y).1 hy with rfl | ⟨hy2, -⟩
    ·exact (hne x hx e).elim
    ·obtain rfl := uniq x hx y hy2 e
     rw [he, first_self]
     exact hy
   ·rw [nc_iff] at hp
    exact (hp (cov_mono hle (h1.cov z hz).1)).elim
   ·exact hz
  ·intro hz
   rcases (hk z).1 hz with rfl | ⟨hz2, -⟩
   ·exact .inr (.inr ⟨hz, by simp [nc, hn], hne⟩)
   ·exact .inl ⟨z, hz2, z, hz, ⟨rfl, rfl⟩, (first_self z).symm⟩
 rw [e]
 exact take_may hu
theorem put_join {f g : Nat → Int} {l : List A} {node : Int} {data : List Nat} {dead : Bool} (hf : Nrm f) (h1 : MayP f l) (hp : Nrm (putV f g l node data dead)) (h : putE f g l node data dead = 0) :
  joinV f (putV f g l node data dead) l (putL f g l node data dead) = putV f g l node data dead ∧ joinL f (putV f g l node data dead) l (putL f g l node data dead) = putL f g l node data dead := by
 obtain ⟨n, -, -, -, c1, -, c2, c3, c4, -, c6, -⟩ := put_tells h1 h
 have hl := put_leq h1 c3 c4 c1 c2 c6
 rw [leq_yes (may_yes h1) (may_yes c3)] at hl
 exact same_eq (nrm_join hf hp _ _) hp hl
theorem nrm_put {f g : Nat → Int} {l : List A} {node : Int} {data : List Nat} {dead : Bool} (hf : Nrm f) (hg : Nrm g) : Nrm (putV f g l node data dead) := by
 intro j hj
 unfold putV
 split
 ·unfold withV
  split
  ·rename_i hn
   have hb : (nextV (maxV f g) node).1.toNat < 8 := by
    simp only [nodeB, decide_eq_true_eq] at hn
    omega
   simp only [upd]
   rw [if_neg (by omega)]
   simp [maxV, hf j hj, hg j hj]
  ·simp [maxV, hf j hj, hg j hj]
 ·rfl
theorem nrm_reap {f : Nat → Int} (hf : Nrm f) (l : List A) : Nrm (reapV f l) := by
 unfold reapV
 split
 ·exact hf
 ·exact nrm_zer
theorem nrm_self {f : Nat → Int} (hf : Nrm f) : nrm f = f := by
 funext j
 unfold nrm
 split
 ·rfl
 ·exact (hf j (by omega)).symm
theorem nrm_eq {f g : Nat → Int} (h : ∀ j, j < 8 → f j = g j) : nrm f = nrm g := by
 funext j
 unfold nrm
 split
 ·exact h j (by assumption)
 ·rfl
structure RD where
 kind : Nat
 node : Int
 k : K
abbrev PS := List K × List HK
def doR (s : PS) (r : RD) : Option PS :=
 if r.kind = 1 then (if (joinR s.1 r.k.key r.k.f r.k.l).er = 0 then some ((joinR s.1 r.k.key r.k.f r.k.l).x, s.2) else none)
 else if r.kind = 2 then (if (hpR s.2 ⟨r.node, r.k⟩).er = 0 then some (s.1, (hpR s.2 ⟨r.node, r.k⟩).x) else none)
 else if r.kind = 3 then some (s.1, delG HK.nk (r.node, r.k.key) s.2)
 else some (reapT s.1 r.k.key, s.2)
def enc (r : RD) : List Nat :=
 numB r.kind ++ (if r.kind = 1 then encE (keyL r.k.key) r.k.f r.k.l
  else if r.kind = 2 then numB (u64N r.node) ++ encE (keyL r.k.key) r.k.f r.k.l
  else if r.kind = 3 then numB (u64N r.node) ++ (numB (keyL r.k.key).length ++ keyL r.k.key)
  else numB (keyL r.k.key).length ++ keyL r.k.key)
def rdK (s : RS) : K := ⟨reKey nodeP s, nrm (reF nodeP s), reL nodeP s⟩
def keyK (t : List Nat) : K := ⟨strOf t, zer, []⟩
def prs (bs : List Nat) : Option RD :=
 if (numS (bs, 0)).1 = 1 then (if reB nodeP (numS (bs, 0)).2 = true ∧ endS (reS (numS (bs, 0)).2) = 0 then some ⟨1, 0, rdK (numS (bs, 0)).2⟩ else none)
 else if (numS (bs, 0)).1 = 2 then (if reB nodeP (countS 7 (numS (bs, 0)).2).2 = true ∧ endS (reS (countS 7 (numS (bs, 0)).2).2) = 0 then some ⟨2, ((countS 7 (numS (bs, 0)).2).1 : Nat), rdK (countS 7 (numS (bs, 0)).2).2⟩ else none)
 else if (numS (bs, 0)).1 = 3 then (if keyB (strOf (textS 32 (countS 7 (numS (bs, 0)).2).2).1) = true ∧ endS (textS 32 (countS 7 (numS (bs, 0)).2).2).2 = 0 then some ⟨3, ((countS 7 (numS (bs, 0)).2).1 : Nat), keyK (textS 32 (countS 7 (numS (bs, 0)).2).2).1⟩ else none)
 else if (numS (bs, 0)).1 = 4 then (if keyB (strOf (textS 32 (numS (bs, 0)).2).1) = true ∧ endS (textS 32 (numS (bs, 0)).2).2 = 0 then some ⟨4, 0, keyK (textS 32 (numS (bs, 0)).2).1⟩ else none)
 else none
def stepR (s : PS) (b : List Nat) : Option PS := (prs b).bind (doR s)
def runR : PS → List (List Nat) → Option PS
 | s, [] => some s
 | s, b :: rs => (stepR s b).bind fun s' => runR s' rs
theorem runR_append : ∀ (s : PS) (a b : List (List Nat)), runR s (a ++ b) = (runR s a).bind fun s' => runR s' b
 | s, [], b => rfl
 | s, x :: a, b => by
  simp only [List.cons_append, runR]
  cases stepR s x with
  | none => rfl
  | some s' => simp only [Option.bind_some]; exact runR_append s' a b
theorem runR_snoc {s s' s'' : PS} {a : List (List Nat)} {b : List Nat} (h : runR s a = some s') (k : stepR s' b = some s'') : runR s (a ++ [b]) = some s'' := by
 rw [runR_append, h]
 simp only [Option.bind_some, runR, k]
structure OkK (k : K) : Prop where
 key : keyB k.key = true
 may : MayP k.f k.l
 nrm : Nrm k.f
 rng : ∀ x ∈ k.l, Rng x
structure OkR (r : RD) : Prop where
 is : (r.kind = 1 ∧ r.node = 0 ∧ OkK r.k) ∨ (r.kind = 2 ∧ nodeOk r.node = true ∧ OkK r.k) ∨ (r.kind = 3 ∧ nodeOk r.node = true ∧ keyB r.k.key = true ∧ r.k.f = zer ∧ r.k.l = []) ∨ (r.kind = 4 ∧ r.node = 0 ∧ keyB r.k.key = true ∧ r.k.f = zer ∧ r.k.l = [])
theorem key_size {s : ByteArray} (h : keyB s = true) : 1 ≤ s.size ∧ s.size ≤ 32 := by
 simpa only [keyB, Bool.and_eq_true, decide_eq_true_eq] using h
theorem OkK.sees {k : K} (h : OkK k) : ∀ j, j < 8 → -9223372036854775808 ≤ k.f j ∧ k.f j ≤ 9223372036854775807 := fun j hj => by
 have := h.may.seen j hj
 omega
theorem OkK.back {k : K} (h : OkK k) : reB nodeP (encE (keyL k.key) k.f k.l, 0) = true ∧ endS (reS (encE (keyL k.key) k.f k.l, 0)) = 0 ∧ rdK (encE (keyL k.key) k.f k.l, 0) = k := by
 have hk := key_size h.key
 obtain ⟨b1, b2⟩ := bk_re (key := k.key) (f := k.f) (l := k.l) (by omega) h.sees h.rng (by have := h.may.few; omega)
 have e : reB nodeP (encE (keyL k.key) k.f k.l, 0) = true := by rw [b1, h.key, may_yes h.may]; rfl
 obtain ⟨c1, c2, c3⟩ := b2 e
 obtain ⟨d1, d2⟩ := same_iff.1 c2
 refine ⟨e, c3, ?_⟩
 obtain ⟨key, f, l⟩ := k
 unfold rdK
 simp only at c1 d1 d2 ⊢
 rw [c1, d2, nrm_eq d1, nrm_self h.nrm]
theorem back_text {key : ByteArray} (h : keyB key = true) (l : List Nat) : textS 32 (numB (keyL key).length ++ (keyL key ++ l), 0) = (keyL key, (l, 0)) := by
 have hk := key_size h
 have hl := keyL_len key
 exact bk_text _ _ (by omega) (by omega)
theorem node_nat {n : Int} (h : nodeOk n = true) : u64N n = n.toNat ∧ n.toNat ≤ 7 ∧ ((n.toNat : Nat) : Int) = n := by
 simp only [nodeOk, Bool.and_eq_true, decide_eq_true_eq] at h
 unfold u64N
 omega
theorem prs_enc {r : RD} (h : OkR r) : prs (enc r) = some r := by
 obtain ⟨kind, node, k⟩ := r
 rcases h.is with ⟨e, hn, hk⟩ | ⟨e, hn, hk⟩ | ⟨e, hn, hk, hf, hl⟩ | ⟨e, hn, hk, hf, hl⟩ <;> simp only at e hn hk <;> subst e
 ·obtain ⟨b1, b2, b3⟩ := hk.back
  have en : enc ⟨1, node, k⟩ = numB 1 ++ encE (keyL k.key) k.f k.l := rfl
  have e1 : numS (enc ⟨1, node, k⟩, 0) = (1, (encE (keyL k.key) k.f k.l, 0)) := by rw [en]; exact bk_num (by decide) _
  unfold prs
  rw [e1]
  simp only [if_true, b1, b2, and_self, b3, hn]
 ·obtain ⟨b1, b2, b3⟩ := hk.back
  obtain ⟨n1, n2, n3⟩ := node_nat hn
  have en : enc ⟨2, node, k⟩ = numB 2 ++ (numB (u64N node) ++ encE (keyL k.key) k.f k.l) := rfl
  have e1 : numS (enc ⟨2, node, k⟩, 0) = (2, (numB (u64N node) ++ encE (keyL k.key) k.f k.l, 0)) := by rw [en]; exact bk_num (by decide) _
  have e2 : countS 7 (numB (u64N node) ++ encE (keyL k.key) k.f k.l, 0) = (node.toNat, (encE (keyL k.key) k.f k.l, 0)) := by rw [n1]; exact bk_count (by omega) _ n2
  unfold prs
  rw [e1]
  simp only [e2, b1, b2, and_self, b3, n3, if_true]
  rfl
 ·obtain ⟨n1, n2, n3⟩ := node_nat hn
  obtain ⟨key, f, l⟩ := k
  simp only at hk hf hl
  subst hf hl
  have en : enc ⟨3, node, ⟨key, zer, []⟩⟩ = numB 3 ++ (numB (u64N node) ++ (numB (keyL key).length ++ (keyL key ++ []))) := by rw [List.append_nil]; rfl
  have e1 : numS (enc ⟨3, node, ⟨key, zer, []⟩⟩, 0) = (3, (numB (u64N node) ++ (numB (keyL key).length ++ (keyL key ++ [])), 0)) := by rw [en]; exact bk_num (by decide) _
  have e2 : countS 7 (numB (u64N node) ++ (numB (keyL key).length ++ (keyL key ++ [])), 0) = (node.toNat, (numB (keyL key).length ++ (keyL key ++ []), 0)) := by rw [n1]; exact bk_count (by omega) _ n2
  have e3 := back_text hk []
  have e4 : strOf (keyL key) = key := strOf_key key
  unfold prs
  rw [e1]
  simp only [e2, e3, e4, hk, n3, keyK]
  simp [endS]
 ·obtain ⟨key, f, l⟩ := k
  simp only at hk hf hl hn
  subst hf hl hn
  have en : enc ⟨4, 0, ⟨key, zer, []⟩⟩ = numB 4 ++ (numB (keyL key).length ++ (keyL key ++ [])) := by rw [List.append_nil]; rfl
  have e1 : numS (enc ⟨4, 0, ⟨key, zer, []⟩⟩, 0) = (4, (numB (keyL key).length ++ (keyL key ++ []), 0)) := by rw [en]; exact bk_num (by decide) _
  have e3 := back_text hk []
  have e4 : strOf (keyL key) = key := strOf_key key
  unfold prs
  rw [e1]
  simp only [e3, e4, hk, keyK]
  simp [endS]
theorem encV_len {f : Nat → Int} (hr : ∀ j, j < 8 → -9223372036854775808 ≤ f j ∧ f j ≤ 9223372036854775807) : ∀ n, n ≤ 8 → (encV f n).length ≤ n * 10
 | 0, _ => by simp [encV]
 | n + 1, h => by
  have h1 := encV_len hr n (by omega)
  have h2 := numB_ten (zig_lt (hr n (by omega)).1 (hr n (by omega)).2)
  simp only [encV, List.length_append]
  omega
theorem encA_len {x : A} (hx : Rng x) (h : x.data.length ≤ 200) : (encA x).length ≤ 231 := by
 have h1 := numB_ten (u64N_lt x.node)
 have h2 := numB_ten (zig_lt hx.m0 hx.m1)
 have h3 := numB_ten (n := x.data.length) (by omega)
 simp only [encA, List.length_append, List.length_cons]
 omega
theorem encL_len : ∀ {l : List A}, (∀ x ∈ l, Rng x) → (∀ x ∈ l, x.data.length ≤ 200) → (encL l).length ≤ l.length * 231
 | [], _, _ => by simp [encL]
 | x :: l, h1, h2 => by
  have a := encA_len (h1 x (by simp)) (h2 x (by simp))
  have b := encL_len (l := l) (fun y hy => h1 y (by simp [hy])) (fun y hy => h2 y (by simp [hy]))
  simp only [encL, List.length_append, List.length_cons, Nat.succ_mul]
  omega
theorem OkK.data {k : K} (h : OkK k) : ∀ x ∈ k.l, x.data.length ≤ 200 := fun x hx => by
 have := (h.may.cov x hx).2
 unfold okData at this
 split at this <;> (have := of_decide_eq_true this; omega)
theorem OkK.len {k : K} (h : OkK k) : (encE (keyL k.key) k.f k.l).length ≤ 3900 := by
 have h1 := encV_len h.sees 8 (by omega)
 have h2 := encL_len h.rng h.data
 have h3 := h.may.few
 have h4 := key_size h.key
 have h5 := keyL_len k.key
 have h6 := numB_ten (n := (keyL k.key).length) (by omega)
 have h7 := numB_ten (n := k.l.length) (by omega)
 have h8 : k.l.length * 231 ≤ 16 * 231 := Nat.mul_le_mul_right _ h3
 simp only [encE, List.length_append]
 omega
theorem enc_len {r : RD} (h : OkR r) : (enc r).length ≤ 4000 := by
 obtain ⟨kind, node, k⟩ := r
 have hu := numB_ten (u64N_lt node)
 rcases h.is with ⟨e, hn, hk⟩ | ⟨e, hn, hk⟩ | ⟨e, hn, hk, hf, hl⟩ | ⟨e, hn, hk, hf, hl⟩ <;> simp only at e hn hk <;> subst e
 ·have := hk.len
  have h1 := numB_ten (n := 1) (by omega)
  have en : enc ⟨1, node, k⟩ = numB 1 ++ encE (keyL k.key) k.f k.l := rfl
  rw [en, List.length_append]
  omega
 ·have := hk.len
  have h1 := numB_ten (n := 2) (by omega)
  have en : enc ⟨2, node, k⟩ = numB 2 ++ (numB (u64N node) ++ encE (keyL k.key) k.f k.l) := rfl
  rw [en, List.length_append, List.length_append]
  omega
 ·have h4 := key_size hk
  have h5 := keyL_len k.key
  have h6 := numB_ten (n := (keyL k.key).length) (by omega)
  have h1 := numB_ten (n := 3) (by omega)
  have en : enc ⟨3, node, k⟩ = numB 3 ++ (numB (u64N node) ++ (numB (keyL k.key).length ++ keyL k.key)) := rfl
  rw [en, List.length_append, List.length_append, List.length_append]
  omega
 ·have h4 := key_size hk
  have h5 := keyL_len k.key
  have h6 := numB_ten (n := (keyL k.key).length) (by omega)
  have h1 := numB_ten (n := 4) (by omega)
  have en : enc ⟨4, node, k⟩ = numB 4 ++ (numB (keyL k.key).length ++ keyL k.key) := rfl
  rw [en, List.length_append, List.length_append]
  omega
theorem enc_lt {r : RD} (h : OkR r) : ∀ x ∈ enc r, x < 256 := by
 obtain ⟨kind, node, k⟩ := r
 intro x hx
 unfold enc at hx
 rcases List.mem_append.1 hx with hx | hx
 ·exact numB_lt _ _ hx
 rcases h.is with ⟨e, hn, hk⟩ | ⟨e, hn, hk⟩ | ⟨e, hn, hk, hf, hl⟩ | ⟨e, hn, hk, hf, hl⟩ <;> simp only at e hn hk <;> subst e
 ·exact encE_lt hk.rng x hx
 ·rcases List.mem_append.1 (show x ∈ numB (u64N node) ++ encE (keyL k.key) k.f k.l from hx) with hx | hx
  ·exact numB_lt _ _ hx
  ·exact encE_lt hk.rng x hx
 ·have hx : x ∈ numB (u64N node) ++ (numB (keyL k.key).length ++ keyL k.key) := hx
  simp only [List.mem_append] at hx
  rcases hx with hx | hx | hx
  ·exact numB_lt _ _ hx
  ·exact numB_lt _ _ hx
  ·exact keyL_lt _ _ hx
 ·have hx : x ∈ numB (keyL k.key).length ++ keyL k.key := hx
  rcases List.mem_append.1 hx with hx | hx
  ·exact numB_lt _ _ hx
  ·exact keyL_lt _ _ hx
theorem rec_enc {r : RD} (h : OkR r) : Rec (enc r) := ⟨by have := enc_len h; omega, enc_lt h⟩
structure OkP (s : PS) : Prop where
 ok : ∀ x ∈ s.1, OkK x
 sor : Sor K.key s.1
 few : s.1.length ≤ 256
 set : OkS s.2
 rng : ∀ y ∈ s.2, ∀ x ∈ y.k.l, Rng x
theorem OkP.nil : OkP ([], []) := ⟨fun _ h => by simp at h, List.Pairwise.nil, by simp, OkS.nil, fun _ h => by simp at h⟩
theorem OkP.tab {s : PS} (h : OkP s) : OkT s.1 := ⟨fun x hx => (h.ok x hx).may, fun x hx => (h.ok x hx).key⟩
theorem OkP.hint {s : PS} (h : OkP s) {y : HK} (hy : y ∈ s.2) : nodeOk y.node = true ∧ OkK y.k := by
 obtain ⟨a, b, c⟩ := okH_iff.1 (h.set.ok y hy)
 exact ⟨a, b, c, h.set.nrm y hy, h.rng y hy⟩
def recs (s : PS) : List RD := s.1.map (fun k => (⟨1, 0, k⟩ : RD)) ++ s.2.map fun h => (⟨2, h.node, h.k⟩ : RD)
theorem OkP.recs {s : PS} (h : OkP s) : ∀ r ∈ recs s, OkR r := by
 intro r hr
 rcases List.mem_append.1 hr with hr | hr
 ·obtain ⟨x, hx, rfl⟩ := List.mem_map.1 hr
  exact ⟨.inl ⟨rfl, rfl, h.ok x hx⟩⟩
 ·obtain ⟨x, hx, rfl⟩ := List.mem_map.1 hr
  exact ⟨.inr (.inl ⟨rfl, h.hint hx⟩)⟩
theorem recs_len {s : PS} (h : OkP s) : (recs s).length ≤ 320 := by
 have h1 := h.few
 have h2 := h.set.few
 simp only [recs, List.length_append, List.length_map]
 omega
def cmp (s : PS) : List (List Nat) := (recs s).map enc
theorem put_end {X : List K} {x : K} (h : Sor K.key (X ++ [x])) : putG K.key x X = X ++ [x] := by
 have h1 := List.pairwise_append.1 h
 refine sor_ext K.key (sor_putG K.key h1.1) h (fun z => ?_)
 rw [mem_putG K.key, List.mem_append, List.mem_singleton]
 constructor
 ·rintro (h | ⟨h, -⟩)
  ·exact .inr h
  ·exact .inl h
 ·rintro (h | h)
  ·exact .inr ⟨h, blt_ne (h1.2.2 z h x (by simp))⟩
  ·exact .inl h
theorem put_endH {X : List HK} {x : HK} (h : SorH HK.nk (X ++ [x])) : putGH HK.nk x X = X ++ [x] := by
 have h1 := List.pairwise_append.1 h
 refine sor_extH HK.nk (sor_putGH HK.nk h1.1) h (fun z => ?_)
 rw [mem_putGH HK.nk, List.mem_append, List.mem_singleton]
 constructor
 ·rintro (h | ⟨h, -⟩)
  ·exact .inr h
  ·exact .inl h
 ·rintro (h | h)
  ·exact .inr ⟨h, plt_ne (h1.2.2 z h x (by simp))⟩
  ·exact .inl h
theorem run_tab {Y : List HK} : ∀ (b a : List K), (∀ x ∈ a ++ b, OkK x) → Sor K.key (a ++ b) → (a ++ b).length ≤ 256 → runR (a, Y) (b.map fun k => enc ⟨1, 0, k⟩) = some (a ++ b, Y)
 | [], a, _, _, _ => by simp [runR]
 | x :: b, a, h1, h2, h3 => by
  have hx : OkK x := h1 x (by simp)
  have e0 : a ++ x :: b = a ++ [x] ++ b := by simp
  have hs : Sor K.key (a ++ [x]) := by
   rw [e0] at h2
   exact (List.pairwise_append.1 h2).1
  have hnf : fndG K.key x.key a = none := (fnd_none K.key).2 fun y hy => blt_ne ((List.pairwise_append.1 hs).2.2 y hy x (by simp))
  have hlen : ¬ 256 ≤ a.length := by
   simp only [List.length_append, List.length_cons] at h3
   omega
  have hj := joinR_new (X := a) (k := x.key) (f := x.f) (l := x.l) (by rw [hx.key, may_yes hx.may]; rfl) hnf hlen
  obtain ⟨z1, z2⟩ := join_zero hx.may hx.nrm
  rw [z1, z2, put_end hs] at hj
  have hd : doR (a, Y) ⟨1, 0, x⟩ = some (a ++ [x], Y) := by
   unfold doR
   simp only [if_true, hj]
  have hst : stepR (a, Y) (enc ⟨1, 0, x⟩) = some (a ++ [x], Y) := by
   unfold stepR
   rw [prs_enc ⟨.inl ⟨rfl, rfl, hx⟩⟩]
   exact hd
  simp only [List.map_cons, runR, hst, Option.bind_some]
  rw [run_tab b (a ++ [x]) (by rw [← e0]; exact h1) (by rw [← e0]; exact h2) (by rw [← e0]; exact h3), e0]
theorem run_set {X : List K} : ∀ (b a : List HK), (∀ y ∈ a ++ b, nodeOk y.node = true ∧ OkK y.k) → SorH HK.nk (a ++ b) → (a ++ b).length ≤ 64 → runR (X, a) (b.map fun h => enc ⟨2, h.node, h.k⟩) = some (X, a ++ b)
 | [], a, _, _, _ => by simp [runR]
 | y :: b, a, h1, h2, h3 => by
  have hy := h1 y (by simp)
  have e0 : a ++ y :: b = a ++ [y] ++ b := by simp
  have hs : SorH HK.nk (a ++ [y]) := by
   rw [e0] at h2
   exact (List.pairwise_append.1 h2).1
  have hnf : fndGH HK.nk y.nk a = none := (fnd_noneH HK.nk).2 fun z hz => plt_ne ((List.pairwise_append.1 hs).2.2 z hz y (by simp))
  have hlen : ¬ 64 ≤ a.length := by
   simp only [List.length_append, List.length_cons] at h3
   omega
  have hj := hpR_new (X := a) (h := y) (okH_iff.2 ⟨hy.1, hy.2.key, hy.2.may⟩) hnf hlen
  rw [put_endH hs] at hj
  have hd : doR (X, a) ⟨2, y.node, y.k⟩ = some (X, a ++ [y]) := by
   unfold doR
   have e : (⟨y.node, y.k⟩ : HK) = y := rfl
   simp only [e, hj, if_true]
   rfl
  have hst : stepR (X, a) (enc ⟨2, y.node, y.k⟩) = some (X, a ++ [y]) := by
   unfold stepR
   rw [prs_enc ⟨.inr (.inl ⟨rfl, hy⟩)⟩]
   exact hd
  simp only [List.map_cons, runR, hst, Option.bind_some]
  rw [run_set b (a ++ [y]) (by rw [← e0]; exact h1) (by rw [← e0]; exact h2) (by rw [← e0]; exact h3), e0]
theorem run_cmp {s : PS} (h : OkP s) : runR ([], []) (cmp s) = some s := by
 obtain ⟨X, Y⟩ := s
 have e : cmp (X, Y) = (X.map fun k => enc ⟨1, 0, k⟩) ++ Y.map fun h => enc ⟨2, h.node, h.k⟩ := by
  simp [cmp, recs, Function.comp_def]
 rw [e, runR_append, run_tab X [] h.ok h.sor h.few]
 simp only [Option.bind_some, List.nil_append]
 exact run_set Y [] (fun y hy => h.hint hy) h.set.sor h.set.few
theorem OkP.rec_ {s : PS} (h : OkP s) : ∀ r ∈ cmp s, Rec r := fun r hr => by
 obtain ⟨x, hx, rfl⟩ := List.mem_map.1 hr
 exact rec_enc (h.recs x hx)
def layL (most : Nat) (rs : List (List Nat)) (s : PS) (b : List Nat) : List (List Nat) :=
 if (frs rs).length + b.length + 8 ≤ most then rs ++ [b] else if most < (frs (cmp s)).length then rs else if (frs (cmp s)).length + b.length + 8 ≤ most then cmp s ++ [b] else cmp s
def layE (most : Nat) (rs : List (List Nat)) (s : PS) (b : List Nat) : Int :=
 if (frs rs).length + b.length + 8 ≤ most then 0 else if most < (frs (cmp s)).length then 5 else if (frs (cmp s)).length + b.length + 8 ≤ most then 0 else 5
theorem layE_or (most : Nat) (rs : List (List Nat)) (s : PS) (b : List Nat) : layE most rs s b = 0 ∨ layE most rs s b = 5 := by
 unfold layE
 split
 ·exact .inl rfl
 ·split
  ·exact .inr rfl
  ·split
   ·exact .inl rfl
   ·exact .inr rfl
structure Inv (rs : List (List Nat)) (s : PS) : Prop where
 ok : OkP s
 run : runR ([], []) rs = some s
 rec_ : ∀ r ∈ rs, Rec r
theorem Inv.nil : Inv [] ([], []) := ⟨OkP.nil, rfl, fun _ h => by simp at h⟩
theorem Inv.cmp {s : PS} (h : OkP s) : Inv (cmp s) s := ⟨h, run_cmp h, h.rec_⟩
theorem Inv.snoc {rs : List (List Nat)} {s s' : PS} {r : RD} (h : Inv rs s) (hr : OkR r) (hd : doR s r = some s') (ho : OkP s') : Inv (rs ++ [enc r]) s' :=
 ⟨ho, runR_snoc h.run (by unfold stepR; rw [prs_enc hr]; exact hd), fun x hx => by
  rcases List.mem_append.1 hx with hx | hx
  ·exact h.rec_ x hx
  ·rw [List.mem_singleton.1 hx]
   exact rec_enc hr⟩
theorem rng_merge {p q : A → Bool} {l k : List A} (hl : Srt l) (hk : Srt k) (h1 : ∀ x ∈ l, Rng x) (h2 : ∀ x ∈ k, Rng x) : ∀ x ∈ mergeA p q l k, Rng x := fun x hx => by
 rw [mem_merge _ _ _ _ hl hk] at hx
 rcases inM_mem hx with h | h
 ·exact h1 x h
 ·exact h2 x h
theorem rng_join {f g : Nat → Int} {l k : List A} (h1 : ∀ x ∈ l, Rng x) (h2 : ∀ x ∈ k, Rng x) : ∀ x ∈ joinL f g l k, Rng x := fun x hx => by
 unfold joinL at hx
 split at hx
 ·rename_i e
  exact rng_merge (may_srt (may_iff.1 e.1)) (may_srt (may_iff.1 e.2)) h1 h2 x (List.mem_of_mem_take hx)
 ·simp at hx
theorem rng_reap {f : Nat → Int} {l : List A} (h1 : ∀ x ∈ l, Rng x) : ∀ x ∈ reapL f l, Rng x := fun x hx => by
 unfold reapL at hx
 split at hx
 ·exact h1 x hx
 ·simp at hx
theorem OkK.join {u k : K} (hu : MayP u.f u.l ∧ Nrm u.f ∧ ∀ x ∈ u.l, Rng x) (hk : OkK k) : OkK ⟨k.key, joinV u.f k.f u.l k.l, joinL u.f k.f u.l k.l⟩ :=
 ⟨hk.key, join_ok hu.1 hk.may, nrm_join hu.2.1 hk.nrm _ _, rng_join hu.2.2 hk.rng⟩
theorem OkK.reap {u : K} (h : OkK u) : OkK ⟨u.key, reapV u.f u.l, reapL u.f u.l⟩ := ⟨h.key, reap_ok h.may, nrm_reap h.nrm _, rng_reap h.rng⟩
theorem zer_ok : MayP zer [] ∧ Nrm zer ∧ ∀ x ∈ ([] : List A), Rng x := ⟨may_zer, nrm_zer, fun x hx => by simp at hx⟩
theorem OkP.put {s : PS} (h : OkP s) {x : K} (hx : OkK x) (hl : (putG K.key x s.1).length ≤ 256) : OkP (putG K.key x s.1, s.2) :=
 ⟨fun y hy => by
  rcases (mem_putG K.key).1 hy with rfl | ⟨hy, -⟩
  ·exact hx
  ·exact h.ok y hy, sor_putG K.key h.sor, hl, h.set, h.rng⟩
theorem OkP.doR {s s' : PS} {r : RD} (h : OkP s) (hr : OkR r) (hd : doR s r = some s') : OkP s' := by
 obtain ⟨kind, node, k⟩ := r
 rcases hr.is with ⟨e, hn, hk⟩ | ⟨e, hn, hk⟩ | ⟨e, hn, hk, hf, hl⟩ | ⟨e, hn, hk, hf, hl⟩ <;> simp only at e hn hk <;> subst e
 ·unfold Go.Proofs.YthjbnpaghiojlaaGreat.doR at hd
  simp only [if_true] at hd
  split at hd
  ·rename_i he
   simp only [Option.some.injEq] at hd
   subst hd
   rcases joinR_ways s.1 k.key k.f k.l with ⟨-, e⟩ | ⟨-, -, -, -, e⟩ | ⟨-, -, hfn, hlen, e⟩ | ⟨u, -, -, hfn, e⟩
   ·rw [e] at he; simp at he
   ·rw [e] at he; simp at he
   ·rw [e]
    refine h.put (OkK.join (u := ⟨k.key, zer, []⟩) zer_ok hk) ?_
    rw [len_putG K.key h.sor]
    split <;> omega
   ·rw [e]
    have hu := h.ok u (fnd_mem K.key hfn).1
    refine h.put (OkK.join ⟨hu.may, hu.nrm, hu.rng⟩ hk) ?_
    rw [len_putG K.key h.sor, if_pos (by simp only; rw [hfn]; rfl)]
    exact h.few
  ·simp at hd
 ·unfold Go.Proofs.YthjbnpaghiojlaaGreat.doR at hd
  simp only [show ¬ (2 : Nat) = 1 by decide, if_false, if_true] at hd
  split at hd
  ·rename_i he
   simp only [Option.some.injEq] at hd
   subst hd
   refine ⟨h.ok, h.sor, h.few, h.set.hpR hk.nrm, fun y hy => ?_⟩
   rcases hpR_ways (X := s.2) ⟨node, k⟩ with ⟨-, e⟩ | ⟨-, -, -, e⟩ | ⟨ho, hfn, hlen, e⟩ | ⟨u, ho, hfn, e⟩ <;> rw [e] at hy
   ·exact h.rng y hy
   ·exact h.rng y hy
   ·rcases (mem_putGH HK.nk).1 hy with rfl | ⟨hy, -⟩
    ·exact hk.rng
    ·exact h.rng y hy
   ·rcases (mem_putGH HK.nk).1 hy with rfl | ⟨hy, -⟩
    ·exact rng_join (h.rng u (fnd_memH HK.nk hfn).1) hk.rng
    ·exact h.rng y hy
  ·simp at hd
 ·unfold Go.Proofs.YthjbnpaghiojlaaGreat.doR at hd
  simp only [show ¬ (3 : Nat) = 1 by decide, show ¬ (3 : Nat) = 2 by decide, if_false, if_true, Option.some.injEq] at hd
  subst hd
  exact ⟨h.ok, h.sor, h.few, h.set.del _, fun y hy => h.rng y ((mem_delG HK.nk).1 hy).1⟩
 ·unfold Go.Proofs.YthjbnpaghiojlaaGreat.doR at hd
  simp only [show ¬ (4 : Nat) = 1 by decide, show ¬ (4 : Nat) = 2 by decide, show ¬ (4 : Nat) = 3 by decide, if_false, Option.some.injEq] at hd
  subst hd
  unfold reapT
  cases hfn : fndG K.key k.key s.1 with
  | none => exact h
  | some u =>
   simp only
   split
   ·exact h
   ·have hu := h.ok u (fnd_mem K.key hfn).1
    have hku : u.key = k.key := (fnd_mem K.key hfn).2
    have := hu.reap
    rw [hku] at this
    refine h.put this ?_
    rw [len_putG K.key h.sor, if_pos (by simp only; rw [hfn]; rfl)]
    exact h.few
theorem Inv.lay {rs : List (List Nat)} {s s' : PS} {r : RD} (h : Inv rs s) (hr : OkR r) (hd : Go.Proofs.YthjbnpaghiojlaaGreat.doR s r = some s') (most : Nat) :
  (layE most rs s (enc r) = 0 → Inv (layL most rs s (enc r)) s') ∧ (layE most rs s (enc r) ≠ 0 → Inv (layL most rs s (enc r)) s) := by
 have ho := h.ok.doR hr hd
 unfold layE layL
 split
 ·exact ⟨fun _ => h.snoc hr hd ho, fun e => absurd rfl e⟩
 ·split
  ·exact ⟨fun e => by simp at e, fun _ => h⟩
  ·split
   ·exact ⟨fun _ => (Inv.cmp h.ok).snoc hr hd ho, fun e => absurd rfl e⟩
   ·exact ⟨fun e => by simp at e, fun _ => Inv.cmp h.ok⟩
end Go.Proofs.YthjbnpaghiojlaaGreat
