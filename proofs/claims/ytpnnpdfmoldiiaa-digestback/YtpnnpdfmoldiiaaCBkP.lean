/- Items of several texts. -/
import Derived.Lib.SlBytesConst
import Derived.Test.YtpnnpdfmoldiiaaCLiv
import Derived.Test.YtpnnpdfmoldiiaaCSRe
import Derived.Test.YtpnnpdfmoldiiaaCSWe
namespace Go.Proofs.Ytpnnpdfmoldiiaa
theorem put_put (most : Nat) (st : Option (List Nat)) (x y : List Nat) : putS most (putS most st x) y = putS most st (x ++ y) := by
 cases st with
 | none => rfl
 | some b =>
  simp only [putS]
  by_cases h : b.length + x.length ≤ most
  ·rw [if_pos h]
   simp only [List.length_append, List.append_assoc, Nat.add_assoc]
  ·rw [if_neg h]
   simp only [List.length_append]
   rw [if_neg (by omega)]
theorem put_none {most : Nat} {st : Option (List Nat)} (h : (st.getD []).length ≤ most) : putS most st [] = st := by
 cases st with
 | none => rfl
 | some b =>
  simp only [Option.getD_some] at h
  simp [putS, h]
def encV (f : Nat → Int) : Nat → List Nat
 | 0 => []
 | n + 1 => encV f n ++ numB (zig (f n))
theorem wrV_enc {most : Nat} {st : Option (List Nat)} (h : (st.getD []).length ≤ most) (f : Nat → Int) : ∀ n, wrV most st f n = putS most st (encV f n)
 | 0 => (put_none h).symm
 | n + 1 => by
  show putS most (wrV most st f n) _ = _
  rw [wrV_enc h f n, put_put]
  rfl
theorem bk_num {n : Nat} (h : n < 18446744073709551616) (l : List Nat) : numS (numB n ++ l, 0) = (n, (l, 0)) := by
 simp only [numS, ne_eq, not_true_eq_false, if_false]
 rw [rd_back l n 0 0 (by omega) (by omega) (by omega)]
 simp
theorem bk_int {i : Int} (h0 : -9223372036854775808 ≤ i) (h1 : i ≤ 9223372036854775807) (l : List Nat) : intS (numB (zig i) ++ l, 0) = (i, (l, 0)) := by
 simp only [intS]
 rw [bk_num (zig_lt h0 h1), unzig_zig]
theorem bk_count {n : Nat} (h : n < 18446744073709551616) (l : List Nat) {most : Nat} (hm : n ≤ most) : countS most (numB n ++ l, 0) = (n, (l, 0)) := by
 unfold countS
 rw [bk_num h, if_neg (by simp only; omega)]
theorem bk_over {n : Nat} (h : n < 18446744073709551616) (l : List Nat) {most : Nat} (hm : most < n) : countS most (numB n ++ l, 0) = (0, ([], 4)) := by
 unfold countS
 rw [bk_num h, if_pos (by simp only; omega)]
theorem bk_text (t l : List Nat) (h : t.length < 18446744073709551616) {most : Nat} (hm : t.length ≤ most) : textS most (numB t.length ++ (t ++ l), 0) = (t, (l, 0)) := by
 unfold textS
 rw [bk_count h _ hm]
 simp
theorem bk_long (t l : List Nat) (h : t.length < 18446744073709551616) {most : Nat} (hm : most < t.length) : textS most (numB t.length ++ (t ++ l), 0) = ([], ([], 4)) := by
 unfold textS
 rw [bk_over h _ hm]
 simp
theorem er_num {s : RS} (h : s.2 ≠ 0) : numS s = (0, s) := by simp [numS, h]
theorem er_int {s : RS} (h : s.2 ≠ 0) : (intS s).2 = s := by simp [intS, er_num h]
theorem er_vec {s : RS} (h : s.2 ≠ 0) : ∀ n, rdV s n = s
 | 0 => rfl
 | n + 1 => by show (intS (rdV s n)).2 = s; rw [er_vec h n, er_int h]
theorem node_back {n : Int} (h0 : -9223372036854775808 ≤ n) (h1 : n ≤ 9223372036854775807) : nodeP (u64N n) = n := by
 unfold nodeP u64N RowKit.wrap64
 omega
theorem bk_vec {f : Nat → Int} (hr : ∀ j, j < 8 → -9223372036854775808 ≤ f j ∧ f j ≤ 9223372036854775807) : ∀ n, n ≤ 8 → ∀ r, rdV (encV f n ++ r, 0) n = (r, 0)
 | 0, _, _ => rfl
 | n + 1, hn, r => by
  show (intS (rdV (encV f n ++ numB (zig (f n)) ++ r, 0) n)).2 = _
  rw [List.append_assoc, bk_vec hr n (by omega), bk_int (hr n (by omega)).1 (hr n (by omega)).2]
theorem bk_vecF {f : Nat → Int} (hr : ∀ j, j < 8 → -9223372036854775808 ≤ f j ∧ f j ≤ 9223372036854775807) {j : Nat} (hj : j < 8) (r : List Nat) : rdF (encV f 8 ++ r, 0) j = f j := by
 have key : ∀ d r, j + 1 + d ≤ 8 → rdF (encV f (j + 1 + d) ++ r, 0) j = f j := by
  intro d
  induction d with
  | zero =>
   intro r _
   unfold rdF
   show (intS (rdV (encV f j ++ numB (zig (f j)) ++ r, 0) j)).1 = _
   rw [List.append_assoc, bk_vec hr j (by omega), bk_int (hr j hj).1 (hr j hj).2]
  | succ d ih =>
   intro r h
   show rdF (encV f (j + 1 + d) ++ numB (zig (f (j + 1 + d))) ++ r, 0) j = _
   rw [List.append_assoc]
   exact ih _ (by omega)
 have := key (7 - j) r (by omega)
 rwa [show j + 1 + (7 - j) = 8 by omega] at this
theorem mayB_congr {f g : Nat → Int} (h : ∀ j, j < 8 → f j = g j) : mayB f = mayB g := by
 unfold mayB
 exact decide_eq_decide.2 ⟨fun k j hj => by rw [← h j hj]; exact k j hj, fun k j hj => by rw [h j hj]; exact k j hj⟩
theorem strOf_key (key : ByteArray) : strOf (keyL key) = key := by
 have h : (strOf (keyL key)).data = key.data := by
  apply Array.toList_inj.1
  simp [strOf, strOfNums, keyL, Function.comp_def]
 cases hk : strOf (keyL key)
 cases key
 rw [hk] at h
 simp only at h
 rw [h]
theorem encV_lt (f : Nat → Int) : ∀ n, ∀ x ∈ encV f n, x < 256
 | 0, x, hx => by simp [encV] at hx
 | n + 1, x, hx => by
  rcases List.mem_append.1 hx with h | h
  ·exact encV_lt f n x h
  ·exact numB_lt _ _ h
theorem keyL_lt (key : ByteArray) : ∀ x ∈ keyL key, x < 256 := by
 intro x hx
 simp only [keyL, List.mem_map] at hx
 obtain ⟨u, -, rfl⟩ := hx
 exact u.toNat_lt
end Go.Proofs.Ytpnnpdfmoldiiaa
